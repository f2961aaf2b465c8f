/-
  The document's answer: whether a message may be.
-/
import Derived.Test.YtbcemghkmmbmdaaMsWr2
namespace Go.Proofs.Ytbcemghkmmbmdaa.Msg
open Go.RowKit Route Order

theorem in_any (n m : Int) (w : World) : Calls Try.prog 28 #[.int .i64 n, .int .i64 m] w fun e w' => e = .returned (.bool (isIn n 0 m)) ∧ w' = w := by
  unfold isIn
  by_cases h1 : 0 ≤ n
  · by_cases h2 : n ≤ m
    · go_enter Try.func28, Try.ntmps28
      go_wp2
      go_ret
      exact ⟨by simp; omega, rfl⟩
    · go_enter Try.func28, Try.ntmps28
      go_wp2
      go_ret
      exact ⟨by simp; omega, rfl⟩
  · go_enter Try.func28, Try.ntmps28
    go_wp2
    go_ret
    exact ⟨by simp; omega, rfl⟩

/-- What 'proofs' comes to. -/
def PrO (l : List Pf) (w : World) (e : Ending) (w' : World) : Prop := e = .returned (.bool (pfsB l 64)) ∧ Below w.heap.size w w'

set_option maxHeartbeats 4000000 in
set_option maxRecDepth 100000 in
theorem refProofs_any (a : Option Addr) (n cap : Nat) (l : List Pf) (w : World) (hn : n = l.length) (hl : LiesP w a l) :
    Calls Try.prog 29 #[.slice a n cap] w (PrO l w) := by
  have HN : Hid (n = l.length) := hn
  have HL : Hid (LiesP w a l) := hl
  have HNo : Hid (∀ e w', ¬ (l.length ≤ 64 ∧ ∀ x ∈ l, PfOk x) → e = .returned (.bool false) → Below w.heap.size w w' → PrO l w e w') := fun e w' h1 h2 h3 => ⟨by rw [show pfsB l 64 = false from by cases h : pfsB l 64 with | false => rfl | true => exact absurd (pfsB_iff.1 h) h1]; exact h2, h3⟩
  have HYes : Hid (∀ e w', (l.length ≤ 64 ∧ ∀ x ∈ l, PfOk x) → e = .returned (.bool true) → Below w.heap.size w w' → PrO l w e w') := fun e w' h1 h2 h3 => ⟨by rw [pfsB_iff.2 h1]; exact h2, h3⟩
  clear hn hl
  by_cases hbig : 64 < n
  · go_enter Try.func29, Try.ntmps29
    go_wp2
    go_ret
    exact HNo.out _ _ (fun h => by have := HN.out; omega) rfl (Below.refl _ _)
  · have hsm : n ≤ 64 := by omega
    go_enter Try.func29, Try.ntmps29
    go_wp2
    go_loopw [3] (fun t3 wr => ∃ i : Nat, t3 = .int .i64 (i : Int) ∧ i ≤ n ∧ Hid (Below w.heap.size w wr) ∧ Hid (∀ j (hj : j < l.length), j < i → PfOk l[j])) (fun t3 _ => n - (intOf t3).toNat)
    case atStart => exact ⟨0, rfl, Nat.zero_le _, Below.refl _ _, fun j _ hj => by omega⟩
    case round =>
      obtain ⟨i, rfl, hi, HB, HI⟩ := hrel
      by_cases hin : i < n
      · have hil : i < l.length := by rw [← HN.out]; exact hin
        obtain ⟨x, hx, g0, g1, g2, fa, fc, g3, hf⟩ := (HL.out.below HB.out (Nat.le_refl _)).at hil
        subst hx
        have hix := index_pf x n cap i hin
        rw [pfAt_get hil] at g0 g1 g2 g3 hf
        generalize x.add (i * 4) = q at g0 g1 g2 g3 hix
        generalize hv : l[i] = v at g0 g1 g2 g3 hf
        have HV : Hid (l[i] = v) := hv
        obtain ⟨v0, v1, bd, fr⟩ := v
        simp only at g0 g1 g2 g3 hf
        obtain ⟨z, hz⟩ : ∃ z, z = bd.size := ⟨_, rfl⟩
        obtain ⟨k, hk⟩ : ∃ k, k = fr.length := ⟨_, rfl⟩
        have l1 := len_text bd z hz
        have HZ : Hid (z = bd.size ∧ k = fr.length) := ⟨hz, hk⟩
        rw [← hk] at g3
        obtain ⟨W2, hW2⟩ : ∃ W2, W2 = wr.alloc (.cells #[.int .i64 v0, .int .i64 v1, .string bd, .slice fa k fc] 89) := ⟨_, rfl⟩
        have HW2 : Hid (W2 = _) := hW2
        have hb2 : Below wr.heap.size wr W2 := by rw [hW2]; exact (Below.refl _ _).alloc (Nat.le_refl _) _
        have HB2 : Hid (Below w.heap.size w W2) := HB.out.trans (hb2.mono HB.out.size)
        have HLF : Hid (LiesI W2 fa fr) := hf.below hb2 (Nat.le_refl _)
        obtain ⟨y0, y1, y2, y3⟩ := four4 (show W2.heap[wr.heap.size]? = _ by rw [hW2]; exact box_new _ _ _)
        have HBad : Hid (¬ PfOk (v0, v1, bd, fr) → ¬ (l.length ≤ 64 ∧ ∀ x ∈ l, PfOk x)) := fun h1 h2 => h1 (HV.out ▸ h2.2 _ (List.getElem_mem hil))
        clear hv hz hk hf hW2 hb2
        go_wp2_with fail
        rw [← HW2.out]
        clear g0 g1 g2 g3 hix
        go_wp2_with fail
        refine (in_any v0 64 _).mono ?_
        rintro e w3 ⟨rfl, rfl⟩
        cases q1 : isIn v0 0 64 with
        | false =>
          go_wp2
          go_ret
          exact HNo.out _ _ (HBad.out fun h => by have := isIn_iff.2 h.v; simp only at this; rw [q1] at this; cases this) rfl HB2.out
        | true =>
          have HQ1 : Hid (_ = _) := q1
          clear q1
          go_wp2_with fail
          refine (in_any v1 64 _).mono ?_
          rintro e w4 ⟨rfl, rfl⟩
          cases q2 : isIn v1 0 64 with
          | false =>
            go_wp2
            go_ret
            exact HNo.out _ _ (HBad.out fun h => by have := isIn_iff.2 h.s; simp only at this; rw [q2] at this; cases this) rfl HB2.out
          | true =>
            have HQ2 : Hid (_ = _) := q2
            clear q2
            by_cases h3 : 4096 < z
            · go_wp2
              go_ret
              exact HNo.out _ _ (HBad.out fun h => by have := h.b; have := HZ.out.1; simp only at *; omega) rfl HB2.out
            · by_cases h4 : 13 < k
              · go_wp2
                go_ret
                exact HNo.out _ _ (HBad.out fun h => by have := h.n; have := HZ.out.2; simp only at *; omega) rfl HB2.out
              · have HQ3 : Hid (bd.size ≤ 4096 ∧ fr.length ≤ 13) := by have := HZ.out; constructor <;> omega
                go_wp2
                go_loopw [5] (fun t5 wq => ∃ j : Nat, t5 = .int .i64 (j : Int) ∧ j ≤ k ∧ w4 = wq ∧ Hid (∀ u (hu : u < fr.length), u < j → 0 ≤ fr[u] ∧ fr[u] ≤ 12)) (fun t5 _ => k - (intOf t5).toNat)
                case atStart => exact ⟨0, rfl, Nat.zero_le _, rfl, fun j _ hj => by omega⟩
                case round =>
                  obtain ⟨j, rfl, hj, rfl, HJ⟩ := hrel
                  by_cases hjk : j < k
                  · have hjl : j < fr.length := by rw [← HZ.out.2]; exact hjk
                    obtain ⟨xf, hxf, g5⟩ := HLF.out.at hjl
                    subst hxf
                    have hif := index_int xf k fc j hjk
                    rw [inAt_get hjl] at g5
                    generalize xf.add (j * 1) = qf at g5 hif
                    generalize hn : fr[j] = nd at g5
                    have HND : Hid (fr[j] = nd) := hn
                    clear hn
                    go_wp2_with fail
                    refine (in_any nd 12 _).mono ?_
                    rintro e w5 ⟨rfl, rfl⟩
                    cases q5 : isIn nd 0 12 with
                    | false =>
                      go_wp2
                      go_ret
                      exact HNo.out _ _ (HBad.out fun h => by have := isIn_iff.2 (h.f _ (List.getElem_mem hjl)); rw [HND.out, q5] at this; cases this) rfl HB2.out
                    | true =>
                      have HJ2 : Hid (∀ u (hu : u < fr.length), u < j + 1 → 0 ≤ fr[u] ∧ fr[u] ≤ 12) := fun u hu h => by
                        by_cases e : u = j
                        · subst e; rw [HND.out]; exact isIn_iff.1 q5
                        · exact HJ.out u hu (by omega)
                      clear HJ q5
                      go_wp2
                      go_roundw
                      case rel => exact ⟨j + 1, by go_num, by omega, by first | rfl | trivial, HJ2⟩
                      case measure => simp [intOf]; omega
                  · have HI2 : Hid (∀ j (hj : j < l.length), j < i + 1 → PfOk l[j]) := fun u hu h => by
                      by_cases e : u = i
                      · subst e
                        rw [HV.out]
                        exact ⟨isIn_iff.1 HQ1.out, isIn_iff.1 HQ2.out, HQ3.out.1, HQ3.out.2, fun x hx => by
                          obtain ⟨y, hy, rfl⟩ := List.getElem_of_mem hx
                          exact HJ.out y hy (by have := HZ.out.2; have hy2 : y < fr.length := hy; omega)⟩
                      · exact HI.out u hu (by omega)
                    clear HI HJ
                    go_wp2
                    go_roundw
                    case rel => exact ⟨i + 1, by go_num, by omega, HB2, HI2⟩
                    case measure => simp [intOf]; omega
      · have HF : Hid (l.length ≤ 64 ∧ ∀ x ∈ l, PfOk x) := ⟨by rw [← HN.out]; exact hsm, fun e he => by
          obtain ⟨j, hj, rfl⟩ := List.getElem_of_mem he
          exact HI.out j hj (by have := HN.out; omega)⟩
        go_wp2
        go_ret
        exact HYes.out _ _ HF.out rfl HB.out
end Go.Proofs.Ytbcemghkmmbmdaa.Msg
