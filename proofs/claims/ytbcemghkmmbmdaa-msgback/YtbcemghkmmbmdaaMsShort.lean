/-
  Whether a message is short, whatever it is.
-/
import Derived.Test.YtbcemghkmmbmdaaMsMay3
namespace Go.Proofs.Ytbcemghkmmbmdaa.Msg
open Go.RowKit Route

def ShP (l : List Pf) : Prop := l.length ≤ 200 ∧ ∀ e ∈ l, e.2.2.1.size ≤ 5000 ∧ e.2.2.2.length ≤ 100
def ShM (m : Ms) : Prop := ShP m.p ∧ m.b.size ≤ 5000 ∧ m.c.length ≤ 50 ∧ ∀ e ∈ m.c, ShP e.2.2
theorem ShM.fit {m : Ms} (h : ShM m) : Fit m := by
  have fp : ∀ l : List Pf, ShP l → FitP l := fun l hl e he => ⟨by have := (hl.2 e he).1; omega, by have := (hl.2 e he).2; omega⟩
  exact ⟨by have := h.2.1; omega, by have := h.1.1; omega, fp _ h.1, by have := h.2.2.1; omega, fun e he => ⟨by have := (h.2.2.2 e he).1; omega, fp _ (h.2.2.2 e he)⟩⟩

/-- What the two tell. -/
def ShPo (l : List Pf) (w : World) (e : Ending) (w' : World) : Prop := ∃ b, e = .returned (.bool b) ∧ (b = true → ShP l) ∧ w' = w
theorem ShPo.no {l : List Pf} {w w' : World} {e : Ending} (h : e = .returned (.bool false)) (hw : w' = w) : ShPo l w e w' := ⟨false, h, (fun h => by cases h), hw⟩
theorem ShPo.yes {l : List Pf} {w w' : World} {e : Ending} (h : e = .returned (.bool true)) (hs : ShP l) (hw : w' = w) : ShPo l w e w' := ⟨true, h, fun _ => hs, hw⟩
def ShMo (m : Ms) (w : World) (e : Ending) (w' : World) : Prop := ∃ b, e = .returned (.bool b) ∧ (b = true → ShM m) ∧ Below w.heap.size w w'
theorem ShMo.no {m : Ms} {w w' : World} {e : Ending} (h : e = .returned (.bool false)) (hw : Below w.heap.size w w') : ShMo m w e w' := ⟨false, h, (fun h => by cases h), hw⟩
theorem ShMo.yes {m : Ms} {w w' : World} {e : Ending} (h : e = .returned (.bool true)) (hs : ShM m) (hw : Below w.heap.size w w') : ShMo m w e w' := ⟨true, h, fun _ => hs, hw⟩

set_option maxHeartbeats 4000000 in
set_option maxRecDepth 100000 in
theorem shortP_any (a : Option Addr) (n cap : Nat) (l : List Pf) (w : World) (hn : n = l.length) (hl : LiesP w a l) :
    Calls Try.prog 25 #[.slice a n cap] w (ShPo l w) := by
  have HN : Hid (n = l.length) := hn
  have HL : Hid (LiesP w a l) := hl
  clear hn hl
  by_cases hbig : 200 < n
  · go_enter Try.func25, Try.ntmps25
    go_wp2
    go_ret
    exact ShPo.no rfl rfl
  · have hsm : n ≤ 200 := by omega
    go_enter Try.func25, Try.ntmps25
    go_wp2
    go_loopw [3] (fun t3 wr => ∃ i : Nat, t3 = .int .i64 (i : Int) ∧ i ≤ n ∧ w = wr ∧ Hid (∀ j (hj : j < l.length), j < i → l[j].2.2.1.size ≤ 5000 ∧ l[j].2.2.2.length ≤ 100)) (fun t3 _ => n - (intOf t3).toNat)
    case atStart => exact ⟨0, rfl, Nat.zero_le _, rfl, fun j _ hj => by omega⟩
    case round =>
      obtain ⟨i, rfl, hi, rfl, HI⟩ := hrel
      by_cases hin : i < n
      · have hil : i < l.length := by rw [← HN.out]; exact hin
        obtain ⟨x, hx, g0, g1, g2, fa, fc, g3, hf⟩ := HL.out.at hil
        subst hx
        have hix := index_pf x n cap i hin
        rw [pfAt_get hil] at g2 g3
        generalize x.add (i * 4) = q at g2 g3 hix
        generalize hv : l[i] = v at g2 g3
        have HV : Hid (l[i] = v) := hv
        obtain ⟨v0, v1, bd, fr⟩ := v
        simp only at g2 g3
        obtain ⟨z, hz⟩ : ∃ z, z = bd.size := ⟨_, rfl⟩
        obtain ⟨k, hk⟩ : ∃ k, k = fr.length := ⟨_, rfl⟩
        have l1 := len_text bd z hz
        have HZ : Hid (z = bd.size ∧ k = fr.length) := ⟨hz, hk⟩
        rw [← hk] at g3
        clear hv hz hk g0 g1 hf
        by_cases h1 : 5000 < z
        · go_wp2
          go_ret
          exact ShPo.no rfl rfl
        · by_cases h2 : 100 < k
          · go_wp2
            go_ret
            exact ShPo.no rfl rfl
          · have HI2 : Hid (∀ j (hj : j < l.length), j < i + 1 → l[j].2.2.1.size ≤ 5000 ∧ l[j].2.2.2.length ≤ 100) := fun j hj h => by
              by_cases e : j = i
              · subst e
                rw [HV.out]
                have := HZ.out
                simp only
                omega
              · exact HI.out j hj (by omega)
            clear HI
            go_wp2
            go_roundw
            case rel => exact ⟨i + 1, by go_num, by omega, by first | rfl | trivial, HI2⟩
            case measure => simp [intOf]; omega
      · have HF : Hid (ShP l) := ⟨by rw [← HN.out]; exact hsm, fun e he => by
          obtain ⟨j, hj, rfl⟩ := List.getElem_of_mem he
          exact HI.out j hj (by have := HN.out; omega)⟩
        go_wp2
        go_ret
        exact ShPo.yes rfl HF.out rfl

set_option maxHeartbeats 4000000 in
set_option maxRecDepth 100000 in
theorem short_any (m : Ms) (a : Option Addr) (n c : Nat) (a' : Option Addr) (n' c' : Nat) (w : World) (hM : MsIn w m a n a' n') :
    Calls Try.prog 10 #[.agg (msV m a n c a' n' c')] w (ShMo m w) := by
  obtain ⟨k, f, v, s, bd, pl, cl⟩ := m
  obtain ⟨hn, hp, hn', hc⟩ := hM
  simp only at hn hp hn' hc
  show Calls Try.prog 10 #[.agg #[.int .i64 k, .int .i64 f, .int .i64 v, .int .i64 s, .string bd, .slice a n c, .slice a' n' c']] w _
  obtain ⟨W1, hW1⟩ : ∃ W1, W1 = w.alloc (.cells #[.int .i64 k, .int .i64 f, .int .i64 v, .int .i64 s, .string bd, .slice a n c, .slice a' n' c'] 25) := ⟨_, rfl⟩
  have HW1 : Hid (W1 = _) := hW1
  have hB1 : Below w.heap.size w W1 := by rw [hW1]; exact (Below.refl _ _).alloc (Nat.le_refl _) _
  have HB1 : Hid (Below w.heap.size w W1) := hB1
  have HC : Hid (Calls _ _ _ _ _) := shortP_any a n c pl W1 hn (hp.below hB1 (Nat.le_refl _))
  obtain ⟨y0, y1, y2, y3, y4, y5, y6⟩ := seven7 (show W1.heap[w.heap.size]? = _ by rw [hW1]; exact box_new _ _ _)
  have HLC : Hid (LiesC W1 a' cl) := hc.below hB1 (Nat.le_refl _)
  have HN : Hid (n' = cl.length) := hn'
  obtain ⟨z, hz⟩ : ∃ z, z = bd.size := ⟨_, rfl⟩
  have l1 := len_text bd z hz
  have HZ : Hid (z = bd.size) := hz
  clear hn hp hn' hc hW1 hB1 hz y0 y1 y2 y3
  go_enter Try.func10, Try.ntmps10
  go_wp2_with fail
  rw [← HW1.out]
  go_wp2_with fail
  refine HC.out.mono ?_
  rintro e w2 ⟨b, rfl, hS, rfl⟩
  have HS : Hid (b = true → ShP pl) := hS
  clear hS
  clear HC
  cases b with
  | false =>
    go_wp2
    go_ret
    exact ShMo.no rfl HB1.out
  | true =>
    by_cases h1 : 5000 < z
    · go_wp2
      go_ret
      exact ShMo.no rfl HB1.out
    · by_cases h2 : 50 < n'
      · go_wp2
        go_ret
        exact ShMo.no rfl HB1.out
      · have hsm : n' ≤ 50 := by omega
        have HSP : Hid (ShP pl ∧ bd.size ≤ 5000) := ⟨HS.out rfl, by have := HZ.out; omega⟩
        clear HS
        go_wp2
        go_loopw [4] (fun t4 wr => ∃ i : Nat, t4 = .int .i64 (i : Int) ∧ i ≤ n' ∧ w2 = wr ∧ Hid (∀ j (hj : j < cl.length), j < i → ShP cl[j].2.2)) (fun t4 _ => n' - (intOf t4).toNat)
        case atStart => exact ⟨0, rfl, Nat.zero_le _, rfl, fun j _ hj => by omega⟩
        case round =>
          obtain ⟨i, rfl, hi, rfl, HI⟩ := hrel
          by_cases hin : i < n'
          · have hil : i < cl.length := by rw [← HN.out]; exact hin
            obtain ⟨x, hx, g0, g1, fa, fc, g3, hf⟩ := HLC.out.at hil
            subst hx
            have hix := index_ch x n' c' i hin
            rw [chAt_get hil] at g3 hf
            generalize x.add (i * 3) = q at g3 hix
            generalize hv : cl[i] = v at g3 hf
            have HV : Hid (cl[i] = v) := hv
            obtain ⟨v0, v1, fr⟩ := v
            simp only at g3 hf
            obtain ⟨kn, hk⟩ : ∃ k, k = fr.length := ⟨_, rfl⟩
            rw [← hk] at g3
            have HC : Hid (Calls _ _ _ _ _) := shortP_any fa kn fc fr w2 hk hf
            clear hv hk g0 g1 hf
            go_wp2_with fail
            refine HC.out.mono ?_
            rintro e w3 ⟨b, rfl, hS, rfl⟩
            have HS : Hid (b = true → ShP fr) := hS
            clear hS
            clear HC
            cases b with
            | false =>
              go_wp2
              go_ret
              exact ShMo.no rfl HB1.out
            | true =>
              have HI2 : Hid (∀ j (hj : j < cl.length), j < i + 1 → ShP cl[j].2.2) := fun j hj h => by
                by_cases e : j = i
                · subst e; rw [HV.out]; exact HS.out rfl
                · exact HI.out j hj (by omega)
              clear HI HS
              go_wp2
              go_roundw
              case rel => exact ⟨i + 1, by go_num, by omega, by first | rfl | trivial, HI2⟩
              case measure => simp [intOf]; omega
          · have HF : Hid (ShM ⟨k, f, v, s, bd, pl, cl⟩) := ⟨HSP.out.1, HSP.out.2, by simp only; rw [← HN.out]; exact hsm, fun e he => by
              obtain ⟨j, hj, rfl⟩ := List.getElem_of_mem he
              exact HI.out j hj (by have := HN.out; have hj2 : j < cl.length := hj; omega)⟩
            go_wp2
            go_ret
            exact ShMo.yes rfl HF.out HB1.out
end Go.Proofs.Ytbcemghkmmbmdaa.Msg
