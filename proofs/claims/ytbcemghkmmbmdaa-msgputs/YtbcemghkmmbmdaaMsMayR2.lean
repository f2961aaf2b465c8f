/-
  The document's answer: whether a message may be, whole.
-/
import Derived.Test.YtbcemghkmmbmdaaMsMayR
import Derived.Test.YtbcemghkmmbmdaaMsShort
namespace Go.Proofs.Ytbcemghkmmbmdaa.Msg
open Go.RowKit Route Order

/-- What 'May' comes to. -/
def MayO (m : Ms) (w : World) (e : Ending) (w' : World) : Prop := e = .returned (.bool (mayB m)) ∧ Below w.heap.size w w'
theorem mayB_no {m : Ms} (h : ¬ MsOk m) : mayB m = false := by
  cases hb : mayB m with
  | false => rfl
  | true => exact absurd (mayB_iff.1 hb) h

set_option maxHeartbeats 8000000 in
set_option maxRecDepth 100000 in
theorem may_any (m : Ms) (a : Option Addr) (n c : Nat) (a' : Option Addr) (n' c' : Nat) (w : World) (hM : MsIn w m a n a' n') (hF : ShM m) :
    Calls Try.prog 13 #[.agg (msV m a n c a' n' c')] w (MayO m w) := by
  obtain ⟨k, f, v, s, bd, pl, cl⟩ := m
  have HNo : Hid (∀ e w', ¬ MsOk ⟨k, f, v, s, bd, pl, cl⟩ → e = .returned (.bool false) → Below w.heap.size w w' → MayO ⟨k, f, v, s, bd, pl, cl⟩ w e w') := fun e w' h1 h2 h3 => ⟨by rw [mayB_no h1]; exact h2, h3⟩
  have HYes : Hid (∀ e w', MsOk ⟨k, f, v, s, bd, pl, cl⟩ → e = .returned (.bool true) → Below w.heap.size w w' → MayO ⟨k, f, v, s, bd, pl, cl⟩ w e w') := fun e w' h1 h2 h3 => ⟨by rw [mayB_iff.2 h1]; exact h2, h3⟩
  obtain ⟨hn, hp, hn', hc⟩ := hM
  simp only at hn hp hn' hc
  show Calls Try.prog 13 #[.agg #[.int .i64 k, .int .i64 f, .int .i64 v, .int .i64 s, .string bd, .slice a n c, .slice a' n' c']] w _
  obtain ⟨W1, hW1⟩ : ∃ W1, W1 = w.alloc (.cells #[.int .i64 k, .int .i64 f, .int .i64 v, .int .i64 s, .string bd, .slice a n c, .slice a' n' c'] 25) := ⟨_, rfl⟩
  have HW1 : Hid (W1 = _) := hW1
  have hB1 : Below w.heap.size w W1 := by rw [hW1]; exact (Below.refl _ _).alloc (Nat.le_refl _) _
  have HB1 : Hid (Below w.heap.size w W1) := hB1
  have HCP : Hid (Calls _ _ _ _ _) := refProofs_any a n c pl W1 hn (hp.below hB1 (Nat.le_refl _))
  have hbx : W1.heap[w.heap.size]? = some (.cells #[.int .i64 k, .int .i64 f, .int .i64 v, .int .i64 s, .string bd, .slice a n c, .slice a' n' c'] 25 (0, 0)) := by rw [hW1]; exact box_new _ _ _
  have HBX : Hid (_ = _) := hbx
  obtain ⟨y0, y1, y2, y3, y4, y5, y6⟩ := seven7 hbx
  have HLC : Hid (LiesC W1 a' cl) := hc.below hB1 (Nat.le_refl _)
  have HN : Hid (n = pl.length ∧ n' = cl.length) := ⟨hn, hn'⟩
  have hnb : n ≤ 200 := by have := hF.1.1; simp only at this; omega
  have hnb' : n' ≤ 50 := by have := hF.2.2.1; simp only at this; omega
  obtain ⟨z, hz⟩ : ∃ z, z = bd.size := ⟨_, rfl⟩
  have l1 := len_text bd z hz
  have HZ : Hid (z = bd.size) := hz
  clear hn hp hn' hc hW1 hB1 hz hF hbx
  by_cases hk7 : k = 7
  · subst hk7
    have HSS : Hid (MsOk ⟨7, f, v, s, bd, pl, cl⟩ → 0 ≤ s ∧ s ≤ 1000) := fun h => by have := h.s; simpa using this
    go_enter Try.func13, Try.ntmps13
    go_wp2_with fail
    rw [← HW1.out]
    go_wp2_with fail
    refine (in_any f 12 _).mono ?_
    rintro e wq1 ⟨rfl, hwq1⟩
    subst hwq1
    cases q1 : isIn f 0 12 with
    | false =>
      go_wp2
      go_ret
      exact HNo.out _ _ (fun h => by have := h.f; simp only at this; have := isIn_iff.2 this; rw [q1] at this; cases this) rfl HB1.out
    | true =>
      have Hq1 : Hid (_ = _) := q1
      clear q1
      go_wp2_with fail
      refine (in_any v 64 _).mono ?_
      rintro e wq2 ⟨rfl, hwq2⟩
      subst hwq2
      cases q2 : isIn v 0 64 with
      | false =>
        go_wp2
        go_ret
        exact HNo.out _ _ (fun h => by have := h.v; simp only at this; have := isIn_iff.2 this; rw [q2] at this; cases this) rfl HB1.out
      | true =>
        have Hq2 : Hid (_ = _) := q2
        clear q2
        go_wp2_with fail
        refine (in_any s 1000 _).mono ?_
        rintro e wq3 ⟨rfl, hwq3⟩
        subst hwq3
        cases q3 : isIn s 0 1000 with
        | false =>
          go_wp2
          go_ret
          exact HNo.out _ _ (fun h => by have := HSS.out h; have := isIn_iff.2 this; rw [q3] at this; cases this) rfl HB1.out
        | true =>
          have Hq3 : Hid (_ = _) := q3
          clear q3
          by_cases h4 : 4096 < z
          · go_wp2
            go_ret
            exact HNo.out _ _ (fun h => by have := h.b; have := HZ.out; simp only at *; omega) rfl HB1.out
          by_cases h5 : 0 < n
          · go_wp2
            go_ret
            exact HNo.out _ _ (fun h => by rcases h.pk with e | e; (simp only at e; have := HN.out.1; rw [e] at this; simp at this; omega); (simp only at e; omega)) rfl HB1.out
          by_cases h6 : 0 < n'
          · go_wp2
            go_ret
            exact HNo.out _ _ (fun h => by rcases h.ck with e | e; (simp only at e; have := HN.out.2; rw [e] at this; simp at this; omega); (simp only at e; omega)) rfl HB1.out
          have HC1 : Hid ((pl = [] ∨ (7 : Int) = 5) ∧ (cl = [] ∨ (7 : Int) = 6) ∧ bd.size ≤ 4096) := ⟨.inl (List.eq_nil_of_length_eq_zero (by have := HN.out.1; omega)), .inl (List.eq_nil_of_length_eq_zero (by have := HN.out.2; omega)), by have := HZ.out; omega⟩
          go_wp2_with fail
          refine HCP.out.mono ?_
          rintro e w5 ⟨rfl, hb5⟩
          have HX5 : Hid (∀ W, Below w5.heap.size w5 W → W.heap[w.heap.size]? = some (.cells #[.int .i64 7, .int .i64 f, .int .i64 v, .int .i64 s, .string bd, .slice a n c, .slice a' n' c'] 25 (0, 0)) ∧ LiesC W a' cl) := fun W hb => ⟨box_stays (box_stays HBX.out hb5 (Nat.le_refl _)) hb (Nat.le_refl _), (HLC.out.below hb5 (Nat.le_refl _)).below hb (Nat.le_refl _)⟩
          have HB5 : Hid (Below w.heap.size w w5) := HB1.out.trans (hb5.mono HB1.out.size)
          have HP0 : Hid (pfsB pl 64 = true ↔ pl.length ≤ 64 ∧ ∀ x ∈ pl, PfOk x) := pfsB_iff
          generalize pfsB pl 64 = r0 at *
          clear HCP hb5 y0 y1 y2 y3 y4 y5 y6
          obtain ⟨x0, x1, x2, x3, x4, x5, x6⟩ := seven7 (HX5.out w5 (Below.refl _ _)).1
          go_wp2
          go_loopw [4, 5] (fun t4 t5 wr => ∃ (i : Nat) (r : Bool), t4 = .bool r ∧ t5 = .int .i64 (i : Int) ∧ i ≤ n' ∧ Hid (Below w5.heap.size w5 wr) ∧ Hid (r = true ↔ r0 = true ∧ ∀ j (hj : j < cl.length), j < i → ChOk cl[j])) (fun _ t5 _ => n' - (intOf t5).toNat)
          case atStart => exact ⟨0, r0, rfl, rfl, Nat.zero_le _, Below.refl _ _, ⟨fun h => ⟨h, fun j _ hj => by omega⟩, fun h => h.1⟩⟩
          case round =>
            obtain ⟨i, r, rfl, rfl, hi, HB, HI⟩ := hrel
            clear x0 x1 x2 x3 x4 x5 x6
            obtain ⟨x0, x1, x2, x3, x4, x5, x6⟩ := seven7 (HX5.out wr HB.out).1
            by_cases hin : i < n'
            · exact absurd hin (by omega)
            · have HBW : Hid (Below w.heap.size w wr) := HB5.out.trans (HB.out.mono HB5.out.size)
              cases r with
              | false =>
                have HX : Hid (¬ MsOk ⟨7, f, v, s, bd, pl, cl⟩) := fun h => by
                  have := HI.out.2 ⟨HP0.out.2 ⟨h.pn, h.p⟩, fun j hj _ => h.c _ (List.getElem_mem hj)⟩
                  cases this
                clear HI
                go_wp2
                go_ret
                exact HNo.out _ _ HX.out rfl HBW.out
              | true =>
                have HX : Hid (MsOk ⟨7, f, v, s, bd, pl, cl⟩) := by
                  have h0 := HI.out.1 rfl
                  have h1 := HP0.out.1 h0.1
                  exact ⟨⟨by simp, by simp⟩, isIn_iff.1 Hq1.out, isIn_iff.1 Hq2.out, by have := isIn_iff.1 Hq3.out; simpa using this, HC1.out.2.2, h1.1, HC1.out.1, h1.2, by have := HN.out.2; simp only; omega, HC1.out.2.1, fun x hx => by
                    obtain ⟨y, hy, rfl⟩ := List.getElem_of_mem hx
                    exact h0.2 y hy (by have := HN.out.2; have hy2 : y < cl.length := hy; omega)⟩
                clear HI
                go_wp2
                go_ret
                exact HYes.out _ _ HX.out rfl HBW.out
  · have HSS : Hid (MsOk ⟨k, f, v, s, bd, pl, cl⟩ → 0 ≤ s ∧ s ≤ 64) := fun h => by have := h.s; simp only [hk7, if_false] at this; exact this
    have e7 : (k == 7) = false := by simp [hk7]
    by_cases k1 : k < 1
    · go_enter Try.func13, Try.ntmps13
      go_wp2_with fail
      rw [← HW1.out]
      go_wp2
      go_ret
      exact HNo.out _ _ (fun h => by have := h.k; simp only at this; omega) rfl HB1.out
    by_cases k2 : 7 < k
    · go_enter Try.func13, Try.ntmps13
      go_wp2_with fail
      rw [← HW1.out]
      go_wp2
      go_ret
      exact HNo.out _ _ (fun h => by have := h.k; simp only at this; omega) rfl HB1.out
    go_enter Try.func13, Try.ntmps13
    go_wp2_with fail
    rw [← HW1.out]
    go_wp2_with fail
    refine (in_any f 12 _).mono ?_
    rintro e wq1 ⟨rfl, hwq1⟩
    subst hwq1
    cases q1 : isIn f 0 12 with
    | false =>
      go_wp2
      go_ret
      exact HNo.out _ _ (fun h => by have := h.f; simp only at this; have := isIn_iff.2 this; rw [q1] at this; cases this) rfl HB1.out
    | true =>
      have Hq1 : Hid (_ = _) := q1
      clear q1
      go_wp2_with fail
      refine (in_any v 64 _).mono ?_
      rintro e wq2 ⟨rfl, hwq2⟩
      subst hwq2
      cases q2 : isIn v 0 64 with
      | false =>
        go_wp2
        go_ret
        exact HNo.out _ _ (fun h => by have := h.v; simp only at this; have := isIn_iff.2 this; rw [q2] at this; cases this) rfl HB1.out
      | true =>
        have Hq2 : Hid (_ = _) := q2
        clear q2
        go_wp2_with fail
        refine (in_any s 64 _).mono ?_
        rintro e wq3 ⟨rfl, hwq3⟩
        subst hwq3
        cases q3 : isIn s 0 64 with
        | false =>
          go_wp2
          go_ret
          exact HNo.out _ _ (fun h => by have := HSS.out h; have := isIn_iff.2 this; rw [q3] at this; cases this) rfl HB1.out
        | true =>
          have Hq3 : Hid (_ = _) := q3
          clear q3
          by_cases h4 : 4096 < z
          · go_wp2
            go_ret
            exact HNo.out _ _ (fun h => by have := h.b; have := HZ.out; simp only at *; omega) rfl HB1.out
          by_cases h5 : 0 < n
          · by_cases h5k : k = 5
            · have HK5 : Hid (k = 5) := h5k
              have e5 : (k != 5) = false := by simp [h5k]
              have e6 : (k != 6) = true := by simp; omega
              by_cases h6 : 0 < n'
              · go_wp2
                go_ret
                exact HNo.out _ _ (fun h => by rcases h.ck with e | e; (simp only at e; have := HN.out.2; rw [e] at this; simp at this; omega); (simp only at e; omega)) rfl HB1.out
              · have HC1 : Hid ((pl = [] ∨ k = 5) ∧ (cl = [] ∨ k = 6) ∧ bd.size ≤ 4096) := ⟨.inr HK5.out, .inl (List.eq_nil_of_length_eq_zero (by have := HN.out.2; omega)), by have := HZ.out; omega⟩
                go_wp2_with fail
                refine HCP.out.mono ?_
                rintro e w5 ⟨rfl, hb5⟩
                have HX5 : Hid (∀ W, Below w5.heap.size w5 W → W.heap[w.heap.size]? = some (.cells #[.int .i64 k, .int .i64 f, .int .i64 v, .int .i64 s, .string bd, .slice a n c, .slice a' n' c'] 25 (0, 0)) ∧ LiesC W a' cl) := fun W hb => ⟨box_stays (box_stays HBX.out hb5 (Nat.le_refl _)) hb (Nat.le_refl _), (HLC.out.below hb5 (Nat.le_refl _)).below hb (Nat.le_refl _)⟩
                have HB5 : Hid (Below w.heap.size w w5) := HB1.out.trans (hb5.mono HB1.out.size)
                have HP0 : Hid (pfsB pl 64 = true ↔ pl.length ≤ 64 ∧ ∀ x ∈ pl, PfOk x) := pfsB_iff
                generalize pfsB pl 64 = r0 at *
                clear HCP hb5 y0 y1 y2 y3 y4 y5 y6
                obtain ⟨x0, x1, x2, x3, x4, x5, x6⟩ := seven7 (HX5.out w5 (Below.refl _ _)).1
                go_wp2
                go_loopw [4, 5] (fun t4 t5 wr => ∃ (i : Nat) (r : Bool), t4 = .bool r ∧ t5 = .int .i64 (i : Int) ∧ i ≤ n' ∧ Hid (Below w5.heap.size w5 wr) ∧ Hid (r = true ↔ r0 = true ∧ ∀ j (hj : j < cl.length), j < i → ChOk cl[j])) (fun _ t5 _ => n' - (intOf t5).toNat)
                case atStart => exact ⟨0, r0, rfl, rfl, Nat.zero_le _, Below.refl _ _, ⟨fun h => ⟨h, fun j _ hj => by omega⟩, fun h => h.1⟩⟩
                case round =>
                  obtain ⟨i, r, rfl, rfl, hi, HB, HI⟩ := hrel
                  clear x0 x1 x2 x3 x4 x5 x6
                  obtain ⟨x0, x1, x2, x3, x4, x5, x6⟩ := seven7 (HX5.out wr HB.out).1
                  by_cases hin : i < n'
                  · exact absurd hin (by omega)
                  · have HBW : Hid (Below w.heap.size w wr) := HB5.out.trans (HB.out.mono HB5.out.size)
                    cases r with
                    | false =>
                      have HX : Hid (¬ MsOk ⟨k, f, v, s, bd, pl, cl⟩) := fun h => by
                        have := HI.out.2 ⟨HP0.out.2 ⟨h.pn, h.p⟩, fun j hj _ => h.c _ (List.getElem_mem hj)⟩
                        cases this
                      clear HI
                      go_wp2
                      go_ret
                      exact HNo.out _ _ HX.out rfl HBW.out
                    | true =>
                      have HX : Hid (MsOk ⟨k, f, v, s, bd, pl, cl⟩) := by
                        have h0 := HI.out.1 rfl
                        have h1 := HP0.out.1 h0.1
                        exact ⟨⟨by simp only; omega, by simp only; omega⟩, isIn_iff.1 Hq1.out, isIn_iff.1 Hq2.out, by have := isIn_iff.1 Hq3.out; simp only [hk7, if_false]; exact this, HC1.out.2.2, h1.1, HC1.out.1, h1.2, by have := HN.out.2; simp only; omega, HC1.out.2.1, fun x hx => by
                          obtain ⟨y, hy, rfl⟩ := List.getElem_of_mem hx
                          exact h0.2 y hy (by have := HN.out.2; have hy2 : y < cl.length := hy; omega)⟩
                      clear HI
                      go_wp2
                      go_ret
                      exact HYes.out _ _ HX.out rfl HBW.out
            · have e5 : (k != 5) = true := by simp [h5k]
              go_wp2
              go_ret
              exact HNo.out _ _ (fun h => by rcases h.pk with e | e; (simp only at e; have := HN.out.1; rw [e] at this; simp at this; omega); (simp only at e; omega)) rfl HB1.out
          · by_cases h6 : 0 < n'
            · by_cases h6k : k = 6
              · have HK6 : Hid (k = 6) := h6k
                have e6 : (k != 6) = false := by simp [h6k]
                by_cases h13 : 13 < n'
                · go_wp2
                  go_ret
                  exact HNo.out _ _ (fun h => by have := h.cn; have := HN.out.2; simp only at *; omega) rfl HB1.out
                · have HC1 : Hid ((pl = [] ∨ k = 5) ∧ (cl = [] ∨ k = 6) ∧ bd.size ≤ 4096) := ⟨.inl (List.eq_nil_of_length_eq_zero (by have := HN.out.1; omega)), .inr HK6.out, by have := HZ.out; omega⟩
                  go_wp2_with fail
                  refine HCP.out.mono ?_
                  rintro e w5 ⟨rfl, hb5⟩
                  have HX5 : Hid (∀ W, Below w5.heap.size w5 W → W.heap[w.heap.size]? = some (.cells #[.int .i64 k, .int .i64 f, .int .i64 v, .int .i64 s, .string bd, .slice a n c, .slice a' n' c'] 25 (0, 0)) ∧ LiesC W a' cl) := fun W hb => ⟨box_stays (box_stays HBX.out hb5 (Nat.le_refl _)) hb (Nat.le_refl _), (HLC.out.below hb5 (Nat.le_refl _)).below hb (Nat.le_refl _)⟩
                  have HB5 : Hid (Below w.heap.size w w5) := HB1.out.trans (hb5.mono HB1.out.size)
                  have HP0 : Hid (pfsB pl 64 = true ↔ pl.length ≤ 64 ∧ ∀ x ∈ pl, PfOk x) := pfsB_iff
                  generalize pfsB pl 64 = r0 at *
                  clear HCP hb5 y0 y1 y2 y3 y4 y5 y6
                  obtain ⟨x0, x1, x2, x3, x4, x5, x6⟩ := seven7 (HX5.out w5 (Below.refl _ _)).1
                  go_wp2
                  go_loopw [4, 5] (fun t4 t5 wr => ∃ (i : Nat) (r : Bool), t4 = .bool r ∧ t5 = .int .i64 (i : Int) ∧ i ≤ n' ∧ Hid (Below w5.heap.size w5 wr) ∧ Hid (r = true ↔ r0 = true ∧ ∀ j (hj : j < cl.length), j < i → ChOk cl[j])) (fun _ t5 _ => n' - (intOf t5).toNat)
                  case atStart => exact ⟨0, r0, rfl, rfl, Nat.zero_le _, Below.refl _ _, ⟨fun h => ⟨h, fun j _ hj => by omega⟩, fun h => h.1⟩⟩
                  case round =>
                    obtain ⟨i, r, rfl, rfl, hi, HB, HI⟩ := hrel
                    clear x0 x1 x2 x3 x4 x5 x6
                    obtain ⟨x0, x1, x2, x3, x4, x5, x6⟩ := seven7 (HX5.out wr HB.out).1
                    by_cases hin : i < n'
                    · have hil : i < cl.length := by rw [← HN.out.2]; exact hin
                      obtain ⟨x, hx, g0, g1, fa, fc, g3, hf⟩ := (HX5.out wr HB.out).2.at hil
                      subst hx
                      have hix := index_ch x n' c' i hin
                      rw [chAt_get hil] at g0 g1 g3 hf
                      generalize x.add (i * 3) = q at g0 g1 g3 hix
                      generalize hv : cl[i] = ch at g0 g1 g3 hf
                      have HV : Hid (cl[i] = ch) := hv
                      obtain ⟨v0, v1, fr⟩ := ch
                      simp only at g0 g1 g3 hf
                      obtain ⟨kn, hk⟩ : ∃ kn, kn = fr.length := ⟨_, rfl⟩
                      rw [← hk] at g3
                      obtain ⟨W2, hW2⟩ : ∃ W2, W2 = wr.alloc (.cells #[.int .i64 v0, .int .i64 v1, .slice fa kn fc] 61) := ⟨_, rfl⟩
                      have HW2 : Hid (W2 = _) := hW2
                      have hb2 : Below wr.heap.size wr W2 := by rw [hW2]; exact (Below.refl _ _).alloc (Nat.le_refl _) _
                      have HB2 : Hid (Below w5.heap.size w5 W2) := HB.out.trans (hb2.mono HB.out.size)
                      have hbx2 : W2.heap[wr.heap.size]? = some (.cells #[.int .i64 v0, .int .i64 v1, .slice fa kn fc] 61 (0, 0)) := by rw [hW2]; exact box_new _ _ _
                      have HBX2 : Hid (_ = _) := hbx2
                      obtain ⟨z0, z1, z2⟩ := three3 hbx2
                      have HC : Hid (Calls _ _ _ _ _) := refProofs_any fa kn fc fr W2 hk (hf.below hb2 (Nat.le_refl _))
                      have HP1 : Hid (pfsB fr 64 = true ↔ fr.length ≤ 64 ∧ ∀ x ∈ fr, PfOk x) := pfsB_iff
                      have HBadC : Hid (¬ ChOk (v0, v1, fr) → ¬ (r0 = true ∧ ∀ j (hj : j < cl.length), j < i + 1 → ChOk cl[j])) := fun h1 h2 => h1 (HV.out ▸ h2.2 i hil (by omega))
                      clear hv hk hf hW2 hb2 hbx2
                      go_wp2_with fail
                      rw [← HW2.out]
                      clear g0 g1 g3 hix x0 x1 x2 x3 x4 x5 x6
                      go_wp2_with fail
                      refine HC.out.mono ?_
                      rintro e w6 ⟨rfl, hb6⟩
                      have HB6 : Hid (Below w5.heap.size w5 w6) := HB2.out.trans (hb6.mono HB2.out.size)
                      obtain ⟨u0, u1, u2⟩ := three3 (box_stays HBX2.out hb6 (Nat.le_refl _))
                      generalize pfsB fr 64 = fine at *
                      clear HC hb6 z0 z1 z2
                      cases r with
                      | false =>
                        have HI2 : Hid (false = true ↔ r0 = true ∧ ∀ j (hj : j < cl.length), j < i + 1 → ChOk cl[j]) := ⟨(fun h => by cases h), fun h => HI.out.2 ⟨h.1, fun j hj h1 => h.2 j hj (by omega)⟩⟩
                        clear HI
                        go_wp2
                        go_roundw
                        case rel => exact ⟨i + 1, false, by first | rfl | trivial, by go_num, by omega, HB6, HI2⟩
                        case measure => simp [intOf]; omega
                      | true =>
                        cases fine with
                        | false =>
                          have HI2 : Hid (false = true ↔ r0 = true ∧ ∀ j (hj : j < cl.length), j < i + 1 → ChOk cl[j]) := ⟨(fun h => by cases h), fun h => absurd h (HBadC.out fun hc => by have := HP1.out.2 ⟨hc.n, hc.p⟩; cases this)⟩
                          clear HI
                          go_wp2
                          go_roundw
                          case rel => exact ⟨i + 1, false, by first | rfl | trivial, by go_num, by omega, HB6, HI2⟩
                          case measure => simp [intOf]; omega
                        | true =>
                          go_wp2_with fail
                          refine (in_any v0 12 _).mono ?_
                          rintro e w7 ⟨rfl, hw7⟩
                          subst hw7
                          cases p1 : isIn v0 0 12 with
                          | false =>
                            have HI2 : Hid (false = true ↔ r0 = true ∧ ∀ j (hj : j < cl.length), j < i + 1 → ChOk cl[j]) := ⟨(fun h => by cases h), fun h => absurd h (HBadC.out fun hc => by have := isIn_iff.2 hc.f; simp only at this; rw [p1] at this; cases this)⟩
                            clear HI p1
                            go_wp2
                            go_roundw
                            case rel => exact ⟨i + 1, false, by first | rfl | trivial, by go_num, by omega, HB6, HI2⟩
                            case measure => simp [intOf]; omega
                          | true =>
                            have HP : Hid (_ = _) := p1
                            clear p1
                            go_wp2_with fail
                            refine (in_any v1 64 _).mono ?_
                            rintro e w8 ⟨rfl, hw8⟩
                            subst hw8
                            cases p2 : isIn v1 0 64 with
                            | false =>
                              have HI2 : Hid (false = true ↔ r0 = true ∧ ∀ j (hj : j < cl.length), j < i + 1 → ChOk cl[j]) := ⟨(fun h => by cases h), fun h => absurd h (HBadC.out fun hc => by have := isIn_iff.2 hc.v; simp only at this; rw [p2] at this; cases this)⟩
                              clear HI p2
                              go_wp2
                              go_roundw
                              case rel => exact ⟨i + 1, false, by first | rfl | trivial, by go_num, by omega, HB6, HI2⟩
                              case measure => simp [intOf]; omega
                            | true =>
                              have HI2 : Hid (true = true ↔ r0 = true ∧ ∀ j (hj : j < cl.length), j < i + 1 → ChOk cl[j]) := ⟨fun _ => ⟨(HI.out.1 (by first | rfl | trivial)).1, fun j hj h1 => by
                                by_cases e : j = i
                                · subst e
                                  rw [HV.out]
                                  exact ⟨isIn_iff.1 HP.out, isIn_iff.1 p2, (HP1.out.1 (by first | rfl | trivial)).1, (HP1.out.1 (by first | rfl | trivial)).2⟩
                                · exact (HI.out.1 (by first | rfl | trivial)).2 j hj (by omega)⟩, fun _ => rfl⟩
                              clear HI p2
                              go_wp2
                              go_roundw
                              case rel => exact ⟨i + 1, true, by first | rfl | trivial, by go_num, by omega, HB6, ⟨fun _ => HI2.out.1 (by first | rfl | trivial), fun _ => rfl⟩⟩
                              case measure => simp [intOf]; omega
                    · have HBW : Hid (Below w.heap.size w wr) := HB5.out.trans (HB.out.mono HB5.out.size)
                      cases r with
                      | false =>
                        have HX : Hid (¬ MsOk ⟨k, f, v, s, bd, pl, cl⟩) := fun h => by
                          have := HI.out.2 ⟨HP0.out.2 ⟨h.pn, h.p⟩, fun j hj _ => h.c _ (List.getElem_mem hj)⟩
                          cases this
                        clear HI
                        go_wp2
                        go_ret
                        exact HNo.out _ _ HX.out rfl HBW.out
                      | true =>
                        have HX : Hid (MsOk ⟨k, f, v, s, bd, pl, cl⟩) := by
                          have h0 := HI.out.1 rfl
                          have h1 := HP0.out.1 h0.1
                          exact ⟨⟨by simp only; omega, by simp only; omega⟩, isIn_iff.1 Hq1.out, isIn_iff.1 Hq2.out, by have := isIn_iff.1 Hq3.out; simp only [hk7, if_false]; exact this, HC1.out.2.2, h1.1, HC1.out.1, h1.2, by have := HN.out.2; simp only; omega, HC1.out.2.1, fun x hx => by
                            obtain ⟨y, hy, rfl⟩ := List.getElem_of_mem hx
                            exact h0.2 y hy (by have := HN.out.2; have hy2 : y < cl.length := hy; omega)⟩
                        clear HI
                        go_wp2
                        go_ret
                        exact HYes.out _ _ HX.out rfl HBW.out
              · have e6 : (k != 6) = true := by simp [h6k]
                go_wp2
                go_ret
                exact HNo.out _ _ (fun h => by rcases h.ck with e | e; (simp only at e; have := HN.out.2; rw [e] at this; simp at this; omega); (simp only at e; omega)) rfl HB1.out
            · have HC1 : Hid ((pl = [] ∨ k = 5) ∧ (cl = [] ∨ k = 6) ∧ bd.size ≤ 4096) := ⟨.inl (List.eq_nil_of_length_eq_zero (by have := HN.out.1; omega)), .inl (List.eq_nil_of_length_eq_zero (by have := HN.out.2; omega)), by have := HZ.out; omega⟩
              go_wp2_with fail
              refine HCP.out.mono ?_
              rintro e w5 ⟨rfl, hb5⟩
              have HX5 : Hid (∀ W, Below w5.heap.size w5 W → W.heap[w.heap.size]? = some (.cells #[.int .i64 k, .int .i64 f, .int .i64 v, .int .i64 s, .string bd, .slice a n c, .slice a' n' c'] 25 (0, 0)) ∧ LiesC W a' cl) := fun W hb => ⟨box_stays (box_stays HBX.out hb5 (Nat.le_refl _)) hb (Nat.le_refl _), (HLC.out.below hb5 (Nat.le_refl _)).below hb (Nat.le_refl _)⟩
              have HB5 : Hid (Below w.heap.size w w5) := HB1.out.trans (hb5.mono HB1.out.size)
              have HP0 : Hid (pfsB pl 64 = true ↔ pl.length ≤ 64 ∧ ∀ x ∈ pl, PfOk x) := pfsB_iff
              generalize pfsB pl 64 = r0 at *
              clear HCP hb5 y0 y1 y2 y3 y4 y5 y6
              obtain ⟨x0, x1, x2, x3, x4, x5, x6⟩ := seven7 (HX5.out w5 (Below.refl _ _)).1
              go_wp2
              go_loopw [4, 5] (fun t4 t5 wr => ∃ (i : Nat) (r : Bool), t4 = .bool r ∧ t5 = .int .i64 (i : Int) ∧ i ≤ n' ∧ Hid (Below w5.heap.size w5 wr) ∧ Hid (r = true ↔ r0 = true ∧ ∀ j (hj : j < cl.length), j < i → ChOk cl[j])) (fun _ t5 _ => n' - (intOf t5).toNat)
              case atStart => exact ⟨0, r0, rfl, rfl, Nat.zero_le _, Below.refl _ _, ⟨fun h => ⟨h, fun j _ hj => by omega⟩, fun h => h.1⟩⟩
              case round =>
                obtain ⟨i, r, rfl, rfl, hi, HB, HI⟩ := hrel
                clear x0 x1 x2 x3 x4 x5 x6
                obtain ⟨x0, x1, x2, x3, x4, x5, x6⟩ := seven7 (HX5.out wr HB.out).1
                by_cases hin : i < n'
                · exact absurd hin (by omega)
                · have HBW : Hid (Below w.heap.size w wr) := HB5.out.trans (HB.out.mono HB5.out.size)
                  cases r with
                  | false =>
                    have HX : Hid (¬ MsOk ⟨k, f, v, s, bd, pl, cl⟩) := fun h => by
                      have := HI.out.2 ⟨HP0.out.2 ⟨h.pn, h.p⟩, fun j hj _ => h.c _ (List.getElem_mem hj)⟩
                      cases this
                    clear HI
                    go_wp2
                    go_ret
                    exact HNo.out _ _ HX.out rfl HBW.out
                  | true =>
                    have HX : Hid (MsOk ⟨k, f, v, s, bd, pl, cl⟩) := by
                      have h0 := HI.out.1 rfl
                      have h1 := HP0.out.1 h0.1
                      exact ⟨⟨by simp only; omega, by simp only; omega⟩, isIn_iff.1 Hq1.out, isIn_iff.1 Hq2.out, by have := isIn_iff.1 Hq3.out; simp only [hk7, if_false]; exact this, HC1.out.2.2, h1.1, HC1.out.1, h1.2, by have := HN.out.2; simp only; omega, HC1.out.2.1, fun x hx => by
                        obtain ⟨y, hy, rfl⟩ := List.getElem_of_mem hx
                        exact h0.2 y hy (by have := HN.out.2; have hy2 : y < cl.length := hy; omega)⟩
                    clear HI
                    go_wp2
                    go_ret
                    exact HYes.out _ _ HX.out rfl HBW.out
end Go.Proofs.Ytbcemghkmmbmdaa.Msg
