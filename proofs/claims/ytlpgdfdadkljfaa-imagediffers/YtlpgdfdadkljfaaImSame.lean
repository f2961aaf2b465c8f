/-
  The reference's Same, as a decision.
-/
import Derived.Test.YtlpgdfdadkljfaaImMay
import Derived.Deep.RegionHeld
import Derived.BigQuiet
namespace Go.Proofs.Ytlpgdfdadkljfaa.Img
open Go.RowKit Route Tree Order Cat

theorem take_ent {l : List Ent} {i : Nat} (h : i < l.length) : l.take (i + 1) = l.take i ++ [entOf l i] := by
  rw [List.take_succ_eq_append_getElem h, ent_get h]
theorem take_snap {l : List Snap} {i : Nat} (h : i < l.length) : l.take (i + 1) = l.take i ++ [snapAt l i] := by
  rw [List.take_succ_eq_append_getElem h, snapAt_get h]

set_option maxHeartbeats 4000000 in
set_option maxRecDepth 100000 in
theorem sameAll_dec (a a' : Option Addr) (n n' cap cap' : Nat) (l l' : List Ent) (w : World) (hn0 : n = l.length) (hn0' : n' = l'.length) (hl : LiesE w a l) (hl' : LiesE w a' l') (hnm : n ≤ 1000) (hks : ∀ j, j < n → (entOf l j).2.2.length ≤ 1000000) (hks' : ∀ j, j < n' → (entOf l' j).2.2.length ≤ 1000000) :
    Calls Try.prog 32 #[.slice a n cap, .slice a' n' cap'] w fun e w' => ∃ b, e = .returned (.bool b) ∧ Hid ((b = true ↔ l = l') ∧ Below w.heap.size w w') := by
  by_cases hnn : n = n'
  case neg =>
    have hd : ((n : Int) == (n' : Int)) = false := by simp; omega
    have hd2 : ((n : Int) != (n' : Int)) = true := by simp; omega
    have HX : Hid (l ≠ l') := fun e => hnn (by rw [hn0, hn0', e])
    clear hl hl' hks hks' hn0 hn0' hnn
    go_enter Try.func32, Try.ntmps32
    go_wp2
    go_ret
    exact ⟨false, rfl, ⟨(fun h => by cases h), fun h => absurd h HX.out⟩, Below.refl _ _⟩
  subst hnn
  have HN : Hid (n = l.length ∧ n = l'.length) := ⟨hn0, hn0'⟩
  have HL : Hid (LiesE w a l) := hl
  have HL' : Hid (LiesE w a' l') := hl'
  have HK : Hid ((∀ j, j < n → (entOf l j).2.2.length ≤ 1000000) ∧ ∀ j, j < n → (entOf l' j).2.2.length ≤ 1000000) := ⟨hks, hks'⟩
  clear hn0 hn0' hl hl' hks hks'
  go_enter Try.func32, Try.ntmps32
  go_wp2
  go_loopw [5] (fun t5 wr => ∃ i : Nat, t5 = .int .i64 (i : Int) ∧ i ≤ n ∧ Hid (Below w.heap.size w wr ∧ l.take i = l'.take i)) (fun t5 _ => n - (intOf t5).toNat)
  case atStart => exact ⟨0, rfl, Nat.zero_le _, Below.refl _ _, by simp⟩
  case round =>
    obtain ⟨i, rfl, hi, HB⟩ := hrel
    by_cases hin : i < n
    · have hb0 := HB.out.1
      obtain ⟨x, hx, g0, g1, ka, kc, g2, hk⟩ := (HL.out.below hb0 (Nat.le_refl _)).at (j := i) (by rw [← HN.out.1]; exact hin)
      obtain ⟨x', hx', g0', g1', ka', kc', g2', hk'⟩ := (HL'.out.below hb0 (Nat.le_refl _)).at (j := i) (by rw [← HN.out.2]; exact hin)
      subst hx
      subst hx'
      have hz := HK.out.1 i hin
      have hz' := HK.out.2 i hin
      have HT : Hid (l.take (i + 1) = l.take i ++ [entOf l i] ∧ l'.take (i + 1) = l'.take i ++ [entOf l' i]) := ⟨take_ent (by rw [← HN.out.1]; exact hin), take_ent (by rw [← HN.out.2]; exact hin)⟩
      have HE : Hid (l = l' → entOf l i = entOf l' i) := fun h => by rw [h]
      generalize entOf l i = e1 at g0 g1 g2 hk hz HT HE
      generalize entOf l' i = e2 at g0' g1' g2' hk' hz' HT HE
      obtain ⟨p, sz, ks⟩ := e1
      obtain ⟨p', sz', ks'⟩ := e2
      have hix := index_ent x n cap i hin
      have hix' := index_ent x' n cap' i hin
      simp only at g0 g1 g2 hk g0' g1' g2' hk' hz hz'
      obtain ⟨kn, hkn⟩ : ∃ kn, kn = ks.length := ⟨_, rfl⟩
      obtain ⟨kn', hkn'⟩ : ∃ kn', kn' = ks'.length := ⟨_, rfl⟩
      rw [← hkn] at g2 hz
      rw [← hkn'] at g2' hz'
      generalize x.add (i * 3) = q at g0 g1 g2 hix
      generalize x'.add (i * 3) = q' at g0' g1' g2' hix'
      obtain ⟨r, hr⟩ : ∃ r, r = decide (p = p' ∧ sz = sz' ∧ ks = ks') := ⟨_, rfl⟩
      have HRR : Hid (r = decide (p = p' ∧ sz = sz' ∧ ks = ks')) := hr
      have HR : Hid (∀ W, (Below wr.heap.size wr W ∧ (W.cell? q = some (.string p) ∧ W.cell? ⟨q.block, q.off + 1, none⟩ = some (.int .i64 sz) ∧ W.cell? ⟨q.block, q.off + 2, none⟩ = some (.slice ka kn kc)) ∧ W.cell? q' = some (.string p') ∧ W.cell? ⟨q'.block, q'.off + 1, none⟩ = some (.int .i64 sz') ∧ W.cell? ⟨q'.block, q'.off + 2, none⟩ = some (.slice ka' kn' kc')) →
          Calls Try.prog 49 #[.agg #[.string p, .int .i64 sz, .slice ka kn kc], .agg #[.string p', .int .i64 sz', .slice ka' kn' kc']] W fun e w' => e = .returned (.bool r) ∧ (Below wr.heap.size wr w' ∧ (w'.cell? q = some (.string p) ∧ w'.cell? ⟨q.block, q.off + 1, none⟩ = some (.int .i64 sz) ∧ w'.cell? ⟨q.block, q.off + 2, none⟩ = some (.slice ka kn kc)) ∧ w'.cell? q' = some (.string p') ∧ w'.cell? ⟨q'.block, q'.off + 1, none⟩ = some (.int .i64 sz') ∧ w'.cell? ⟨q'.block, q'.off + 2, none⟩ = some (.slice ka' kn' kc'))) := by
        rintro W ⟨b0, ⟨d0, d1, d2⟩, e0, e1, e2⟩
        rw [hr]
        refine (sameE_any p p' sz sz' ka ka' kn kn' kc kc' ks ks' W hkn (hk.1.below b0 (Nat.le_refl _)) hkn' (hk'.1.below b0 (Nat.le_refl _)) hz hz').mono ?_
        rintro e w' ⟨rfl, hb⟩
        exact ⟨rfl, b0.trans (hb.mono b0.size), ⟨cell_kept hb d0, cell_kept hb d1, cell_kept hb d2⟩, cell_kept hb e0, cell_kept hb e1, cell_kept hb e2⟩
      clear hk hk' hr hb0 hz hz' hkn hkn'
      go_wp2_with fail
      go_region_held (fun W => (Below wr.heap.size wr W ∧ (W.cell? q = some (.string p) ∧ W.cell? ⟨q.block, q.off + 1, none⟩ = some (.int .i64 sz) ∧ W.cell? ⟨q.block, q.off + 2, none⟩ = some (.slice ka kn kc)) ∧ W.cell? q' = some (.string p') ∧ W.cell? ⟨q'.block, q'.off + 1, none⟩ = some (.int .i64 sz') ∧ W.cell? ⟨q'.block, q'.off + 2, none⟩ = some (.slice ka' kn' kc')))
        (first | assumption | exact ⟨(Below.refl _ _).drew, ⟨by simpa using g0, by simpa using g1, by simpa using g2⟩, by simpa using g0', by simpa using g1', by simpa using g2'⟩)
        (first | (go_at_call 49; refine (HR.out _ (by assumption)).mono ?_; rintro e w2 ⟨rfl, hb2⟩))
      all_goals
        have HB2 : Hid (Below w.heap.size w w2) := HB.out.1.trans (hb2.1.mono HB.out.1.size)
        clear hb2 HR
        cases r with
        | false =>
          have HX : Hid (l ≠ l') := fun h => by
            have := of_decide_eq_false HRR.out.symm
            have h2 := HE.out h
            simp only [Prod.mk.injEq] at h2
            exact this h2
          go_wp2
          go_ret
          exact ⟨false, rfl, ⟨(fun h => by cases h), fun h => absurd h HX.out⟩, HB2.out⟩
        | true =>
          have HT2 : Hid (Below w.heap.size w w2 ∧ l.take (i + 1) = l'.take (i + 1)) := ⟨HB2.out, by
            have := of_decide_eq_true HRR.out.symm
            rw [HT.out.1, HT.out.2, HB.out.2, this.1, this.2.1, this.2.2]⟩
          go_wp2
          go_roundw
          case rel => exact ⟨i + 1, by go_num, by omega, HT2⟩
          case measure => simp [intOf]; omega
    · have HF : Hid (l = l') := by
        have h := HB.out.2
        rw [List.take_of_length_le (by rw [← HN.out.1]; omega), List.take_of_length_le (by rw [← HN.out.2]; omega)] at h
        exact h
      go_wp2
      go_ret
      exact ⟨true, rfl, ⟨(fun _ => HF.out), fun _ => rfl⟩, HB.out.1⟩

def FewL (S : List Snap) : Prop := ∀ s ∈ S, s.2.2.2.length ≤ 1000 ∧ ∀ j, j < s.2.2.2.length → (entOf s.2.2.2 j).2.2.length ≤ 1000000

set_option maxHeartbeats 8000000 in
set_option maxRecDepth 100000 in
theorem sameS_dec (a a' : Option Addr) (n n' cap cap' : Nat) (l l' : List Snap) (w : World) (hn0 : n = l.length) (hn0' : n' = l'.length) (hl : LiesN w a l) (hl' : LiesN w a' l') (hnm : n ≤ 1000) (hks : FewL l) (hks' : FewL l') :
    Calls Try.prog 16 #[.slice a n cap, .slice a' n' cap'] w fun e w' => ∃ b, e = .returned (.bool b) ∧ Hid ((b = true ↔ l = l') ∧ Below w.heap.size w w') := by
  by_cases hnn : n = n'
  case neg =>
    have hd : ((n : Int) == (n' : Int)) = false := by simp; omega
    have hd2 : ((n : Int) != (n' : Int)) = true := by simp; omega
    have HX : Hid (l ≠ l') := fun e => hnn (by rw [hn0, hn0', e])
    clear hl hl' hks hks' hn0 hn0' hnn
    go_enter Try.func16, Try.ntmps16
    go_wp2
    go_ret
    exact ⟨false, rfl, ⟨(fun h => by cases h), fun h => absurd h HX.out⟩, Below.refl _ _⟩
  subst hnn
  have HN : Hid (n = l.length ∧ n = l'.length) := ⟨hn0, hn0'⟩
  have HL : Hid (LiesN w a l) := hl
  have HL' : Hid (LiesN w a' l') := hl'
  have HK : Hid (FewL l ∧ FewL l') := ⟨hks, hks'⟩
  clear hn0 hn0' hl hl' hks hks'
  go_enter Try.func16, Try.ntmps16
  go_wp2
  go_loopw [5] (fun t5 wr => ∃ i : Nat, t5 = .int .i64 (i : Int) ∧ i ≤ n ∧ Hid (Below w.heap.size w wr ∧ l.take i = l'.take i)) (fun t5 _ => n - (intOf t5).toNat)
  case atStart => exact ⟨0, rfl, Nat.zero_le _, Below.refl _ _, by simp⟩
  case round =>
    obtain ⟨i, rfl, hi, HB⟩ := hrel
    by_cases hin : i < n
    · have hb0 := HB.out.1
      have h1 : i < l.length := by rw [← HN.out.1]; exact hin
      have h2 : i < l'.length := by rw [← HN.out.2]; exact hin
      obtain ⟨x, hx, g0, g1, g2, ea, ec, g3, _, _, hk⟩ := (HL.out.below hb0 (Nat.le_refl _)).at (j := i) h1
      obtain ⟨x', hx', g0', g1', g2', ea', ec', g3', _, _, hk'⟩ := (HL'.out.below hb0 (Nat.le_refl _)).at (j := i) h2
      subst hx
      subst hx'
      have hz := HK.out.1 _ (snapAt_mem h1)
      have hz' := HK.out.2 _ (snapAt_mem h2)
      have HT : Hid (l.take (i + 1) = l.take i ++ [snapAt l i] ∧ l'.take (i + 1) = l'.take i ++ [snapAt l' i]) := ⟨take_snap h1, take_snap h2⟩
      have HE : Hid (l = l' → snapAt l i = snapAt l' i) := fun h => by rw [h]
      generalize snapAt l i = e1 at g0 g1 g2 g3 hk hz HT HE
      generalize snapAt l' i = e2 at g0' g1' g2' g3' hk' hz' HT HE
      obtain ⟨c, nm, d, es⟩ := e1
      obtain ⟨c', nm', d', es'⟩ := e2
      have hix := index_snap x n cap i hin
      have hix' := index_snap x' n cap' i hin
      simp only at g0 g1 g2 g3 hk g0' g1' g2' g3' hk' hz hz'
      obtain ⟨en, hen⟩ : ∃ en, en = es.length := ⟨_, rfl⟩
      obtain ⟨en', hen'⟩ : ∃ en', en' = es'.length := ⟨_, rfl⟩
      rw [← hen] at g3 hz
      rw [← hen'] at g3' hz'
      generalize x.add (i * 4) = q at g0 g1 g2 g3 hix
      generalize x'.add (i * 4) = q' at g0' g1' g2' g3' hix'
      clear h1 h2 hb0
      by_cases hcc : c = c'
      case neg =>
        have hc1 : (c == c') = false := by simp [hcc]
        have hc2 : (c != c') = true := by simp [hcc]
        have HX : Hid (l ≠ l') := fun h => by have h2 := HE.out h; simp only [Prod.mk.injEq] at h2; exact hcc h2.1
        clear hk hk' hz hz' hen hen' HT HE hcc
        go_wp2_with fail
        go_quiet (fail)
        go_wp2
        go_ret
        exact ⟨false, rfl, ⟨(fun h => by cases h), fun h => absurd h HX.out⟩, below_drewN HB.out.1 _⟩
      subst hcc
      by_cases hnm : nm = nm'
      case neg =>
        have hn1 : (nm.toList == nm'.toList) = false := by rw [str_eq]; exact decide_eq_false hnm
        have HX : Hid (l ≠ l') := fun h => by have h2 := HE.out h; simp only [Prod.mk.injEq] at h2; exact hnm h2.2.1
        clear hk hk' hz hz' hen hen' HT HE hnm
        go_wp2_with fail
        go_quiet (fail)
        go_wp2
        go_ret
        exact ⟨false, rfl, ⟨(fun h => by cases h), fun h => absurd h HX.out⟩, below_drewN HB.out.1 _⟩
      subst hnm
      by_cases hdd : d = d'
      case neg =>
        have hd1 : (d == d') = false := by simp [hdd]
        have hd2 : (d != d') = true := by simp [hdd]
        have HX : Hid (l ≠ l') := fun h => by have h2 := HE.out h; simp only [Prod.mk.injEq] at h2; exact hdd h2.2.2.1
        clear hk hk' hz hz' hen hen' HT HE hdd
        go_wp2_with fail
        go_quiet (fail)
        go_wp2
        go_ret
        exact ⟨false, rfl, ⟨(fun h => by cases h), fun h => absurd h HX.out⟩, below_drewN HB.out.1 _⟩
      subst hdd
      have HR : Hid (∀ W, (Below wr.heap.size wr W ∧ (W.cell? q = some (.int .i64 c) ∧ W.cell? ⟨q.block, q.off + 1, none⟩ = some (.string nm) ∧ W.cell? ⟨q.block, q.off + 2, none⟩ = some (.bool d) ∧ W.cell? ⟨q.block, q.off + 3, none⟩ = some (.slice ea en ec)) ∧ W.cell? q' = some (.int .i64 c) ∧ W.cell? ⟨q'.block, q'.off + 1, none⟩ = some (.string nm) ∧ W.cell? ⟨q'.block, q'.off + 2, none⟩ = some (.bool d) ∧ W.cell? ⟨q'.block, q'.off + 3, none⟩ = some (.slice ea' en' ec')) →
          Calls Try.prog 32 #[.slice ea en ec, .slice ea' en' ec'] W fun e w' => ∃ r, e = .returned (.bool r) ∧ Hid (r = true ↔ es = es') ∧ (Below wr.heap.size wr w' ∧ (w'.cell? q = some (.int .i64 c) ∧ w'.cell? ⟨q.block, q.off + 1, none⟩ = some (.string nm) ∧ w'.cell? ⟨q.block, q.off + 2, none⟩ = some (.bool d) ∧ w'.cell? ⟨q.block, q.off + 3, none⟩ = some (.slice ea en ec)) ∧ w'.cell? q' = some (.int .i64 c) ∧ w'.cell? ⟨q'.block, q'.off + 1, none⟩ = some (.string nm) ∧ w'.cell? ⟨q'.block, q'.off + 2, none⟩ = some (.bool d) ∧ w'.cell? ⟨q'.block, q'.off + 3, none⟩ = some (.slice ea' en' ec'))) := by
        rintro W ⟨b0, ⟨d0, d1, d2, d3⟩, e0, e1, e2, e3⟩
        refine (sameAll_dec ea ea' en en' ec ec' es es' W hen hen' (hk.below b0 (Nat.le_refl _)) (hk'.below b0 (Nat.le_refl _)) hz.1 hz.2 hz'.2).mono ?_
        rintro e w' ⟨r, rfl, h⟩
        have hb := h.out.2
        exact ⟨r, rfl, h.out.1, b0.trans (hb.mono b0.size), ⟨cell_kept hb d0, cell_kept hb d1, cell_kept hb d2, cell_kept hb d3⟩, cell_kept hb e0, cell_kept hb e1, cell_kept hb e2, cell_kept hb e3⟩
      clear hk hk' hz hz' hen hen'
      go_wp2_with fail
      go_region_held (fun W => (Below wr.heap.size wr W ∧ (W.cell? q = some (.int .i64 c) ∧ W.cell? ⟨q.block, q.off + 1, none⟩ = some (.string nm) ∧ W.cell? ⟨q.block, q.off + 2, none⟩ = some (.bool d) ∧ W.cell? ⟨q.block, q.off + 3, none⟩ = some (.slice ea en ec)) ∧ W.cell? q' = some (.int .i64 c) ∧ W.cell? ⟨q'.block, q'.off + 1, none⟩ = some (.string nm) ∧ W.cell? ⟨q'.block, q'.off + 2, none⟩ = some (.bool d) ∧ W.cell? ⟨q'.block, q'.off + 3, none⟩ = some (.slice ea' en' ec')))
        (first | assumption | exact ⟨(Below.refl _ _).drew, ⟨by simpa using g0, by simpa using g1, by simpa using g2, by simpa using g3⟩, by simpa using g0', by simpa using g1', by simpa using g2', by simpa using g3'⟩)
        (first | (go_at_call 32; refine (HR.out _ (by assumption)).mono ?_; rintro e w2 ⟨r, rfl, HRR, hb2⟩))
      all_goals
        have HB2 : Hid (Below w.heap.size w w2) := HB.out.1.trans (hb2.1.mono HB.out.1.size)
        clear hb2 HR
        cases r with
        | false =>
          have HX : Hid (l ≠ l') := fun h => by
            have h2 := HE.out h
            simp only [Prod.mk.injEq, true_and] at h2
            exact absurd (HRR.out.2 h2) (by simp)
          go_wp2
          go_ret
          exact ⟨false, rfl, ⟨(fun h => by cases h), fun h => absurd h HX.out⟩, HB2.out⟩
        | true =>
          have HT2 : Hid (Below w.heap.size w w2 ∧ l.take (i + 1) = l'.take (i + 1)) := ⟨HB2.out, by
            have := HRR.out.1 rfl
            rw [HT.out.1, HT.out.2, HB.out.2, this]⟩
          go_wp2
          go_roundw
          case rel => exact ⟨i + 1, by go_num, by omega, HT2⟩
          case measure => simp [intOf]; omega
    · have HF : Hid (l = l') := by
        have h := HB.out.2
        rw [List.take_of_length_le (by rw [← HN.out.1]; omega), List.take_of_length_le (by rw [← HN.out.2]; omega)] at h
        exact h
      go_wp2
      go_ret
      exact ⟨true, rfl, ⟨(fun _ => HF.out), fun _ => rfl⟩, HB.out.1⟩
end Go.Proofs.Ytlpgdfdadkljfaa.Img
