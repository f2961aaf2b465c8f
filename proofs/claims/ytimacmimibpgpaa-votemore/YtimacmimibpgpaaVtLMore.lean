/-
  VoteMore, walked.
-/
import Derived.Test.YtimacmimibpgpaaVtLTells
import Derived.Deep.RegionHeld3
namespace Go.Proofs.Ytimacmimibpgpaa.Vote
open Go.RowKit

theorem xlies {W : World} {b : Nat} {f : Int} {s : ByteArray} (h : W.heap[b]? = some (.cells #[.int .i64 f, .string s] 31 (0, 0))) : LiesV W (some ⟨b, 0, none⟩) [(f, s)] := by
  refine .inr ⟨_, rfl, fun j hj => ?_⟩
  obtain rfl : j = 0 := by simp at hj; omega
  exact ⟨by rw [Nat.zero_mul, show (⟨b, 0, none⟩ : Addr).add 0 = ⟨b, 0, none⟩ from rfl, cell_of_row W b 0 _ _ (0, 0) h]; rfl, by rw [Nat.zero_mul, show (⟨b, 0, none⟩ : Addr).add 0 = ⟨b, 0, none⟩ from rfl]; rw [cell_of_row W b _ _ _ (0, 0) h]; rfl⟩

theorem VRow.fresh2 (w : World) (o : Obj) : VRow w.heap.size (.slice (some ⟨w.heap.size + 1, 0, none⟩) 0 0) [] w ((w.alloc o).alloc (.cells #[] 31)) := by
  have h := World.ownsRow_lit (base := w.heap.size) (e := 31) (size := 2) (w.alloc o) #[] 0 (by simp) (Nat.zero_le _) rfl
  rw [show (w.alloc o).heap.size = w.heap.size + 1 by simp] at h
  exact ⟨h, ((Below.refl _ _).alloc (Nat.le_refl _) _).alloc (by simp) _, by simp; omega⟩

theorem heap_two (w : World) (a b : Obj) : ((w.alloc a).alloc b).heap[w.heap.size + 1]? = some b := by
  have h := heap_alloc_new (w.alloc a) b
  rw [show (w.alloc a).heap.size = w.heap.size + 1 by simp] at h
  exact h
theorem heap_one (w : World) (a b : Obj) : ((w.alloc a).alloc b).heap[w.heap.size]? = some a :=
  (heap_alloc_old (w.alloc a) b (by simp)).trans (heap_alloc_new w a)

theorem winx_more {l : List Vt} {v : Vt} {need : Int} {a b : ByteArray} {p q : Bool} (h : WinX l need a p) (h' : WinX (l ++ [v]) need b q) (hp : p = true) : q = true ∧ a = b := by
  by_cases h1 : need < 1
  · have := (h.1 h1).2
    rw [hp] at this; cases this
  · exact win_more (h.2 (by omega)) (h'.2 (by omega)) hp

set_option maxHeartbeats 4000000 in
set_option maxRecDepth 100000 in
theorem voteMore_walk (a : Option Addr) (l : List Vt) (n cap : Nat) (f : Int) (s : ByteArray) (t : ByteArray) (need : Int) (w : World) (h : VArg w a l n cap) (hv : VOk (f, s)) (_ : t.size ≤ maxLen) (_ : (Lit.int .i64 need).wf = true) :
    Calls Try.prog 6 #[.slice a n cap, .agg #[.int .i64 f, .string s], .string t, .int .i64 need] w fun e w' => e = .returned (.bool true) ∧ Below w.heap.size w w' := by
  obtain ⟨W2, hW2⟩ : ∃ W2, W2 = w.alloc (.cells #[.int .i64 f, .string s] 31) := ⟨_, rfl⟩
  have HW2 : Hid (W2 = w.alloc (.cells #[.int .i64 f, .string s] 31)) := hW2
  have HB0 : Hid (Below w.heap.size w W2) := by rw [hW2]; exact (Below.refl _ _).alloc (Nat.le_refl _) _
  have HX : Hid (∀ W, Below W2.heap.size W2 W → W.cell? ⟨w.heap.size, 0, none⟩ = some (.int .i64 f) ∧ W.cell? ⟨w.heap.size, 1, none⟩ = some (.string s)) := by
    intro W hb
    have hlt : w.heap.size < W2.heap.size := by rw [hW2]; simp
    refine ⟨?_, ?_⟩ <;> (rw [hb.cell hlt, hW2]; simp)
  have HU : Hid (Calls _ _ _ _ _) := up_any W2
  have HH : Hid (VArg w a l n cap) := h
  have hmx := h.2.2.2.2
  clear h hW2
  by_cases hbig : 100 < n
  · go_enter Try.func6, Try.ntmps6
    go_wp2_with fail
    rw [← HW2.out]
    refine HU.out.mono ?_
    rintro e w1 ⟨rfl, hb⟩
    go_wp2
    go_ret
    exact ⟨rfl, HB0.out.trans (hb.mono HB0.out.size)⟩
  have HG : Hid (VGiven w a n l) := ⟨HH.out.1, HH.out.2.1, HH.out.2.2.1, by omega⟩
  have hn100 : n ≤ 100 := by omega
  have HNil : Hid (a = none → cap = 0 ∧ n = 0) := HH.out.2.2.2.1
  have HN1 : Hid (n + 1 = (l ++ [(f, s)]).length) := by show _ = _; rw [List.length_append, ← HG.out.len]; rfl
  have HOK : Hid (∀ v ∈ l ++ [(f, s)], VOk v) := fun v hm => by
    rcases List.mem_append.1 hm with hm | hm
    · exact HG.out.ok v hm
    · rw [List.mem_singleton] at hm; subst hm; exact hv
  clear hbig hv
  go_enter Try.func6, Try.ntmps6
  go_wp2_with fail
  rw [← HW2.out]
  refine HU.out.mono ?_
  rintro e w1 ⟨rfl, hb⟩
  have HBW : Hid (Below W2.heap.size W2 w1) := hb
  have HB1 : Hid (Below w.heap.size w w1) := HB0.out.trans (hb.mono HB0.out.size)
  have HS : Hid (∀ W, Below w1.heap.size w1 W → Below w1.heap.size w1 W ∧ W.cell? ⟨w.heap.size, 0, none⟩ = some (.int .i64 f) ∧ W.cell? ⟨w.heap.size, 1, none⟩ = some (.string s)) := fun W hb => ⟨hb, HX.out W (HBW.out.trans (hb.mono HBW.out.size))⟩
  have HLL : Hid (∀ W, Below w1.heap.size w1 W → LiesV W a l) := fun W hb => HG.out.lies.below (HB1.out.trans (hb.mono HB1.out.size))
  obtain ⟨_, x0, x1⟩ := HS.out w1 (Below.refl _ _)
  clear hb HU HX
  go_wp2_with fail
  go_region_held3 (fun W => Below w1.heap.size w1 W ∧ W.cell? ⟨w.heap.size, 0, none⟩ = some (.int .i64 f) ∧ W.cell? ⟨w.heap.size, 1, none⟩ = some (.string s))
      (first | assumption | exact HS.out _ hf7.2.1 | exact HS.out _ hf6.2.1 | exact HS.out _ (Below.refl _ _).drew | exact HS.out _ (Below.refl _ _) | exact HS.out _ ((Below.refl _ _).alloc (Nat.le_refl _) _) | exact HS.out _ (((Below.refl _ _).alloc (Nat.le_refl _) _).alloc (by simp) _) | exact HS.out _ (hf6.2.1.alloc hf6.2.2 _) | exact HS.out _ (((Below.refl _ _).drew).alloc (Nat.le_refl _) _) | exact HS.out _ ((((Below.refl _ _).drew).alloc (Nat.le_refl _) _).alloc (by simp) _))
      (first
        | (refine step_votes (by rfl) _ _ (by rfl) w1.heap.size v6 l (by rfl) w1 _ (by first | exact hf6 | exact hf6.alloc _) [(f, s)] (some ⟨_, 0, none⟩) 1 1 (by rfl) rfl (xlies (by first | exact heap_alloc_new _ _ | exact (hq6.out _ (by simp) (fun h => absurd (show some (w1.heap.size + 1) = some w1.heap.size from h) (by simp))).trans (heap_two _ _ _) | exact (hq6.out _ (by simp; omega) (fun h => absurd (show some w1.heap.size = some (w1.heap.size + 1) from h) (by simp))).trans (heap_one _ _ _) | exact (hq6.out _ (by simp) (fun h => absurd (show some w1.heap.size = some (w1.heap.size + 1) from h) (by simp))).trans (heap_one _ _ _))) (fun h => by cases h) (by rw [← HG.out.len]; omega) ?_; intro v7 w7 hf7 hq7)
        | (refine step_votes (by rfl) _ _ (by rfl) w1.heap.size _ [] (by rfl) w1 _ (by first | exact VRow.fresh w1 | exact (VRow.fresh w1).alloc _ | exact VRow.fresh2 w1 _ | exact ((VRow.fresh w1).alloc _).later ((Below.refl _ _).drew) | exact (VRow.fresh2 w1 _).later ((Below.refl _ _).drew) | exact (VRow.fresh w1).later ((Below.refl _ _).drew)) l a n cap (by rfl) HG.out.len (HLL.out _ (by first | exact (Below.refl _ _).alloc (Nat.le_refl _) _ | exact ((Below.refl _ _).alloc (Nat.le_refl _) _).alloc (by simp) _ | exact (((Below.refl _ _).alloc (Nat.le_refl _) _).alloc (by simp) _).drew | exact ((Below.refl _ _).alloc (Nat.le_refl _) _).drew)) HNil.out (by rw [List.length_nil]; omega) ?_; rw [List.nil_append]; intro v6 w6 hf6 hq6))
  all_goals
    obtain ⟨a7, c7, hve, _, hl7⟩ := hf7.liesN HN1.out
    subst hve
    have HV7 : Hid (VGiven w7 a7 (n + 1) (l ++ [(f, s)])) := ⟨HN1.out, hl7, HOK.out, by omega⟩
    have HB7 : Hid (Below w1.heap.size w1 w7) := hf7.2.1
    clear hl7 hf7 hf6 hq6 hq7 x0 x1
    have HW : Hid (Calls _ _ _ _ _) := winner_x a n cap l need w7 ⟨HG.out.len, HLL.out _ HB7.out, HG.out.ok, HG.out.few⟩
    go_wp2_with fail
    refine HW.out.mono ?_
    rintro e w8 ⟨⟨x, is, rfl, HWX⟩, hb8⟩
    have HB8 : Hid (Below w7.heap.size w7 w8) := hb8
    have HC8 : Hid (Below w1.heap.size w1 w8) := HB7.out.trans (hb8.mono HB7.out.size)
    clear HW hb8
    have HW : Hid (Calls _ _ _ _ _) := winner_x a7 (n + 1) c7 (l ++ [(f, s)]) need w8 (HV7.out.below HB8.out)
    go_wp2_with fail
    refine HW.out.mono ?_
    rintro e w9 ⟨⟨y, still, rfl, HWY⟩, hb9⟩
    have HB9 : Hid (Below w7.heap.size w7 w9) := HB8.out.trans (hb9.mono HB8.out.size)
    have HC9 : Hid (Below w1.heap.size w1 w9) := HC8.out.trans (hb9.mono HC8.out.size)
    have HWM : Hid (is = true → still = true ∧ x = y) := winx_more HWX.out HWY.out
    clear HW hb9 HB8 HC8 HWX HWY
    have HW : Hid (Calls _ _ _ _ _) := count_any a n cap l t w9 ⟨HG.out.len, HLL.out _ HC9.out, HG.out.ok, HG.out.few⟩
    have hst := cnt_step l (f, s) t
    have HOT : Hid (s ≠ t → cnt (l ++ [(f, s)]) t = cnt l t) := fun h => cnt_other h
    have hc1 : cnt l t ≤ 100 := by have := who_len l t; have := HG.out.len; show (who l t).length ≤ 100; omega
    generalize cnt l t = k1 at HW hst HOT hc1
    go_wp2_with fail
    refine HW.out.mono ?_
    rintro e w10 ⟨rfl, hb10⟩
    have HB10 : Hid (Below w7.heap.size w7 w10) := HB9.out.trans (hb10.mono HB9.out.size)
    have HC10 : Hid (Below w1.heap.size w1 w10) := HC9.out.trans (hb10.mono HC9.out.size)
    clear HW hb10 HB9 HC9
    have HW : Hid (Calls _ _ _ _ _) := count_any a7 (n + 1) c7 (l ++ [(f, s)]) t w10 (HV7.out.below HB10.out)
    generalize cnt (l ++ [(f, s)]) t = k2 at HW hst HOT
    go_wp2_with fail
    refine HW.out.mono ?_
    rintro e w11 ⟨rfl, hb11⟩
    have HC11 : Hid (Below w1.heap.size w1 w11) := HC10.out.trans (hb11.mono HC10.out.size)
    have HXW : Hid (Below w.heap.size w w11) := HB1.out.trans (HC11.out.mono HB1.out.size)
    obtain ⟨_, x0, x1⟩ := HS.out w11 HC11.out
    clear HW hb11 HB10 HC10 HV7 HB7 HLL HS HG HOK HN1 HNil HC11
    obtain ⟨hs1, hs2⟩ := hst
    have d1 : decide (k1 ≤ k2) = true := decide_eq_true hs1
    have d2 : decide ((k2 : Int) ≤ (k1 : Int) + 1) = true := decide_eq_true (by omega)
    by_cases hst : s = t
    · have hd : (s.toList == t.toList) = true := by rw [str_eq, decide_eq_true hst]
      clear hst HOT
      cases is with
      | false =>
        go_wp2
        go_ret
        exact ⟨by first | rfl | simp, HXW.out⟩
      | true =>
        obtain ⟨rfl, rfl⟩ := HWM.out rfl
        go_wp2
        go_ret
        exact ⟨by first | rfl | simp, HXW.out⟩
    · have hd := ne_text hst
      have hk := HOT.out hst
      subst hk
      clear hst HOT
      cases is with
      | false =>
        go_wp2
        go_ret
        exact ⟨by first | rfl | simp, HXW.out⟩
      | true =>
        obtain ⟨rfl, rfl⟩ := HWM.out rfl
        go_wp2
        go_ret
        exact ⟨by first | rfl | simp, HXW.out⟩
end Go.Proofs.Ytimacmimibpgpaa.Vote
