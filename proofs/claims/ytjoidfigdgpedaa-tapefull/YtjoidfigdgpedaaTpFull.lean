/-
  The walk of TapeFull.
-/
import Derived.Test.YtjoidfigdgpedaaTpUp
namespace Go.Proofs.Ytjoidfigdgpedaa
open Go.RowKit

theorem zeros_lies (W : World) (K : Nat) : Lies (W.alloc (.cells (madeCells #[.int .u8 0] K) 5)) (some ⟨W.heap.size, 0, none⟩) (List.replicate K 0) := by
  refine Or.inr ⟨_, rfl, fun j u hj => ?_⟩
  rw [Go.WideShapes.add_plain, Nat.zero_add]
  have hh := heap_alloc_new W (.cells (madeCells #[.int .u8 0] K) 5)
  rw [cell_of_row _ W.heap.size j _ 5 (0, 0) hh, ← hj, ← Array.getElem?_toList, toList_madeCells_one]
  simp [bv]

theorem make_any (W : World) (K : Nat) (q : Int) (hq : q = (K : Int)) (hK : K ≤ 2000000) :
    (Instr.makeSlice 26 (.int .i64 q) (.int .i64 q)).run Try.prog W = .ok (.slice (some ⟨W.heap.size, 0, none⟩) K K) (W.alloc (.cells (madeCells #[.int .u8 0] K) 5)) := by
  subst hq
  obtain ⟨i0, hi, hz0, hz1, hz2⟩ := info_parts info5
  have h := run_make (P := Try.prog) W 26 5 i0 (.int .u8 0) Try.underlying26 hi hz0 .i64 .i64 (K : Int) (K : Int) (by omega) (by omega) (by rw [hz2]; omega) (by omega)
  rw [hz1] at h
  simp only [Int.toNat_natCast, Nat.mul_one] at h
  exact h

theorem eqFull (w : World) : (binOp .eql 32 (.iface 34 (.int .i64 5)) (.iface 34 (.int .i64 5))).run Try.prog w = .ok (.bool true) w := by kernel_rfl

set_option maxHeartbeats 2000000 in
theorem tapeFull_core (n more : Int) (w : World) (hn1 : -9223372036854775808 ≤ n) (hn2 : n ≤ 9223372036854775807) (hm1 : -9223372036854775808 ≤ more) (hm2 : more ≤ 9223372036854775807) :
    Calls Try.prog 4 #[.int .i64 n, .int .i64 more] w fun e w' => e = .returned (.bool true) ∧ Below w.heap.size w w' := by
  have HP1 : Hid (∀ W, Calls Try.prog 9 #[.int .i64 n, .int .i64 20] W fun e w' => (∃ q : Nat, q < 20 ∧ e = .returned (.int .i64 (q : Int))) ∧ w' = W) := fun W => pick_any n 20 W hn1 hn2 (by omega) (by omega)
  have HP2 : Hid (∀ W, Calls Try.prog 9 #[.int .i64 more, .int .i64 40] W fun e w' => (∃ q : Nat, q < 40 ∧ e = .returned (.int .i64 (q : Int))) ∧ w' = W) := fun W => pick_any more 40 W hm1 hm2 (by omega) (by omega)
  clear hn1 hn2 hm1 hm2
  go_enter Try.func4, Try.ntmps4
  go_wp2_with fail
  refine (up_any w).mono ?_
  rintro e w1 ⟨rfl, hb1⟩
  have HN : Hid (Calls _ _ _ _ _) := new_st w w1 hb1
  clear hb1
  go_wp2_with fail
  refine HN.out.mono ?_
  rintro e w2 ⟨tp, rfl, h2, _, _⟩
  go_wp2_with fail
  refine (HP1.out w2).mono ?_
  rintro e w2 ⟨⟨q, hq, rfl⟩, rfl⟩
  obtain ⟨K, hK⟩ : ∃ K, K = 1048576 - q := ⟨_, rfl⟩
  have HK : Hid (K = 1048576 - q) := hK
  have hmk := make_any w2 K (1048576 - (q : Int)) (by omega) (by omega)
  have H2 : Hid (Calls Try.prog 13 #[.pointer (some ⟨tp, 0, none⟩), .slice (some ⟨w2.heap.size, 0, none⟩) K K] (w2.alloc (.cells (madeCells #[.int .u8 0] K) 5)) fun e w' => e = .returned .nilIface ∧ ∃ r', St w w' tp ([] ++ List.replicate K 0) 0 r' ∧ Turns tp none r' (w2.alloc (.cells (madeCells #[.int .u8 0] K) 5)) w') :=
    append_st (h2.alloc _) (by show _ = _; simp) (zeros_lies w2 K) (by simp) (by simp; omega)
  clear h2 HN HP1 hK
  go_wp2_with fail
  refine H2.out.mono ?_
  rintro e w3 ⟨rfl, r3, h3, _⟩
  clear H2 hmk
  go_wp2_with fail
  refine (HP2.out w3).mono ?_
  rintro e w3 ⟨⟨m, hm, rfl⟩, rfl⟩
  have hmk := make_any w3 m (m : Int) rfl (by omega)
  clear HP2
  rcases Nat.lt_or_ge q m with hlt | hge
  · have H3 : Hid (Calls Try.prog 13 #[.pointer (some ⟨tp, 0, none⟩), .slice (some ⟨w3.heap.size, 0, none⟩) m m] (w3.alloc (.cells (madeCells #[.int .u8 0] m) 5)) fun e w' => e = .returned (.iface 34 (.int .i64 5)) ∧ w' = w3.alloc (.cells (madeCells #[.int .u8 0] m) 5)) :=
      append_no (b := List.replicate m 0) (h3.alloc _).1 (by show _ = _; simp) (by have := HK.out; simp; omega)
    have HB : Hid (Calls _ _ _ _ _) := bytes_st (h3.alloc (.cells (madeCells #[.int .u8 0] m) 5))
    have he := eqFull
    go_wp2_with fail
    refine H3.out.mono ?_
    rintro e w4 ⟨rfl, rfl⟩
    go_wp2_with fail
    refine HB.out.mono ?_
    rintro e w5 ⟨a5, k5, cap5, rfl, hk5, _, _, h5, _⟩
    have hkk : (k5 : Int) = 1048576 - (q : Int) := by have h1 := hk5.out; have h2 := HK.out; simp at h1; omega
    have hE : Hid (Below w.heap.size w w5) := h5.2
    clear h5 h3 hmk
    go_wp2
    go_ret
    exact ⟨rfl, hE.out⟩
  · have H3 : Hid (Calls Try.prog 13 #[.pointer (some ⟨tp, 0, none⟩), .slice (some ⟨w3.heap.size, 0, none⟩) m m] (w3.alloc (.cells (madeCells #[.int .u8 0] m) 5)) fun e w' => e = .returned .nilIface ∧ ∃ r', St w w' tp (([] ++ List.replicate K 0) ++ List.replicate m 0) 0 r' ∧ Turns tp r3 r' (w3.alloc (.cells (madeCells #[.int .u8 0] m) 5)) w') :=
      append_st (h3.alloc _) (by show _ = _; simp) (zeros_lies w3 m) (by simp) (by have := HK.out; simp; omega)
    clear h3
    go_wp2_with fail
    refine H3.out.mono ?_
    rintro e w4 ⟨rfl, r4, h4, _⟩
    have HB : Hid (Calls _ _ _ _ _) := bytes_st h4
    clear h4 H3 hmk
    go_wp2_with fail
    refine HB.out.mono ?_
    rintro e w5 ⟨a5, k5, cap5, rfl, hk5, _, _, h5, _⟩
    have hkk : (k5 : Int) = 1048576 - (q : Int) + (m : Int) := by have h1 := hk5.out; have h2 := HK.out; simp at h1; omega
    have hE : Hid (Below w.heap.size w w5) := h5.2
    clear h5
    go_wp2
    go_ret
    exact ⟨rfl, hE.out⟩

theorem tapeFull_walk (n more : Int) (w : World) (hn1 : -9223372036854775808 ≤ n) (hn2 : n ≤ 9223372036854775807) (hm1 : -9223372036854775808 ≤ more) (hm2 : more ≤ 9223372036854775807) :
    Calls Try.prog 4 #[.int .i64 n, .int .i64 more] w fun e w' => e = .returned (.bool true) ∧ Below w.heap.size w w' := tapeFull_core n more w hn1 hn2 hm1 hm2
end Go.Proofs.Ytjoidfigdgpedaa
