/-
  The walk of WirePuts.
-/
import Derived.Test.YtiackikomefcfaaUp
import Derived.Deep.RegionHeld
namespace Go.Proofs.Ytiackikomefcfaa
open Go.RowKit

theorem add_str (A B : List UInt8) (h : A.length + B.length ≤ 9223372036854775807) (w : World) :
    (Op.stringOp .add ⟨A.toArray⟩ ⟨B.toArray⟩).run Try.prog w = .ok (.string ⟨(A ++ B).toArray⟩) w := by
  rw [run_string_add_sum w ⟨A.toArray⟩ ⟨B.toArray⟩ (by simpa [ByteArray.size] using h)]
  congr 2

/-- A call that makes bytes, its answer read as a text, in a world that stands upon w3. -/
theorem refNum_at (w3 W : World) (n : Nat) (N : ByteArray) (hN : N = ⟨(digs n).toArray⟩) (hn : n < 18446744073709551616) (hS : Below w3.heap.size w3 W) :
    Calls Try.prog 9 #[.int .u64 n] W fun e w' => ∃ a k cap, e = .returned (.slice a k cap) ∧ (convert 22 9 (.slice a k cap)).run Try.prog w' = .ok (.string N) w' ∧ Below w3.heap.size w3 w' := by
  subst hN
  refine (refNum_any n W hn).mono ?_
  rintro e w' ⟨v, rfl, hb⟩
  obtain ⟨a, cap, rfl, _, _, h3, _, _⟩ := hb.form
  exact ⟨a, _, cap, rfl, conv_lies h3, hS.trans (hb.2.1.mono hS.size)⟩

theorem refText_at (w3 W : World) (s : ByteArray) (N : ByteArray) (hN : N = ⟨(digs s.size ++ s.data.toList).toArray⟩) (hs : s.size ≤ 40000000000000) (hS : Below w3.heap.size w3 W) :
    Calls Try.prog 10 #[.string s] W fun e w' => ∃ a k cap, e = .returned (.slice a k cap) ∧ (convert 22 9 (.slice a k cap)).run Try.prog w' = .ok (.string N) w' ∧ Below w3.heap.size w3 w' := by
  subst hN
  refine (refText_any s W hs).mono ?_
  rintro e w' ⟨v, rfl, hb⟩
  obtain ⟨a, cap, rfl, _, _, h3, _, _⟩ := hb.form
  exact ⟨a, _, cap, rfl, conv_lies h3, hS.trans (hb.2.1.mono hS.size)⟩

set_option maxHeartbeats 1600000 in
theorem wirePuts_core (a : Option Addr) (l : List UInt8) (cap k n : Nat) (s : ByteArray) (w : World) (hk : k = l.length) (hl : Lies w a l) (hk1 : k ≤ 10000) (hs : s.size ≤ 10000) (hn : n < 18446744073709551616) :
    Calls Try.prog 3 #[.slice a k cap, .int .u64 n, .string s] w fun e w' => e = .returned (.bool true) ∧ Below w.heap.size w w' := by
  have HK : Hid (k = l.length) := hk
  clear hk
  go_enter Try.func3, Try.ntmps3
  go_wp2_with fail
  refine (up_any w).mono ?_
  rintro e w1 ⟨rfl, hb1⟩
  go_wp2_with fail
  have hl1 : Lies w1 a l := hl.below hb1 (Nat.le_refl _)
  have hc1 : Calls Try.prog 7 #[.slice a k cap, .int .u64 n] w1 fun e w' => ∃ v', e = .returned v' ∧ Buf w1.heap.size v' (l ++ digs n) w1 w' := by
    rw [HK.out]; exact num_any a l cap n w1 hl1 (by rw [← HK.out]; omega) hn
  refine hc1.mono ?_
  rintro e w2 ⟨v2, rfl, hb2⟩
  clear hc1
  obtain ⟨a2, cap2, rfl, _, _, hx2, _, _⟩ := hb2.form
  obtain ⟨k2, hk2⟩ : ∃ k2, k2 = (l ++ digs n).length := ⟨_, rfl⟩
  rw [← hk2]
  have HK2 : Hid (k2 = (l ++ digs n).length) := hk2
  clear hk2
  have hbb2 : Below w1.heap.size w1 w2 := hb2.2.1
  clear hb2
  go_wp2_with fail
  have hl2 : Lies w2 a l := hl1.below hbb2 (Nat.le_refl _)
  have hc2 : Calls Try.prog 8 #[.slice a k cap, .string s] w2 fun e w' => ∃ v', e = .returned v' ∧ Buf w2.heap.size v' (l ++ digs s.size ++ s.data.toList) w2 w' := by
    rw [HK.out]; exact text_any a l cap s w2 hl2 (by rw [← HK.out]; omega) (by omega)
  refine hc2.mono ?_
  rintro e w3 ⟨v3, rfl, hb3⟩
  clear hc2
  obtain ⟨a3, cap3, rfl, _, _, hx3, _, _⟩ := hb3.form
  obtain ⟨k3, hk3⟩ : ∃ k3, k3 = (l ++ digs s.size ++ s.data.toList).length := ⟨_, rfl⟩
  rw [← hk3]
  have HK3 : Hid (k3 = (l ++ digs s.size ++ s.data.toList).length) := hk3
  clear hk3
  have hbb3 : Below w2.heap.size w2 w3 := hb3.2.1
  clear hb3
  have hl3 : Lies w3 a l := hl2.below hbb3 (Nat.le_refl _)
  have hx23 : Lies w3 a2 (l ++ digs n) := hx2.below hbb3 (Nat.le_refl _)
  obtain ⟨A, hA⟩ : ∃ A : ByteArray, A = ⟨l.toArray⟩ := ⟨_, rfl⟩
  obtain ⟨X, hX⟩ : ∃ X : ByteArray, X = ⟨(l ++ digs n).toArray⟩ := ⟨_, rfl⟩
  obtain ⟨Y, hY⟩ : ∃ Y : ByteArray, Y = ⟨(l ++ digs s.size ++ s.data.toList).toArray⟩ := ⟨_, rfl⟩
  obtain ⟨N, hN⟩ : ∃ N : ByteArray, N = ⟨(digs n).toArray⟩ := ⟨_, rfl⟩
  obtain ⟨T, hT⟩ : ∃ T : ByteArray, T = ⟨(digs s.size ++ s.data.toList).toArray⟩ := ⟨_, rfl⟩
  have cA : ∀ w', Below w3.heap.size w3 w' → (convert 22 9 (.slice a k cap)).run Try.prog w' = .ok (.string A) w' := fun w' h => by rw [HK.out, hA]; exact conv_lies (hl3.below h (Nat.le_refl _))
  have cX : ∀ w', Below w3.heap.size w3 w' → (convert 22 9 (.slice a2 k2 cap2)).run Try.prog w' = .ok (.string X) w' := fun w' h => by rw [HK2.out, hX]; exact conv_lies (hx23.below h (Nat.le_refl _))
  have cY : ∀ w', Below w3.heap.size w3 w' → (convert 22 9 (.slice a3 k3 cap3)).run Try.prog w' = .ok (.string Y) w' := fun w' h => by rw [HK3.out, hY]; exact conv_lies (hx3.below h (Nat.le_refl _))
  have aX : ∀ w', (Op.stringOp .add A N).run Try.prog w' = .ok (.string X) w' := fun w' => by
    rw [hA, hN, hX]; exact add_str l (digs n) (by have := digs_len10 hn; have := HK.out; omega) w'
  have aY : ∀ w', (Op.stringOp .add A T).run Try.prog w' = .ok (.string Y) w' := fun w' => by
    rw [hA, hT, hY, List.append_assoc]
    refine add_str l (digs s.size ++ s.data.toList) ?_ w'
    have h1 := digs_len10 (n := s.size) (by omega)
    have h2 : s.data.toList.length = s.size := by simp
    have := HK.out
    rw [List.length_append, h2]; omega
  have HB : Hid (Below w.heap.size w w3) := (hb1.trans (hbb2.mono hb1.size)).trans (hbb3.mono (Nat.le_trans hb1.size hbb2.size))
  have HN : Hid (N = ⟨(digs n).toArray⟩) := hN
  have HT : Hid (T = ⟨(digs s.size ++ s.data.toList).toArray⟩) := hT
  clear hl hl1 hl2 hl3 hx2 hx23 hx3 hb1 hbb2 hbb3 hA hX hY hN hT
  go_wp2
  go_region_held (fun w' => Below w3.heap.size w3 w') (first | assumption | exact (Below.refl _ _).drew)
    (first
      | (go_at_call 9; refine (refNum_at w3 _ n N HN.out hn (by assumption)).mono ?_; rintro e w4 ⟨a4, k4, cap4, rfl, hc4, hb4⟩)
      | (go_at_call 10; refine (refText_at w3 _ s T HT.out (by omega) (by assumption)).mono ?_; rintro e w5 ⟨a5, k5, cap5, rfl, hc5, hb5⟩))
  all_goals
    have hE : Below w.heap.size w w5 := HB.out.trans (Below.mono (by assumption) HB.out.size)
    go_wp2
    go_ret
    exact ⟨rfl, hE⟩

set_option maxHeartbeats 400000 in
theorem wirePuts_far (a : Option Addr) (cap k n : Nat) (s : ByteArray) (w : World) (hs : s.size ≤ maxLen) (h : 10000 < k ∨ 10000 < s.size) :
    Calls Try.prog 3 #[.slice a k cap, .int .u64 n, .string s] w fun e w' => e = .returned (.bool true) ∧ Below w.heap.size w w' := by
  unfold maxLen at hs
  have h' : (10000 < k) ∨ (k ≤ 10000 ∧ 10000 < s.size) := by omega
  clear h
  rcases h' with h | ⟨h1, h2⟩
  all_goals
    go_enter Try.func3, Try.ntmps3
    go_wp2_with fail
    refine (up_any w).mono ?_
    rintro e w1 ⟨rfl, hb1⟩
    go_wp2
    go_ret
    exact ⟨rfl, hb1⟩
end Go.Proofs.Ytiackikomefcfaa
