/-
  TreeBack, walked, where the files make no tree: both builds are refused.
-/
import Derived.Test.YtcjkficpiedpfaaDoorTrTurn
namespace Go.Proofs.YtcjkficpiedpfaaDoor.Tree
open Go.RowKit Route Chunk

theorem turn_neg (t : Int) (n : Nat) (h : t < 0) (hn : 0 < n) : ∃ k : Nat, -(t + 1).tmod (n : Int) = (k : Int) ∧ k < n := by
  have h1 : (t + 1).tmod (n : Int) = -((-(t + 1)) % (n : Int)) := by
    have e : t + 1 = -(-(t + 1)) := by omega
    rw [e, Int.neg_tmod, Int.tmod_eq_emod_of_nonneg (by omega), ← e]
  have h2 := Int.emod_nonneg (-(t + 1)) (show (n : Int) ≠ 0 by omega)
  have h3 := Int.emod_lt_of_pos (-(t + 1)) (show (0 : Int) < (n : Int) by omega)
  exact ⟨((-(t + 1)) % (n : Int)).toNat, by rw [h1]; omega, by omega⟩

theorem turn_pos (t : Int) (n : Nat) (hn : 0 < n) : ∃ k : Nat, t % (n : Int) = (k : Int) ∧ k < n := by
  have h2 := Int.emod_nonneg t (show (n : Int) ≠ 0 by omega)
  have h3 := Int.emod_lt_of_pos t (show (0 : Int) < (n : Int) by omega)
  exact ⟨(t % (n : Int)).toNat, by omega, by omega⟩

set_option maxHeartbeats 4000000 in
set_option maxRecDepth 100000 in
theorem back_err (a : Option Addr) (n cap : Nat) (l : List (ByteArray × ByteArray)) (mn mx mk t : Int) (w : World) (hg : Known w) (hn : n = l.length) (hl : LiesF w a l) (hc : n ≤ cap) (h0 : 0 < n) (ht0 : -9223372036854775808 ≤ t) (ht1 : t ≤ 9223372036854775807)
    (hb1 : ∀ W, Below w.heap.size w W → FilesOk n l → Calls Tryd.prog 19 #[.slice a n cap, cutV mn mx mk] W fun e w' => (∃ v, e = .returned (.tuple #[.slice none 0 0, v]) ∧ Bad v) ∧ Below W.heap.size W w')
    (hb2 : ∀ (a' : Option Addr) cap' k W, k < n → LiesF W a' (l.drop k ++ l.take k) → n ≤ cap' → FilesOk n l → Calls Tryd.prog 19 #[.slice a' n cap', cutV mn mx mk] W fun e w' => (∃ v, e = .returned (.tuple #[.slice none 0 0, v]) ∧ Bad v) ∧ Below W.heap.size W w') :
    Calls Tryd.prog 6 #[.slice a n cap, cutV mn mx mk, .int .i64 t] w fun e w' => e = .returned (.bool true) ∧ Below w.heap.size w w' := by
  have HUP : Hid (Calls Tryd.prog 9 #[] (w.alloc (.cells #[.int .i64 mn, .int .i64 mx, .int .i64 mk] 43)) fun e w' => e = .returned (.bool true) ∧ Below (w.alloc (.cells #[.int .i64 mn, .int .i64 mx, .int .i64 mk] 43)).heap.size (w.alloc (.cells #[.int .i64 mn, .int .i64 mx, .int .i64 mk] 43)) w') := up_any _ (hg.below ((Below.refl _ _).alloc (Nat.le_refl _) _) (Nat.le_refl _))
  have HFW : Hid (∀ W, Below w.heap.size w W → Calls Tryd.prog 18 #[.slice a n cap] W fun e w' => Fews e n l ∧ w' = W) := fun W hb => few_any a n cap l W hn (hl.below hb (Nat.le_refl _))
  have HB1 : Hid (∀ W, Below w.heap.size w W → FilesOk n l → Calls Tryd.prog 19 #[.slice a n cap, cutV mn mx mk] W fun e w' => (∃ v, e = .returned (.tuple #[.slice none 0 0, v]) ∧ Bad v) ∧ Below W.heap.size W w') := hb1
  have HB2 : Hid (∀ (a' : Option Addr) cap' k W, k < n → LiesF W a' (l.drop k ++ l.take k) → n ≤ cap' → FilesOk n l → Calls Tryd.prog 19 #[.slice a' n cap', cutV mn mx mk] W fun e w' => (∃ v, e = .returned (.tuple #[.slice none 0 0, v]) ∧ Bad v) ∧ Below W.heap.size W w') := hb2
  unfold cutV at HB1 HB2 ⊢
  have HN : Hid (n = l.length) := hn
  obtain ⟨x, hx, _⟩ := hl.at (j := 0) (by omega)
  subst hx
  have HL : Hid (LiesF w (some x) l) := hl
  clear hg hb1 hb2 hn hl
  have hd0 : ((n : Int) == 0) = false := by simp; omega
  go_enter Tryd.func6, Tryd.ntmps6
  go_wp2_with fail
  refine HUP.out.mono ?_
  rintro e w1 ⟨rfl, hb1⟩
  obtain ⟨k0, k1, k2, hbw, hlt⟩ := cut_box hb1
  go_wp2_with fail
  refine (HFW.out _ hbw).mono ?_
  rintro e w2 ⟨⟨b, rfl, hb⟩, rfl⟩
  clear hb1
  cases b with
  | false =>
    go_wp2
    go_ret
    exact ⟨rfl, hbw⟩
  | true =>
    have HOK : Hid (FilesOk n l) := ⟨HN.out, by have := (hb rfl).1; omega, (hb rfl).2⟩
    have hn100 : n ≤ 100 := (hb rfl).1
    clear hb
    go_wp2_with fail
    refine (HB1.out _ hbw HOK.out).mono ?_
    rintro e w3 ⟨⟨v3, rfl, hv3⟩, hb3⟩
    obtain ⟨hv3a, hv3b⟩ := hv3
    have c0 := cell_kept hb3 k0
    have c1 := cell_kept hb3 k1
    have c2 := cell_kept hb3 k2
    have HB3 : Hid (Below w.heap.size w w3) := hbw.trans (hb3.mono hbw.size)
    clear k0 k1 k2 hb3 hbw
    have hkk : ∀ k : Nat, k < n → ∃ y : Addr, (∀ W, (Instr.slice 41 (.slice (some x) n cap) (some (.int .i64 (k : Int))) none none).run Tryd.prog W = .ok (.slice (some y) (n - k) (cap - k)) W) ∧ LiesF w3 (some y) (l.drop k) := fun k hk => files_from x n cap k l w3 HN.out (HL.out.below HB3.out (Nat.le_refl _)) hk hc
    by_cases htn : t < 0
    · obtain ⟨k, hkt, hkn⟩ := turn_neg t n htn h0
      have HKT : Hid (-(t + 1).tmod (n : Int) = (k : Int)) := hkt
      obtain ⟨y, hsf, hly⟩ := hkk k hkn
      have hst := slice_files (some x) n cap k (by omega)
      have HLD : Hid (∀ W, Below w3.heap.size w3 W → LiesF W (some y) (l.drop k)) := fun W hb => hly.below hb (Nat.le_refl _)
      have HLT : Hid (∀ W, Below w3.heap.size w3 W → LiesF W (some x) (l.take k)) := fun W hb => ((HL.out.below HB3.out (Nat.le_refl _)).below hb (Nat.le_refl _)).take k
      have HDK : Hid (n - k = (l.drop k).length) := by show _ = _; rw [List.length_drop, ← HN.out]
      have HTK : Hid (k = (l.take k).length) := by show _ = _; rw [List.length_take, ← HN.out]; omega
      have HRN : Hid (n = (l.drop k ++ l.take k).length) := by show _ = _; rw [List.length_append, ← HDK.out, ← HTK.out]; omega
      clear hkt hkk hly
      go_wp2_with fail
      rw [HKT.out]
      go_region_held3 (fun W => Below w3.heap.size w3 W)
        (first | exact hf7.2.1 | exact hf6.2.1 | exact (Below.refl _ _).drew | exact ((Below.refl _ _).drew).alloc (Nat.le_refl _) _ | exact ((Below.refl _ _).alloc (Nat.le_refl _) _).drew | assumption)
        (first
          | (refine step_files (by rfl) _ _ (by rfl) w3.heap.size v6 (l.drop k) (by rfl) w3 _ hf6 (l.take k) x k cap (by rfl) HTK.out (HLT.out _ hf6.2.1) (by rw [← HDK.out]; omega) ?_; intro v7 w7 hf7)
          | (refine step_files (by rfl) _ _ (by rfl) w3.heap.size _ [] (by rfl) w3 _ (by first | exact FRow.fresh w3 | exact (FRow.fresh w3).later ((Below.refl _ _).drew)) (l.drop k) y (n - k) (cap - k) (by rfl) HDK.out (HLD.out _ (by first | exact (Below.refl _ _).alloc (Nat.le_refl _) _ | exact ((Below.refl _ _).alloc (Nat.le_refl _) _).drew)) (by rw [List.length_nil]; omega) ?_; rw [List.nil_append]; intro v6 w6 hf6))
      all_goals
        obtain ⟨a7, cap7, rfl, hc7, hl7⟩ := hf7.liesN HRN.out
        have e0 := cell_kept hf7.2.1 c0
        have e1 := cell_kept hf7.2.1 c1
        have e2 := cell_kept hf7.2.1 c2
        have HB7 : Hid (Below w.heap.size w w7) := HB3.out.trans (hf7.2.1.mono HB3.out.size)
        clear hf7 hf6
        go_wp2_with fail
        refine (HB2.out _ _ k _ hkn hl7 hc7 HOK.out).mono ?_
        rintro e w8 ⟨⟨v8, rfl, hv8⟩, hb8⟩
        obtain ⟨hv8a, hv8b⟩ := hv8
        have HB8 : Hid (Below w.heap.size w w8) := HB7.out.trans (hb8.mono HB7.out.size)
        clear hb8 e0 e1 e2 hl7
        go_wp2
        go_ret
        exact ⟨rfl, HB8.out⟩
    · obtain ⟨k, hkt, hkn⟩ := turn_pos t n h0
      have HKT : Hid (t % (n : Int) = (k : Int)) := hkt
      obtain ⟨y, hsf, hly⟩ := hkk k hkn
      have hst := slice_files (some x) n cap k (by omega)
      have HLD : Hid (∀ W, Below w3.heap.size w3 W → LiesF W (some y) (l.drop k)) := fun W hb => hly.below hb (Nat.le_refl _)
      have HLT : Hid (∀ W, Below w3.heap.size w3 W → LiesF W (some x) (l.take k)) := fun W hb => ((HL.out.below HB3.out (Nat.le_refl _)).below hb (Nat.le_refl _)).take k
      have HDK : Hid (n - k = (l.drop k).length) := by show _ = _; rw [List.length_drop, ← HN.out]
      have HTK : Hid (k = (l.take k).length) := by show _ = _; rw [List.length_take, ← HN.out]; omega
      have HRN : Hid (n = (l.drop k ++ l.take k).length) := by show _ = _; rw [List.length_append, ← HDK.out, ← HTK.out]; omega
      clear hkt hkk hly
      go_wp2_with fail
      rw [HKT.out]
      go_region_held3 (fun W => Below w3.heap.size w3 W)
        (first | exact hf7.2.1 | exact hf6.2.1 | exact (Below.refl _ _).drew | exact ((Below.refl _ _).drew).alloc (Nat.le_refl _) _ | exact ((Below.refl _ _).alloc (Nat.le_refl _) _).drew | assumption)
        (first
          | (refine step_files (by rfl) _ _ (by rfl) w3.heap.size v6 (l.drop k) (by rfl) w3 _ hf6 (l.take k) x k cap (by rfl) HTK.out (HLT.out _ hf6.2.1) (by rw [← HDK.out]; omega) ?_; intro v7 w7 hf7)
          | (refine step_files (by rfl) _ _ (by rfl) w3.heap.size _ [] (by rfl) w3 _ (by first | exact FRow.fresh w3 | exact (FRow.fresh w3).later ((Below.refl _ _).drew)) (l.drop k) y (n - k) (cap - k) (by rfl) HDK.out (HLD.out _ (by first | exact (Below.refl _ _).alloc (Nat.le_refl _) _ | exact ((Below.refl _ _).alloc (Nat.le_refl _) _).drew)) (by rw [List.length_nil]; omega) ?_; rw [List.nil_append]; intro v6 w6 hf6))
      all_goals
        obtain ⟨a7, cap7, rfl, hc7, hl7⟩ := hf7.liesN HRN.out
        have e0 := cell_kept hf7.2.1 c0
        have e1 := cell_kept hf7.2.1 c1
        have e2 := cell_kept hf7.2.1 c2
        have HB7 : Hid (Below w.heap.size w w7) := HB3.out.trans (hf7.2.1.mono HB3.out.size)
        clear hf7 hf6
        go_wp2_with fail
        refine (HB2.out _ _ k _ hkn hl7 hc7 HOK.out).mono ?_
        rintro e w8 ⟨⟨v8, rfl, hv8⟩, hb8⟩
        obtain ⟨hv8a, hv8b⟩ := hv8
        have HB8 : Hid (Below w.heap.size w w8) := HB7.out.trans (hb8.mono HB7.out.size)
        clear hb8 e0 e1 e2 hl7
        go_wp2
        go_ret
        exact ⟨rfl, HB8.out⟩
end Go.Proofs.YtcjkficpiedpfaaDoor.Tree
