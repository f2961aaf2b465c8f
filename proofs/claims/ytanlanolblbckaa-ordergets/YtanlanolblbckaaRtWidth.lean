/-
  How many bytes the document's own reader finds at a place: 'width', at every place of every text.
-/
import Derived.Test.YtanlanolblbckaaRtLeaf
namespace Go.Proofs.Ytanlanolblbckaa.Route
open Go.RowKit

/-- 's[i]'. -/
theorem index_at (s : ByteArray) (i : Nat) (j : Int) (hj : j = (i : Int)) (h : i < s.size) (w : World) : (Instr.index 9 (.string s) (.int .i64 j)).run Try.prog w = .ok (.int .u8 (bt s i : Int)) w := by
  subst hj
  have := run_index_string (P := Try.prog) w 9 s .i64 (i : Int) Try.underlying9
  rw [this, dif_pos ⟨by omega, by omega⟩]
  simp [bt_at s i h]

theorem ret_int {a b : Nat} (h : a = b) : Ending.returned (Value.int .i64 (a : Int)) = .returned (.int .i64 (b : Int)) := by rw [h]

set_option maxHeartbeats 4000000 in
set_option maxRecDepth 100000 in
theorem width_plain (s : ByteArray) (i b : Nat) (w : World) (hi : i < s.size) (hb : b = bt s i) (hc : b < 128) :
    Calls Try.prog 47 #[.string s, .int .i64 (i : Int)] w fun e w' => e = .returned (.int .i64 1) ∧ w = w' := by
  have hix := index_at s i i rfl hi
  rw [← hb] at hix
  clear hb
  go_enter Try.func47, Try.ntmps47
  go_wp2
  go_ret
  exact ⟨rfl, rfl⟩

set_option maxHeartbeats 4000000 in
set_option maxRecDepth 100000 in
theorem width_none (s : ByteArray) (i b : Nat) (w : World) (hi : i < s.size) (hb : b = bt s i) (hc : (128 ≤ b ∧ b < 192) ∨ 248 ≤ b) :
    Calls Try.prog 47 #[.string s, .int .i64 (i : Int)] w fun e w' => e = .returned (.int .i64 0) ∧ w = w' := by
  have hix := index_at s i i rfl hi
  rw [← hb] at hix
  clear hb
  rcases hc with hc | hc
  all_goals
    go_enter Try.func47, Try.ntmps47
    go_wp2
    go_ret
    exact ⟨rfl, rfl⟩

set_option maxHeartbeats 4000000 in
set_option maxRecDepth 100000 in
theorem width_lead2 (s : ByteArray) (i b z r : Nat) (w : World) (hb : b = bt s i) (h1 : 192 ≤ b) (h2 : b < 224) (hz : z = s.size) (hs : z ≤ 140737488355328) (hfit : i + 2 ≤ z) (HR : Hid (r = wid s i)) :
    Calls Try.prog 47 #[.string s, .int .i64 (i : Int)] w fun e w' => e = .returned (.int .i64 (r : Int)) ∧ w = w' := by
  have hix := index_at s i i rfl (by omega)
  rw [← hb] at hix
  have HL : Lead (bt s i) 2 128 (b - 192) := by rw [← hb]; unfold Lead; omega
  have hlen : ∀ w, (Builtin.len_ #[9] 3 #[.string s]).run Try.prog w = .ok (.int .i64 (z : Int)) w := fun w => by
    rw [run_len_string w 9 3 s Try.underlying9, hz]; rfl
  have hdone : Hid (∀ V : Nat, Hid (V = val s i (b - 192) 2) → Hid (∀ j, 1 ≤ j → j < 2 → 128 ≤ bt s (i + j) ∧ bt s (i + j) ≤ 191) → r = fin 2 128 V) := fun V hV hcs => by
    have := wid_whole s i 2 128 (b - 192) HL (by omega) hcs
    rw [← HR.out, ← hV.out] at this
    exact this
  have hbad : Hid (∀ j, 1 ≤ j → j < 2 → (bt s (i + j) < 128 ∨ 191 < bt s (i + j)) → r = 0) := fun j h1 h2 h3 => by
    rw [HR.out]
    exact wid_broken s i 2 128 (b - 192) HL j h1 h2 (.inr h3)
  have hixs : Hid (∀ k : Nat, k < 2 → ∀ W : World, (Instr.index 9 (.string s) (.int .i64 ((i : Int) + (k : Int)))).run Try.prog W = .ok (.int .u8 (bt s (i + k) : Int)) W) := fun k hk W => index_at s (i + k) _ (by omega) (by omega) W
  clear hb hz HL HR
  go_enter Try.func47, Try.ntmps47
  go_wp2
  go_loop [4, 8, 9] (fun r4 v k' => r4 = .int .i64 0 ∧ ∃ k V : Nat, 1 ≤ k ∧ k ≤ 2 ∧ v = .int .i64 V ∧ k' = .int .i64 k ∧ Hid (V = val s i (b - 192) k) ∧ Hid (∀ j, 1 ≤ j → j < k → 128 ≤ bt s (i + j) ∧ bt s (i + j) ≤ 191) ∧ Hid ((k = 1 ∧ V < 64) ∨ (k = 2 ∧ V < 4096) ∨ (k = 3 ∧ V < 262144) ∨ (k = 4 ∧ V < 16777216))) (fun _ _ k' => 4 - (intOf k').toNat)
  case atStart => exact ⟨rfl, 1, b - 192, by omega, by omega, by congr 1; omega, rfl, rfl, fun j h1 h2 => absurd h2 (by omega), .inl ⟨rfl, by omega⟩⟩
  case round =>
    obtain ⟨rfl, k, V, hk1, hk, rfl, rfl, HV, HC, hV⟩ := hrel
    have hVs : V < 16777216 := by have := hV.out; omega
    by_cases hkn : k < 2
    · have hixk := hixs.out k hkn
      obtain ⟨d, hd⟩ : ∃ d, d = bt s (i + k) := ⟨_, rfl⟩
      have hd2 : d < 256 := by rw [hd]; exact bt_lt _ _
      have HD : Hid (d = bt s (i + k)) := hd
      rw [← hd] at hixk
      clear hd
      by_cases hcont : 128 ≤ d ∧ d ≤ 191
      · obtain ⟨hc1, hc2⟩ := hcont
        go_wp2
        have hVd : (((V * 64 + d - 128 : Nat)) : Int) = (V : Int) * 64 + (d : Int) - 128 := by omega
        refine ⟨⟨.int .i64 0, .int .i64 ((V : Int) * 64 + (d : Int) - 128), .int .i64 ((k : Int) + 1), ⟨rfl, k + 1, by omega, by omega, V * 64 + d - 128, by rw [hVd], by go_num, ?_, ?_, by have := hV.out; show _ ∨ _; omega⟩, rfl, rfl, rfl⟩, by simp [intOf]; omega⟩
        · obtain ⟨m, rfl⟩ : ∃ m, k = m + 1 := ⟨k - 1, by omega⟩
          show V * 64 + d - 128 = val s i (b - 192) (m + 1) * 64 + bt s (i + (m + 1)) - 128
          rw [← HV.out, ← HD.out]
        · intro j hj1 hj2
          by_cases hjk : j = k
          · subst hjk; rw [← HD.out]; exact ⟨hc1, hc2⟩
          · exact HC.out j hj1 (by omega)
      · have hr0 : r = 0 := hbad.out k hk1 hkn (by rw [← HD.out]; omega)
        subst hr0
        by_cases hlo : d < 128
        · go_wp2
          go_ret
          exact ⟨rfl, rfl⟩
        · have hhi : 191 < d := by omega
          go_wp2
          go_ret
          exact ⟨rfl, rfl⟩
    · obtain rfl : k = 2 := by omega
      have HRR : Hid (r = fin 2 128 V) := hdone.out V HV HC
      go_wp2
      all_goals
        go_ret
        refine ⟨?_, rfl⟩
        first
        | (refine ret_int (a := 2) (b := r) ?_; rw [HRR.out]; unfold fin; rw [if_neg (by simp at *; omega)])
        | (refine ret_int (a := 0) (b := r) ?_; rw [HRR.out]; unfold fin; rw [if_pos (by simp at *; omega)])

set_option maxHeartbeats 4000000 in
set_option maxRecDepth 100000 in
theorem width_lead3 (s : ByteArray) (i b z r : Nat) (w : World) (hb : b = bt s i) (h1 : 224 ≤ b) (h2 : b < 240) (hz : z = s.size) (hs : z ≤ 140737488355328) (hfit : i + 3 ≤ z) (HR : Hid (r = wid s i)) :
    Calls Try.prog 47 #[.string s, .int .i64 (i : Int)] w fun e w' => e = .returned (.int .i64 (r : Int)) ∧ w = w' := by
  have hix := index_at s i i rfl (by omega)
  rw [← hb] at hix
  have HL : Lead (bt s i) 3 2048 (b - 224) := by rw [← hb]; unfold Lead; omega
  have hlen : ∀ w, (Builtin.len_ #[9] 3 #[.string s]).run Try.prog w = .ok (.int .i64 (z : Int)) w := fun w => by
    rw [run_len_string w 9 3 s Try.underlying9, hz]; rfl
  have hdone : Hid (∀ V : Nat, Hid (V = val s i (b - 224) 3) → Hid (∀ j, 1 ≤ j → j < 3 → 128 ≤ bt s (i + j) ∧ bt s (i + j) ≤ 191) → r = fin 3 2048 V) := fun V hV hcs => by
    have := wid_whole s i 3 2048 (b - 224) HL (by omega) hcs
    rw [← HR.out, ← hV.out] at this
    exact this
  have hbad : Hid (∀ j, 1 ≤ j → j < 3 → (bt s (i + j) < 128 ∨ 191 < bt s (i + j)) → r = 0) := fun j h1 h2 h3 => by
    rw [HR.out]
    exact wid_broken s i 3 2048 (b - 224) HL j h1 h2 (.inr h3)
  have hixs : Hid (∀ k : Nat, k < 3 → ∀ W : World, (Instr.index 9 (.string s) (.int .i64 ((i : Int) + (k : Int)))).run Try.prog W = .ok (.int .u8 (bt s (i + k) : Int)) W) := fun k hk W => index_at s (i + k) _ (by omega) (by omega) W
  clear hb hz HL HR
  go_enter Try.func47, Try.ntmps47
  go_wp2
  go_loop [4, 8, 9] (fun r4 v k' => r4 = .int .i64 0 ∧ ∃ k V : Nat, 1 ≤ k ∧ k ≤ 3 ∧ v = .int .i64 V ∧ k' = .int .i64 k ∧ Hid (V = val s i (b - 224) k) ∧ Hid (∀ j, 1 ≤ j → j < k → 128 ≤ bt s (i + j) ∧ bt s (i + j) ≤ 191) ∧ Hid ((k = 1 ∧ V < 64) ∨ (k = 2 ∧ V < 4096) ∨ (k = 3 ∧ V < 262144) ∨ (k = 4 ∧ V < 16777216))) (fun _ _ k' => 4 - (intOf k').toNat)
  case atStart => exact ⟨rfl, 1, b - 224, by omega, by omega, by congr 1; omega, rfl, rfl, fun j h1 h2 => absurd h2 (by omega), .inl ⟨rfl, by omega⟩⟩
  case round =>
    obtain ⟨rfl, k, V, hk1, hk, rfl, rfl, HV, HC, hV⟩ := hrel
    have hVs : V < 16777216 := by have := hV.out; omega
    by_cases hkn : k < 3
    · have hixk := hixs.out k hkn
      obtain ⟨d, hd⟩ : ∃ d, d = bt s (i + k) := ⟨_, rfl⟩
      have hd2 : d < 256 := by rw [hd]; exact bt_lt _ _
      have HD : Hid (d = bt s (i + k)) := hd
      rw [← hd] at hixk
      clear hd
      by_cases hcont : 128 ≤ d ∧ d ≤ 191
      · obtain ⟨hc1, hc2⟩ := hcont
        go_wp2
        have hVd : (((V * 64 + d - 128 : Nat)) : Int) = (V : Int) * 64 + (d : Int) - 128 := by omega
        refine ⟨⟨.int .i64 0, .int .i64 ((V : Int) * 64 + (d : Int) - 128), .int .i64 ((k : Int) + 1), ⟨rfl, k + 1, by omega, by omega, V * 64 + d - 128, by rw [hVd], by go_num, ?_, ?_, by have := hV.out; show _ ∨ _; omega⟩, rfl, rfl, rfl⟩, by simp [intOf]; omega⟩
        · obtain ⟨m, rfl⟩ : ∃ m, k = m + 1 := ⟨k - 1, by omega⟩
          show V * 64 + d - 128 = val s i (b - 224) (m + 1) * 64 + bt s (i + (m + 1)) - 128
          rw [← HV.out, ← HD.out]
        · intro j hj1 hj2
          by_cases hjk : j = k
          · subst hjk; rw [← HD.out]; exact ⟨hc1, hc2⟩
          · exact HC.out j hj1 (by omega)
      · have hr0 : r = 0 := hbad.out k hk1 hkn (by rw [← HD.out]; omega)
        subst hr0
        by_cases hlo : d < 128
        · go_wp2
          go_ret
          exact ⟨rfl, rfl⟩
        · have hhi : 191 < d := by omega
          go_wp2
          go_ret
          exact ⟨rfl, rfl⟩
    · obtain rfl : k = 3 := by omega
      have HRR : Hid (r = fin 3 2048 V) := hdone.out V HV HC
      go_wp2
      all_goals
        go_ret
        refine ⟨?_, rfl⟩
        first
        | (refine ret_int (a := 3) (b := r) ?_; rw [HRR.out]; unfold fin; rw [if_neg (by simp at *; omega)])
        | (refine ret_int (a := 0) (b := r) ?_; rw [HRR.out]; unfold fin; rw [if_pos (by simp at *; omega)])

set_option maxHeartbeats 4000000 in
set_option maxRecDepth 100000 in
theorem width_lead4 (s : ByteArray) (i b z r : Nat) (w : World) (hb : b = bt s i) (h1 : 240 ≤ b) (h2 : b < 248) (hz : z = s.size) (hs : z ≤ 140737488355328) (hfit : i + 4 ≤ z) (HR : Hid (r = wid s i)) :
    Calls Try.prog 47 #[.string s, .int .i64 (i : Int)] w fun e w' => e = .returned (.int .i64 (r : Int)) ∧ w = w' := by
  have hix := index_at s i i rfl (by omega)
  rw [← hb] at hix
  have HL : Lead (bt s i) 4 65536 (b - 240) := by rw [← hb]; unfold Lead; omega
  have hlen : ∀ w, (Builtin.len_ #[9] 3 #[.string s]).run Try.prog w = .ok (.int .i64 (z : Int)) w := fun w => by
    rw [run_len_string w 9 3 s Try.underlying9, hz]; rfl
  have hdone : Hid (∀ V : Nat, Hid (V = val s i (b - 240) 4) → Hid (∀ j, 1 ≤ j → j < 4 → 128 ≤ bt s (i + j) ∧ bt s (i + j) ≤ 191) → r = fin 4 65536 V) := fun V hV hcs => by
    have := wid_whole s i 4 65536 (b - 240) HL (by omega) hcs
    rw [← HR.out, ← hV.out] at this
    exact this
  have hbad : Hid (∀ j, 1 ≤ j → j < 4 → (bt s (i + j) < 128 ∨ 191 < bt s (i + j)) → r = 0) := fun j h1 h2 h3 => by
    rw [HR.out]
    exact wid_broken s i 4 65536 (b - 240) HL j h1 h2 (.inr h3)
  have hixs : Hid (∀ k : Nat, k < 4 → ∀ W : World, (Instr.index 9 (.string s) (.int .i64 ((i : Int) + (k : Int)))).run Try.prog W = .ok (.int .u8 (bt s (i + k) : Int)) W) := fun k hk W => index_at s (i + k) _ (by omega) (by omega) W
  clear hb hz HL HR
  go_enter Try.func47, Try.ntmps47
  go_wp2
  go_loop [4, 8, 9] (fun r4 v k' => r4 = .int .i64 0 ∧ ∃ k V : Nat, 1 ≤ k ∧ k ≤ 4 ∧ v = .int .i64 V ∧ k' = .int .i64 k ∧ Hid (V = val s i (b - 240) k) ∧ Hid (∀ j, 1 ≤ j → j < k → 128 ≤ bt s (i + j) ∧ bt s (i + j) ≤ 191) ∧ Hid ((k = 1 ∧ V < 64) ∨ (k = 2 ∧ V < 4096) ∨ (k = 3 ∧ V < 262144) ∨ (k = 4 ∧ V < 16777216))) (fun _ _ k' => 4 - (intOf k').toNat)
  case atStart => exact ⟨rfl, 1, b - 240, by omega, by omega, by congr 1; omega, rfl, rfl, fun j h1 h2 => absurd h2 (by omega), .inl ⟨rfl, by omega⟩⟩
  case round =>
    obtain ⟨rfl, k, V, hk1, hk, rfl, rfl, HV, HC, hV⟩ := hrel
    have hVs : V < 16777216 := by have := hV.out; omega
    by_cases hkn : k < 4
    · have hixk := hixs.out k hkn
      obtain ⟨d, hd⟩ : ∃ d, d = bt s (i + k) := ⟨_, rfl⟩
      have hd2 : d < 256 := by rw [hd]; exact bt_lt _ _
      have HD : Hid (d = bt s (i + k)) := hd
      rw [← hd] at hixk
      clear hd
      by_cases hcont : 128 ≤ d ∧ d ≤ 191
      · obtain ⟨hc1, hc2⟩ := hcont
        go_wp2
        have hVd : (((V * 64 + d - 128 : Nat)) : Int) = (V : Int) * 64 + (d : Int) - 128 := by omega
        refine ⟨⟨.int .i64 0, .int .i64 ((V : Int) * 64 + (d : Int) - 128), .int .i64 ((k : Int) + 1), ⟨rfl, k + 1, by omega, by omega, V * 64 + d - 128, by rw [hVd], by go_num, ?_, ?_, by have := hV.out; show _ ∨ _; omega⟩, rfl, rfl, rfl⟩, by simp [intOf]; omega⟩
        · obtain ⟨m, rfl⟩ : ∃ m, k = m + 1 := ⟨k - 1, by omega⟩
          show V * 64 + d - 128 = val s i (b - 240) (m + 1) * 64 + bt s (i + (m + 1)) - 128
          rw [← HV.out, ← HD.out]
        · intro j hj1 hj2
          by_cases hjk : j = k
          · subst hjk; rw [← HD.out]; exact ⟨hc1, hc2⟩
          · exact HC.out j hj1 (by omega)
      · have hr0 : r = 0 := hbad.out k hk1 hkn (by rw [← HD.out]; omega)
        subst hr0
        by_cases hlo : d < 128
        · go_wp2
          go_ret
          exact ⟨rfl, rfl⟩
        · have hhi : 191 < d := by omega
          go_wp2
          go_ret
          exact ⟨rfl, rfl⟩
    · obtain rfl : k = 4 := by omega
      have HRR : Hid (r = fin 4 65536 V) := hdone.out V HV HC
      go_wp2
      all_goals
        go_ret
        refine ⟨?_, rfl⟩
        first
        | (refine ret_int (a := 4) (b := r) ?_; rw [HRR.out]; unfold fin; rw [if_neg (by simp at *; omega)])
        | (refine ret_int (a := 0) (b := r) ?_; rw [HRR.out]; unfold fin; rw [if_pos (by simp at *; omega)])

set_option maxHeartbeats 4000000 in
set_option maxRecDepth 100000 in
theorem width_short (s : ByteArray) (i b n least v0 z : Nat) (w : World) (hi : i < z) (hb : b = bt s i) (hL : Lead b n least v0) (hz : z = s.size) (hs : z ≤ 140737488355328) (hfit : z < i + n) :
    Calls Try.prog 47 #[.string s, .int .i64 (i : Int)] w fun e w' => e = .returned (.int .i64 0) ∧ w = w' := by
  have hix := index_at s i i rfl (by omega)
  rw [← hb] at hix
  have hlen : ∀ w, (Builtin.len_ #[9] 3 #[.string s]).run Try.prog w = .ok (.int .i64 (z : Int)) w := fun w => by
    rw [run_len_string w 9 3 s Try.underlying9, hz]; rfl
  clear hb hz
  rcases hL with ⟨h1, h2, rfl, rfl, rfl⟩ | ⟨h1, h2, rfl, rfl, rfl⟩ | ⟨h1, h2, rfl, rfl, rfl⟩
  all_goals
    go_enter Try.func47, Try.ntmps47
    go_wp2
    go_ret
    exact ⟨rfl, rfl⟩

/-- 'width', at every place of every text. -/
theorem width_any (s : ByteArray) (i : Nat) (w : World) (hi : i < s.size) (hs : s.size ≤ 140737488355328) :
    Calls Try.prog 47 #[.string s, .int .i64 (i : Int)] w fun e w' => e = .returned (.int .i64 (wid s i : Int)) ∧ w = w' := by
  have hb := bt_lt s i
  by_cases h1 : bt s i < 128
  · rw [wid_ascii s i h1]
    exact width_plain s i _ w hi rfl h1
  · by_cases h2 : bt s i < 192 ∨ 248 ≤ bt s i
    · rw [wid_no_lead s i (by omega) h2]
      exact width_none s i _ w hi rfl (by omega)
    · by_cases h3 : bt s i < 224
      · by_cases hf : i + 2 ≤ s.size
        · exact width_lead2 s i _ _ _ w rfl (by omega) h3 rfl hs hf rfl
        · have hL : Lead (bt s i) 2 128 (bt s i - 192) := by unfold Lead; omega
          rw [wid_broken s i _ _ _ hL 1 (by omega) (by omega) (.inl (by omega))]
          exact width_short s i _ _ _ _ _ w hi rfl hL rfl hs (by omega)
      · by_cases h4 : bt s i < 240
        · by_cases hf : i + 3 ≤ s.size
          · exact width_lead3 s i _ _ _ w rfl (by omega) h4 rfl hs hf rfl
          · have hL : Lead (bt s i) 3 2048 (bt s i - 224) := by unfold Lead; omega
            rw [wid_broken s i _ _ _ hL 2 (by omega) (by omega) (.inl (by omega))]
            exact width_short s i _ _ _ _ _ w hi rfl hL rfl hs (by omega)
        · by_cases hf : i + 4 ≤ s.size
          · exact width_lead4 s i _ _ _ w rfl (by omega) (by omega) rfl hs hf rfl
          · have hL : Lead (bt s i) 4 65536 (bt s i - 240) := by unfold Lead; omega
            rw [wid_broken s i _ _ _ hL 3 (by omega) (by omega) (.inl (by omega))]
            exact width_short s i _ _ _ _ _ w hi rfl hL rfl hs (by omega)
end Go.Proofs.Ytanlanolblbckaa.Route
