/-
  ChunkEqual, walked: whatever text and numbers, the call returns true, and makes memory of its own alone.
-/
import Derived.Test.YtgnkkenkambokaaChLaw
namespace Go.Proofs.Ytgnkkenkambokaa.Chunk
open Go.RowKit Route

set_option maxHeartbeats 2000000 in
set_option maxRecDepth 100000 in
theorem equal_far (s : ByteArray) (n mk : Int) (w : World) (hs : 3000 < s.size) :
    Calls Try.prog 6 #[.string s, .int .i64 n, .int .i64 mk] w fun e w' => e = .returned (.bool true) ∧ Below w.heap.size w w' := by
  obtain ⟨z, hz⟩ : ∃ z, z = s.size := ⟨_, rfl⟩
  have hlen := len_text s z hz
  rw [← hz] at hs
  clear hz
  go_enter Try.func6, Try.ntmps6
  go_wp2_with (go_at_call 8; refine (up_any _).mono ?_; rintro e w1 ⟨rfl, hb1⟩)
  go_ret
  exact ⟨rfl, hb1⟩

set_option maxHeartbeats 2000000 in
set_option maxRecDepth 100000 in
theorem equal_no (s : ByteArray) (n mk : Int) (w : World) (hs : s.size ≤ 3000) (hm : mayB n n mk = false) :
    Calls Try.prog 6 #[.string s, .int .i64 n, .int .i64 mk] w fun e w' => e = .returned (.bool true) ∧ Below w.heap.size w w' := by
  obtain ⟨z, hz⟩ : ∃ z, z = s.size := ⟨_, rfl⟩
  have hlen := len_text s z hz
  rw [← hz] at hs
  have hsp : Hid (∀ W, Calls Try.prog 9 #[.string s, cutV n n mk] W fun e w' => e = .returned (.tuple #[.slice none 0 0, .iface 32 (.int .i64 1)]) ∧ Below W.heap.size W w') := fun W => split_arg s n n mk W hm
  have hne := neArg
  clear hz hm
  unfold cutV at hsp
  go_enter Try.func6, Try.ntmps6
  go_wp2_with (first
    | (go_at_call 8; refine (up_any _).mono ?_; rintro e w1 ⟨rfl, hb1⟩)
    | (go_at_call 9; refine (hsp.out _).mono ?_; rintro e w2 ⟨rfl, hb2⟩))
  go_ret
  exact ⟨rfl, hb1.trans (hb2.mono hb1.size)⟩

set_option maxHeartbeats 2000000 in
set_option maxRecDepth 100000 in
theorem equal_large (s : ByteArray) (n mk : Int) (w : World) (hs : s.size ≤ 3000) (hs2 : 1024 < s.size) (hm : mayB n n mk = true) :
    Calls Try.prog 6 #[.string s, .int .i64 n, .int .i64 mk] w fun e w' => e = .returned (.bool true) ∧ Below w.heap.size w w' := by
  obtain ⟨z, hz⟩ : ∃ z, z = s.size := ⟨_, rfl⟩
  have hlen := len_text s z hz
  rw [← hz] at hs
  have hsp : Hid (∀ W, Calls Try.prog 9 #[.string s, cutV n n mk] W fun e w' => e = .returned (.tuple #[.slice none 0 0, .iface 32 (.int .i64 7)]) ∧ Below W.heap.size W w') := fun W => split_large s n n mk W hm hs2
  have hne := neLarge
  clear hz hm hs2
  unfold cutV at hsp
  go_enter Try.func6, Try.ntmps6
  go_wp2_with (first
    | (go_at_call 8; refine (up_any _).mono ?_; rintro e w1 ⟨rfl, hb1⟩)
    | (go_at_call 9; refine (hsp.out _).mono ?_; rintro e w2 ⟨rfl, hb2⟩))
  go_ret
  exact ⟨rfl, hb1.trans (hb2.mono hb1.size)⟩

set_option maxHeartbeats 4000000 in
set_option maxRecDepth 100000 in
theorem equal_ok (s : ByteArray) (M K : Nat) (w : World) (hs : s.size ≤ 1024) (hM1 : 1 ≤ M) (hM : M ≤ 64) (hK : K < 256) :
    Calls Try.prog 6 #[.string s, .int .i64 (M : Int), .int .i64 (K : Int)] w fun e w' => e = .returned (.bool true) ∧ Below w.heap.size w w' := by
  obtain ⟨z, hz⟩ : ∃ z, z = s.size := ⟨_, rfl⟩
  have hlen := len_text s z hz
  have hcount := chunks_count M M K s
  have hsizes := chunks_sizes M M K s (Nat.le_refl _) hM1
  have hequal := chunks_equal M K s hM1
  have hspl := fun W => split_ok s M M K W hs hM1 (Nat.le_refl _) hM hK
  generalize chunks M M K s = C at hcount hsizes hequal hspl
  have hsp : Hid (∀ W, Calls Try.prog 9 #[.string s, cutV (M : Int) (M : Int) (K : Int)] W fun e w' => ∃ v, e = .returned (.tuple #[v, .nilIface]) ∧ Strs W.heap.size v C W w') := hspl
  have HS : Hid (∀ i, i < C.length → 1 ≤ (C.getD i ByteArray.empty).size ∧ (C.getD i ByteArray.empty).size ≤ M ∧ (i + 1 < C.length → M ≤ (C.getD i ByteArray.empty).size)) := hsizes
  obtain ⟨L, hL⟩ : ∃ L, L = C.length := ⟨_, rfl⟩
  have HL : Hid (L = C.length) := hL
  rw [← hL] at hcount hequal
  have heq : ((L : Int) == ((z : Int) + (M : Int) - 1) / (M : Int)) = true := by
    rw [hequal, ← hz]
    have e : ((z : Int) + (M : Int) - 1) = ((z + M - 1 : Nat) : Int) := by omega
    rw [e, ← Int.natCast_ediv]
    simp
  rw [← hz] at hs hcount
  have hne := neNil
  clear hz hL hequal hspl hsizes
  unfold cutV at hsp
  go_enter Try.func6, Try.ntmps6
  go_wp2_with (first
    | (go_at_call 8; refine (up_any _).mono ?_; rintro e w1 ⟨rfl, hb1⟩)
    | (go_at_call 9; refine (hsp.out _).mono ?_; rintro e w2 ⟨v, rfl, hst⟩; obtain ⟨a, cap, rfl, hcap, _, hli⟩ := hst.liesN HL.out))
  have HB : Hid (Below w.heap.size w w2) := hb1.trans (hst.2.1.mono hb1.size)
  have hcells : Hid (∀ j, j < L → ∃ b off, a = some ⟨b, off, none⟩ ∧ w2.cell? ⟨b, off + j, none⟩ = some (.string (C.getD j ByteArray.empty))) := by
    intro j hj
    obtain ⟨b, off, h1, h2⟩ := lies_at hli (by rw [← HL.out]; omega)
    exact ⟨b, off, h1, h2 j (by rw [← HL.out]; exact hj)⟩
  clear hb1 hst hli
  go_loop [6, 10] (fun t6 t10 => t6 = .bool false ∧ ∃ i : Nat, t10 = .int .i64 (i : Int) ∧ i ≤ L) (fun _ t10 => L - (intOf t10).toNat)
  case atStart => exact ⟨rfl, 0, rfl, by omega⟩
  case round =>
    obtain ⟨rfl, i, rfl, hi⟩ := hrel
    by_cases hiL : i < L
    · obtain ⟨b, off, rfl, hc⟩ := hcells.out i hiL
      obtain ⟨h1, h2, h3⟩ := HS.out i (by rw [← HL.out]; exact hiL)
      obtain ⟨y, hy⟩ : ∃ y, y = (C.getD i ByteArray.empty).size := ⟨_, rfl⟩
      have hly := len_text (C.getD i ByteArray.empty) y hy
      rw [← hy] at h1 h2 h3
      rw [← HL.out] at h3
      generalize C.getD i ByteArray.empty = x at hc hly
      clear hy
      by_cases hyM : y = M
      · have hq : ((y : Int) != (M : Int)) = false := by simp [hyM]
        clear hyM
        go_wp2
        go_round
        case rel => exact ⟨rfl, i + 1, by go_num, by omega⟩
        case measure => simp [intOf]; omega
      · have hq : ((y : Int) != (M : Int)) = true := by simp; omega
        have hlast : L ≤ i + 1 := by
          rcases Nat.lt_or_ge (i + 1) L with h | h
          · have := h3 h; omega
          · exact h
        clear hyM h3
        go_wp2
        go_round
        case rel => exact ⟨rfl, i + 1, by go_num, by omega⟩
        case measure => simp [intOf]; omega
    · go_wp2
      go_ret
      exact ⟨by first | rfl | (rw [heq]; rfl), HB.out⟩

theorem chunkEqual_walk (s : ByteArray) (n mk : Int) (w : World) (_ : s.size ≤ maxLen) (_ : (Lit.int .i64 n).wf = true) (_ : (Lit.int .i64 mk).wf = true) :
    Calls Try.prog 6 #[.string s, .int .i64 n, .int .i64 mk] w fun e w' => e = .returned (.bool true) ∧ Below w.heap.size w w' := by
  by_cases hs : s.size ≤ 3000
  · cases hm : mayB n n mk with
    | false => exact equal_no s n mk w hs hm
    | true =>
      by_cases hs2 : s.size ≤ 1024
      · obtain ⟨m, M, K, rfl, hM, rfl, h1, h2, h3, h4⟩ := mayB_nat hm
        exact equal_ok s m K w hs2 h1 (by omega) (by omega)
      · exact equal_large s n mk w hs (by omega) hm
  · exact equal_far s n mk w (by omega)
end Go.Proofs.Ytgnkkenkambokaa.Chunk
