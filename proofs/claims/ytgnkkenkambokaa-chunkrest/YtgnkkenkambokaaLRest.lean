/-
  ChunkRest, walked: whatever text and cut, the call returns true, and makes memory of its own alone.
-/
import Derived.Test.YtgnkkenkambokaaChLaw
import Derived.Deep.RegionHeld
namespace Go.Proofs.Ytgnkkenkambokaa.Chunk
open Go.RowKit Route

set_option maxHeartbeats 2000000 in
set_option maxRecDepth 100000 in
theorem rest_far (s : ByteArray) (mn mx mk : Int) (w : World) (hs : 1024 < s.size) :
    Calls Try.prog 7 #[.string s, cutV mn mx mk] w fun e w' => e = .returned (.bool true) ∧ Below w.heap.size w w' := by
  obtain ⟨z, hz⟩ : ∃ z, z = s.size := ⟨_, rfl⟩
  have hlen := len_text s z hz
  rw [← hz] at hs
  clear hz
  unfold cutV
  go_enter Try.func7, Try.ntmps7
  go_wp2_with (go_at_call 8; refine (up_any _).mono ?_; rintro e w1 ⟨rfl, hb1⟩)
  go_ret
  exact ⟨rfl, (box_in hb1).2.2.2.1⟩

set_option maxHeartbeats 2000000 in
set_option maxRecDepth 100000 in
theorem rest_no (s : ByteArray) (mn mx mk : Int) (w : World) (hs : s.size ≤ 1024) (hm : mayB mn mx mk = false) :
    Calls Try.prog 7 #[.string s, cutV mn mx mk] w fun e w' => e = .returned (.bool true) ∧ Below w.heap.size w w' := by
  obtain ⟨z, hz⟩ : ∃ z, z = s.size := ⟨_, rfl⟩
  have hlen := len_text s z hz
  rw [← hz] at hs
  have hsp : Hid (∀ W, Calls Try.prog 9 #[.string s, cutV mn mx mk] W fun e w' => e = .returned (.tuple #[.slice none 0 0, .iface 32 (.int .i64 1)]) ∧ Below W.heap.size W w') := fun W => split_arg s mn mx mk W hm
  have hne := neArg
  clear hz hm
  unfold cutV at hsp ⊢
  go_enter Try.func7, Try.ntmps7
  go_wp2_with (first
    | (go_at_call 8; refine (up_any _).mono ?_; rintro e w1 ⟨rfl, hb1⟩; obtain ⟨hc0, hc1, hc2, hbw, hlt⟩ := box_in hb1)
    | (go_at_call 9; refine (hsp.out _).mono ?_; rintro e w2 ⟨rfl, hb2⟩))
  go_ret
  exact ⟨rfl, hbw.trans (hb2.mono hbw.size)⟩

set_option maxHeartbeats 2000000 in
set_option maxRecDepth 100000 in
theorem rest_none (s : ByteArray) (m M K : Nat) (w : World) (hs : s.size = 0) (hm : 1 ≤ m) (hmM : m ≤ M) (hM : M ≤ 64) (hK : K < 256) :
    Calls Try.prog 7 #[.string s, cutV (m : Int) (M : Int) (K : Int)] w fun e w' => e = .returned (.bool true) ∧ Below w.heap.size w w' := by
  have hlen := len_text s 0 hs.symm
  have hC : chunks m M K s = [] := List.eq_nil_of_length_eq_zero (by have := chunks_count m M K s; omega)
  have hsp : Hid (∀ W, Calls Try.prog 9 #[.string s, cutV (m : Int) (M : Int) (K : Int)] W fun e w' => ∃ v, e = .returned (.tuple #[v, .nilIface]) ∧ Strs W.heap.size v [] W w') := fun W => hC ▸ split_ok s m M K W (by omega) hm hmM hM hK
  have hne := neNil
  clear hs hC
  unfold cutV at hsp ⊢
  go_enter Try.func7, Try.ntmps7
  go_wp2_with (first
    | (go_at_call 8; refine (up_any _).mono ?_; rintro e w1 ⟨rfl, hb1⟩; obtain ⟨hc0, hc1, hc2, hbw, hlt⟩ := box_in hb1)
    | (go_at_call 9; refine (hsp.out _).mono ?_; rintro e w2 ⟨v, rfl, hst⟩; obtain ⟨a2, cap2, rfl, _, _, _⟩ := hst.liesN (n := 0) rfl))
  go_ret
  exact ⟨rfl, hbw.trans (hst.2.1.mono hbw.size)⟩

set_option maxHeartbeats 4000000 in
set_option maxRecDepth 100000 in
theorem rest_some (s : ByteArray) (m M K : Nat) (w : World) (hs0 : 0 < s.size) (hs : s.size ≤ 1024) (hm : 1 ≤ m) (hmM : m ≤ M) (hM : M ≤ 64) (hK : K < 256) :
    Calls Try.prog 7 #[.string s, cutV (m : Int) (M : Int) (K : Int)] w fun e w' => e = .returned (.bool true) ∧ Below w.heap.size w w' := by
  obtain ⟨z, hz⟩ : ∃ z, z = s.size := ⟨_, rfl⟩
  have hlen := len_text s z hz
  have HC := chunks_rest m M K s hs0
  have hcount := chunks_count m M K s
  obtain ⟨C, hC⟩ : ∃ C, C = chunks m M K s := ⟨_, rfl⟩
  have hsp : Hid (∀ W, Calls Try.prog 9 #[.string s, cutV (m : Int) (M : Int) (K : Int)] W fun e w' => ∃ v, e = .returned (.tuple #[v, .nilIface]) ∧ Strs W.heap.size v C W w') := fun W => hC ▸ split_ok s m M K W hs hm hmM hM hK
  rw [← hC] at HC hcount
  have hp2 : size1 m M K (toL s) ≤ s.size := by rw [← length_toL]; exact first_le m M K 0 0 (toL s)
  have hsl : ∀ W, (Instr.slice 9 (.string s) (some (.int .i64 (size1 m M K (toL s) : Int))) none none).run Try.prog W = .ok (.string (ofL ((toL s).drop (size1 m M K (toL s))))) W := fun W => by
    have := slice_from (toL s) (size1 m M K (toL s)) (by rw [length_toL]; exact hp2) W
    rw [ofL_toL] at this; exact this
  have hxs : (ofL ((toL s).take (size1 m M K (toL s)))).size = size1 m M K (toL s) := by
    rw [size_ofL, List.length_take, length_toL]; omega
  have hrs : (ofL ((toL s).drop (size1 m M K (toL s)))).size ≤ 1024 := by
    rw [size_ofL, List.length_drop, length_toL]; omega
  generalize size1 m M K (toL s) = p at HC hp2 hsl hxs hrs
  generalize ofL ((toL s).take p) = x at HC hxs
  generalize ofL ((toL s).drop p) = y at HC hsl hrs
  have hsp2 : Hid (∀ W, Calls Try.prog 9 #[.string y, cutV (m : Int) (M : Int) (K : Int)] W fun e w' => ∃ v, e = .returned (.tuple #[v, .nilIface]) ∧ Strs W.heap.size v (chunks m M K y) W w') := fun W => split_ok y m M K W hrs hm hmM hM hK
  have hlx := len_text x p hxs.symm
  generalize chunks m M K y = D at HC hsp2
  obtain ⟨n, hn⟩ : ∃ n, n = D.length := ⟨_, rfl⟩
  have hn1 : n + 1 ≤ 1024 := by rw [HC, List.length_cons] at hcount; omega
  have HN : Hid (n + 1 = C.length) := by show _ = _; rw [HC, List.length_cons, hn]
  have HD : Hid (n = D.length) := hn
  have HX : Hid (C = x :: D) := HC
  rw [← hz] at hs
  have hne := neNil
  have heq := eqNil
  have hsm : Hid (∀ (a a' : Option Addr) (cap cap' : Nat) (W : World), Lies W a D → Lies W a' D → Calls Try.prog 14 #[.slice a n cap, .slice a' n cap'] W fun e w' => e = .returned (.bool true) ∧ Below W.heap.size W w') := by
    intro a a' cap cap' W h1 h2
    have := same_any a D n cap a' D n cap' W hn h1 hn h2 (by omega) (by omega)
    rw [decide_eq_true rfl] at this
    exact this
  clear hz hC HC hcount hn hxs hrs hs0 hp2
  unfold cutV at hsp hsp2 ⊢
  go_enter Try.func7, Try.ntmps7
  go_wp2_with (first
    | (go_at_call 8; refine (up_any _).mono ?_; rintro e w1 ⟨rfl, hb1⟩; obtain ⟨hc0, hc1, hc2, hbw, hlt⟩ := box_in hb1)
    | (go_at_call 9; refine (hsp.out _).mono ?_; rintro e w2 ⟨v, rfl, hst⟩; obtain ⟨g, cap, rfl, hc1', hc2', _, hg, hc⟩ := hst.formN HN.out (by omega)))
  have d0 := cell_later hst.2.1 hc0
  have d1 := cell_later hst.2.1 hc1
  have d2 := cell_later hst.2.1 hc2
  have dx := hc 0 (by rw [← HN.out]; omega)
  have ex : C.getD 0 ByteArray.empty = x := by rw [HX.out]; rfl
  rw [ex] at dx
  have HBW : Hid (Below w.heap.size w w2) := hbw.trans (hst.2.1.mono hbw.size)
  have HL1 : Lies w2 (some ⟨g, 1, none⟩) D := .inr ⟨_, rfl, fun j hj => by
    have h1 := hc (j + 1) (by rw [← HN.out, HD.out]; omega)
    rw [HX.out] at h1
    rw [Go.WideShapes.add_plain, Nat.add_comm 1 j]
    simpa using h1⟩
  obtain ⟨a', cap', hsl', HL⟩ : ∃ (a' : Option Addr) (cap' : Nat), (∀ W, (Instr.slice 24 (.slice (some ⟨g, 0, none⟩) (n + 1) cap) (some (.int .i64 1)) none none).run Try.prog W = .ok (.slice a' n cap') W) ∧ Hid (Lies w2 a' D) := by
    refine ⟨if cap = 1 then some ⟨g, 0, none⟩ else some ⟨g, 1, none⟩, cap - 1, fun W => ?_, ?_⟩
    · have el : Try.prog.elem 24 = 9 := by kernel_rfl
      have := run_slice_l (P := Try.prog) W 24 (some ⟨g, 0, none⟩) (n + 1) cap (by kernel_rfl) .i64 1 (by decide) (by omega)
      rw [this, el, Try.sizeOf9]
      by_cases h1 : cap = 1
      · simp [sliced, h1, Result.andThen]
      · simp [sliced, h1, Result.andThen, Addr.add]
    · by_cases h1 : cap = 1
      · rw [if_pos h1]; exact .inl (List.eq_nil_of_length_eq_zero (by rw [← HD.out]; omega))
      · rw [if_neg h1]; exact HL1
  clear HL1
  clear hc0 hc1 hc2 ex hb1 hbw hst hc hc1'
  have hreg : Hid (∀ W, (Below w2.heap.size w2 W ∧ W.cell? ⟨w.heap.size, 0, none⟩ = some (.int .i64 (m : Int)) ∧ W.cell? ⟨w.heap.size, 1, none⟩ = some (.int .i64 (M : Int)) ∧ W.cell? ⟨w.heap.size, 2, none⟩ = some (.int .i64 (K : Int)) ∧ W.cell? ⟨g, 0, none⟩ = some (.string x)) → Calls Try.prog 9 #[.string y, .agg #[.int .i64 (m : Int), .int .i64 (M : Int), .int .i64 (K : Int)]] W fun e w' => ∃ a cap, e = .returned (.tuple #[.slice a n cap, .nilIface]) ∧ Lies w' a D ∧ (Below w2.heap.size w2 w' ∧ w'.cell? ⟨w.heap.size, 0, none⟩ = some (.int .i64 (m : Int)) ∧ w'.cell? ⟨w.heap.size, 1, none⟩ = some (.int .i64 (M : Int)) ∧ w'.cell? ⟨w.heap.size, 2, none⟩ = some (.int .i64 (K : Int)) ∧ w'.cell? ⟨g, 0, none⟩ = some (.string x))) := by
    rintro W ⟨h1, h2, h3, h4, h5⟩
    refine (hsp2.out W).mono ?_
    rintro e w3 ⟨v3, rfl, hs3⟩
    obtain ⟨a3, cap3, rfl, _, _, hl3⟩ := hs3.liesN HD.out
    exact ⟨a3, cap3, rfl, hl3, h1.trans (hs3.2.1.mono h1.size), cell_later hs3.2.1 h2, cell_later hs3.2.1 h3, cell_later hs3.2.1 h4, cell_later hs3.2.1 h5⟩
  go_region_held (fun W => (Below w2.heap.size w2 W ∧ W.cell? ⟨w.heap.size, 0, none⟩ = some (.int .i64 (m : Int)) ∧ W.cell? ⟨w.heap.size, 1, none⟩ = some (.int .i64 (M : Int)) ∧ W.cell? ⟨w.heap.size, 2, none⟩ = some (.int .i64 (K : Int)) ∧ W.cell? ⟨g, 0, none⟩ = some (.string x))) (first | assumption | exact ⟨(Below.refl _ _).drew, d0, d1, d2, dx⟩)
    (first | (go_at_call 9; refine (hreg.out _ (by assumption)).mono ?_; rintro e w3 ⟨a3, cap3, rfl, hl3, hb3⟩))
  all_goals
    have HB : Hid (Below w.heap.size w w3) := HBW.out.trans (hb3.1.mono HBW.out.size)
    have hl2 : Lies w3 a' D := HL.out.below hb3.1 (Nat.le_refl _)
    clear hb3
    go_wp2_with (go_at_call 14; refine (hsm.out _ _ _ _ _ hl3 hl2).mono ?_; rintro e w4 ⟨rfl, hb4⟩)
    go_ret
    exact ⟨rfl, HB.out.trans (hb4.mono HB.out.size)⟩

theorem chunkRest_walk (s : ByteArray) (mn mx mk : Int) (w : World) (_ : s.size ≤ maxLen) :
    Calls Try.prog 7 #[.string s, cutV mn mx mk] w fun e w' => e = .returned (.bool true) ∧ Below w.heap.size w w' := by
  by_cases hs : s.size ≤ 1024
  · cases hm : mayB mn mx mk with
    | false => exact rest_no s mn mx mk w hs hm
    | true =>
      obtain ⟨m, M, K, rfl, rfl, rfl, h1, h2, h3, h4⟩ := mayB_nat hm
      by_cases h0 : s.size = 0
      · exact rest_none s m M K w h0 h1 h2 h3 (by omega)
      · exact rest_some s m M K w (by omega) hs h1 h2 h3 (by omega)
  · exact rest_far s mn mx mk w (by omega)
end Go.Proofs.Ytgnkkenkambokaa.Chunk
