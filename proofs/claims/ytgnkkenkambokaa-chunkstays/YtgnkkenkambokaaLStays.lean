/-
  ChunkStays, walked: whatever text and cut, the call returns true, and makes memory of its own alone.
-/
import Derived.Test.YtgnkkenkambokaaChLaw
import Derived.Deep.RegionHeld
namespace Go.Proofs.Ytgnkkenkambokaa.Chunk
open Go.RowKit Route

theorem fresh_row (w : World) : Strs w.heap.size (.slice (some ⟨w.heap.size, 0, none⟩) 0 0) [] w (w.alloc (.cells #[] 9)) :=
  ⟨World.ownsRow_lit w #[] 0 (Nat.le_refl _) (Nat.zero_le _) rfl, (Below.refl _ _).alloc (Nat.le_refl _) _, Nat.le_of_lt (by simp)⟩

set_option maxHeartbeats 2000000 in
set_option maxRecDepth 100000 in
theorem stays_far (s : ByteArray) (mn mx mk : Int) (w : World) (hs : 3000 < s.size) :
    Calls Try.prog 5 #[.string s, cutV mn mx mk] w fun e w' => e = .returned (.bool true) ∧ Below w.heap.size w w' := by
  obtain ⟨z, hz⟩ : ∃ z, z = s.size := ⟨_, rfl⟩
  have hlen := len_text s z hz
  rw [← hz] at hs
  clear hz
  unfold cutV
  go_enter Try.func5, Try.ntmps5
  go_wp2_with (go_at_call 8; refine (up_any _).mono ?_; rintro e w1 ⟨rfl, hb1⟩)
  go_ret
  exact ⟨rfl, (box_in hb1).2.2.2.1⟩

set_option maxHeartbeats 4000000 in
set_option maxRecDepth 100000 in
theorem stays_zero (s : ByteArray) (mn mx mk : Int) (w : World) (E : Value) (q : Bool) (hs : s.size ≤ 3000) (hE : ∀ W, (binOp .eql 27 E .nilIface).run Try.prog W = .ok (.bool q) W) (hG : ∀ t W, (eqGuard .eql 27 (.tmp t) (.const .nilIface) E .nilIface).run Try.prog W = .ok () W)
    (hsp0 : ∀ W, Calls Try.prog 9 #[.string s, cutV mn mx mk] W fun e w' => ∃ a cap, e = .returned (.tuple #[.slice a 0 cap, E]) ∧ (a = none → cap = 0) ∧ Below W.heap.size W w') :
    Calls Try.prog 5 #[.string s, cutV mn mx mk] w fun e w' => e = .returned (.bool true) ∧ Below w.heap.size w w' := by
  obtain ⟨z, hz⟩ : ∃ z, z = s.size := ⟨_, rfl⟩
  have hlen := len_text s z hz
  rw [← hz] at hs
  have hsp : Hid (∀ W, Calls Try.prog 9 #[.string s, cutV mn mx mk] W fun e w' => ∃ a cap, e = .returned (.tuple #[.slice a 0 cap, E]) ∧ (a = none → cap = 0) ∧ Below W.heap.size W w') := hsp0
  have hjn : Hid (∀ (a : Option Addr) (cap : Nat) (W : World), Calls Try.prog 12 #[.slice a 0 cap] W fun e w' => (∃ v, e = .returned v) ∧ Below W.heap.size W w') := fun a cap W =>
    (join_any a [] 0 cap W rfl (.inl rfl) (by omega) (by show 0 ≤ _; omega)).mono fun e w' h => ⟨⟨_, h.1⟩, h.2⟩
  have hsm : Hid (∀ (a a' : Option Addr) (cap cap' : Nat) (W : World), Calls Try.prog 14 #[.slice a 0 cap, .slice a' 0 cap'] W fun e w' => e = .returned (.bool true) ∧ Below W.heap.size W w') := by
    intro a a' cap cap' W
    have := same_any a [] 0 cap a' [] 0 cap' W rfl (.inl rfl) rfl (.inl rfl) (by omega) (by omega)
    rw [decide_eq_true rfl] at this
    exact this
  clear hz hsp0
  unfold cutV at hsp ⊢
  go_enter Try.func5, Try.ntmps5
  go_wp2_with (go_at_call 8; refine (up_any _).mono ?_; rintro e w1 ⟨rfl, hb1⟩; obtain ⟨hc0, hc1, hc2, hbw, hlt⟩ := box_in hb1)
  refine (hsp.out _).mono ?_
  rintro e w2 ⟨a, cap, rfl, hnil, hb2⟩
  have d0 := cell_later hb2 hc0
  have d1 := cell_later hb2 hc1
  have d2 := cell_later hb2 hc2
  have HB2 : Hid (Below w.heap.size w w2) := hbw.trans (hb2.mono hbw.size)
  have HNIL : Hid (a = none → cap = 0) := hnil
  clear hc0 hc1 hc2 hb1 hb2 hbw hnil hlt
  go_wp2_with (at_builtin; refine wpList_strs rfl (.tmp 23) (.tmp 24) rfl w2.heap.size _ [] rfl w2 (fresh_row w2) [] a 0 cap rfl rfl (.inl rfl) HNIL.out (Nat.zero_le _) (by show 0 + 0 ≤ _; omega) ?_; intro v' w3 hb3; obtain ⟨a3, c3, rfl, hc3, hcm3, hl3⟩ := hb3.liesN (n := 0) rfl)
  refine (hjn.out _ _ _).mono ?_
  rintro e w4 ⟨⟨vj, rfl⟩, hb4⟩
  go_wp2_with (go_at_call 14; refine (hsm.out _ _ _ _ _).mono ?_; rintro e w5 ⟨rfl, hb5⟩)
  have hb35 : Below w2.heap.size w2 w5 := hb3.2.1.trans ((hb4.trans (hb5.mono hb4.size)).mono hb3.2.2)
  have e0 := cell_later hb35 d0
  have e1 := cell_later hb35 d1
  have e2 := cell_later hb35 d2
  have HB5 : Hid (Below w.heap.size w w5) := HB2.out.trans (hb35.mono HB2.out.size)
  clear hb3 hb4 hb5 d0 d1 d2 hl3
  go_loop [9] (fun t9 => t9 = .int .i64 0) (fun _ => 0)
  case atStart => rfl
  case round =>
    subst hrel
    go_wp2_with (go_at_call 9; refine (hsp.out _).mono ?_; rintro e w6 ⟨a6, cap6, rfl, hnil6, hb6⟩)
    have HB6 : Hid (Below w.heap.size w w6) := HB5.out.trans (hb6.mono HB5.out.size)
    have hreg : Hid (∀ W, Below w6.heap.size w6 W → Calls Try.prog 14 #[.slice a6 0 cap6, .slice a3 0 c3] W fun e w' => e = .returned (.bool true) ∧ Below w6.heap.size w6 w') := by
      intro W h
      refine (hsm.out a6 a3 cap6 c3 W).mono ?_
      rintro e w' ⟨rfl, hb⟩
      exact ⟨rfl, h.trans (hb.mono h.size)⟩
    clear hnil6 hb6
    go_region_held (fun W => Below w6.heap.size w6 W) (first | assumption | exact (Below.refl _ _).drew)
      (first | (go_at_call 14; refine (hreg.out _ (by assumption)).mono ?_; rintro e w7 ⟨rfl, hb7⟩))
    all_goals
      go_wp2
      go_ret
      exact ⟨rfl, HB6.out.trans (hb7.mono HB6.out.size)⟩

theorem sv_put (l : List ByteArray) (j : Nat) (x : ByteArray) : (sv l).set j (.string x) = sv (l.set j x) := by
  simp [sv, List.map_set]

theorem lies_far {w : World} {g i : Nat} {a : Option Addr} {g3 : Nat} {l : List ByteArray} (x : Value) (h : Lies w a l) (ha : a = some ⟨g3, 0, none⟩) (hg : g ≠ g3) : Lies (w.setCell ⟨g, i, none⟩ x) a l := by
  rcases h with h | ⟨y, rfl, h⟩
  · exact .inl h
  · refine .inr ⟨y, rfl, fun j hj => ?_⟩
    rw [World.cell?_setCell_far]
    · exact h j hj
    · simp only [Option.some.injEq] at ha
      subst ha
      rw [Go.WideShapes.add_plain]
      exact hg

set_option maxHeartbeats 4000000 in
set_option maxRecDepth 100000 in
theorem stays_some (s : ByteArray) (m M K : Nat) (w : World) (hs0 : 0 < s.size) (hs : s.size ≤ 1024) (hm : 1 ≤ m) (hmM : m ≤ M) (hM : M ≤ 64) (hK : K < 256) :
    Calls Try.prog 5 #[.string s, cutV (m : Int) (M : Int) (K : Int)] w fun e w' => e = .returned (.bool true) ∧ Below w.heap.size w w' := by
  obtain ⟨z, hz⟩ : ∃ z, z = s.size := ⟨_, rfl⟩
  have hlen := len_text s z hz
  have hcount := chunks_count m M K s
  have hpos : 0 < (chunks m M K s).length := by rw [chunks_rest m M K s hs0]; simp
  have hcat : (cat (chunks m M K s)).size ≤ 140737488355328 := by rw [chunks_cat]; omega
  have hspl := fun W => split_ok s m M K W hs hm hmM hM hK
  generalize chunks m M K s = C at hcount hpos hcat hspl
  have hsp : Hid (∀ W, Calls Try.prog 9 #[.string s, cutV (m : Int) (M : Int) (K : Int)] W fun e w' => ∃ v, e = .returned (.tuple #[v, .nilIface]) ∧ Strs W.heap.size v C W w') := hspl
  obtain ⟨L, hL⟩ : ∃ L, L = C.length := ⟨_, rfl⟩
  have HL : Hid (L = C.length) := hL
  rw [← hL] at hcount hpos
  have hjn : Hid (∀ (a : Option Addr) (cap : Nat) (W : World), Lies W a C → Calls Try.prog 12 #[.slice a L cap] W fun e w' => (∃ v, e = .returned v) ∧ Below W.heap.size W w') := fun a cap W h =>
    (join_any a C L cap W hL h (by omega) hcat).mono fun e w' h => ⟨⟨_, h.1⟩, h.2⟩
  have hsm : Hid (∀ (a a' : Option Addr) (cap cap' : Nat) (W : World), Lies W a C → Lies W a' C → Calls Try.prog 14 #[.slice a L cap, .slice a' L cap'] W fun e w' => e = .returned (.bool true) ∧ Below W.heap.size W w') := by
    intro a a' cap cap' W h1 h2
    have := same_any a C L cap a' C L cap' W hL h1 hL h2 (by omega) (by omega)
    rw [decide_eq_true rfl] at this
    exact this
  rw [← hz] at hs hcount
  have heq := eqNil
  clear hz hL hspl hcat hs0
  unfold cutV at hsp ⊢
  go_enter Try.func5, Try.ntmps5
  go_wp2_with (go_at_call 8; refine (up_any _).mono ?_; rintro e w1 ⟨rfl, hb1⟩; obtain ⟨hc0, hc1, hc2, hbw, hlt⟩ := box_in hb1)
  refine (hsp.out _).mono ?_
  rintro e w2 ⟨v, rfl, hst⟩
  obtain ⟨g, cap, rfl, hLc, hcm, hg1, hg2, hcs⟩ := hst.formN HL.out hpos
  have HL2 : Lies w2 (some ⟨g, 0, none⟩) C := .inr ⟨_, rfl, fun j hj => by rw [Go.WideShapes.add_plain, Nat.zero_add]; exact hcs j hj⟩
  have hl2' : Lies (w2.alloc (.cells #[] 9)) (some ⟨g, 0, none⟩) C := HL2.below ((Below.refl _ _).alloc (Nat.le_refl _) _) (Nat.le_refl _)
  have HBW : Hid (Below w.heap.size w w1) := hbw
  have HC0 : Hid (w1.cell? ⟨w.heap.size, 0, none⟩ = some (.int .i64 (m : Int)) ∧ w1.cell? ⟨w.heap.size, 1, none⟩ = some (.int .i64 (M : Int)) ∧ w1.cell? ⟨w.heap.size, 2, none⟩ = some (.int .i64 (K : Int))) := ⟨hc0, hc1, hc2⟩
  clear hc0 hc1 hc2 hb1 hbw hlt hcs
  go_wp2_with (at_builtin; refine wpList_strs rfl (.tmp 23) (.tmp 24) rfl w2.heap.size _ [] rfl w2 (fresh_row w2) C (some ⟨g, 0, none⟩) L cap rfl HL.out hl2' (fun h => by cases h) hLc (by show 0 + L ≤ _; omega) ?_; intro v' w3 hb3; rw [List.nil_append] at hb3; obtain ⟨g3, c3, rfl, hc3, hcm3, hg3, hg4, hcs3⟩ := hb3.formN HL.out hpos)
  have hl3 : Lies w3 (some ⟨g3, 0, none⟩) C := .inr ⟨_, rfl, fun j hj => by rw [Go.WideShapes.add_plain, Nat.zero_add]; exact hcs3 j hj⟩
  have hl3' : Lies w3 (some ⟨g, 0, none⟩) C := HL2.below hb3.2.1 (Nat.le_refl _)
  clear hcs3 hl2'
  refine (hjn.out _ _ _ hl3').mono ?_
  rintro e w4 ⟨⟨vj, rfl⟩, hb4⟩
  have hl4 := hl3.below hb4 (Nat.le_refl _)
  have hl4' := hl3'.below hb4 (Nat.le_refl _)
  clear hl3'
  go_wp2_with (go_at_call 14; refine (hsm.out _ _ _ _ _ hl4' hl4).mono ?_; rintro e w5 ⟨rfl, hb5⟩)
  have HL5 : Hid (Lies w5 (some ⟨g3, 0, none⟩) C) := hl4.below hb5 (Nat.le_refl _)
  have hst5 : Strs w1.heap.size (.slice (some ⟨g, 0, none⟩) L cap) C w1 w5 := hst.later (hb3.2.1.trans ((hb4.trans (hb5.mono hb4.size)).mono hb3.2.2))
  clear hb3 hb4 hb5 hl3 hl4 hl4' hst HL2
  go_loopw [9] (fun t9 wr => ∃ (i : Nat) (l' : List ByteArray), t9 = .int .i64 (i : Int) ∧ i ≤ L ∧ Hid (L = l'.length) ∧ Strs w1.heap.size (.slice (some ⟨g, 0, none⟩) L cap) l' w1 wr ∧ Hid (Lies wr (some ⟨g3, 0, none⟩) C)) (fun t9 _ => L - (intOf t9).toNat)
  case atStart => exact ⟨0, C, rfl, by omega, HL, hst5, HL5⟩
  case round =>
    obtain ⟨i, l', rfl, hi, HL', hbr, HLr⟩ := hrel
    clear hst5 HL5
    by_cases hiL : i < L
    · have hown := hbr.1
      rw [← HL'.out] at hown
      have hcell : wr.cell? ⟨g, i, none⟩ = some (.string (l'.getD i ByteArray.empty)) := by rw [hown.cellAt i (by omega), sv_at l' i (by rw [← HL'.out]; exact hiL)]
      have hfz := hown.frozenAt i
      have hsd := hown.stored i (.string ⟨#[]⟩)
      rw [sv_put] at hsd
      generalize l'.getD i ByteArray.empty = x at hcell
      have HN : Hid (Strs w1.heap.size (.slice (some ⟨g, 0, none⟩) L cap) (l'.set i ⟨#[]⟩) w1 (wr.setCell ⟨g, i, none⟩ (.string ⟨#[]⟩))) := hbr.grown (l' := l'.set i ⟨#[]⟩) (by rw [List.length_set, ← HL'.out]; exact hsd.1) hsd.2
      have HN2 : Hid (Lies (wr.setCell ⟨g, i, none⟩ (.string ⟨#[]⟩)) (some ⟨g3, 0, none⟩) C) := lies_far _ HLr.out rfl (by omega)
      clear hsd hown hbr HLr
      go_wp2
      go_roundw
      case rel => exact ⟨i + 1, l'.set i ⟨#[]⟩, by go_num, by omega, by rw [List.length_set]; exact HL', HN.out, HN2⟩
      case measure => simp [intOf]; omega
    · obtain ⟨f0, f1, f2⟩ := HC0.out
      have e0 := cell_later hbr.2.1 f0
      have e1 := cell_later hbr.2.1 f1
      have e2 := cell_later hbr.2.1 f2
      have HBr : Hid (Below w.heap.size w wr) := HBW.out.trans (hbr.2.1.mono HBW.out.size)
      clear f0 f1 f2 hbr HL'
      go_wp2_with (go_at_call 9; refine (hsp.out _).mono ?_; rintro e w6 ⟨v6, rfl, hs6⟩; obtain ⟨a6, cap6, rfl, _, _, hl6⟩ := hs6.liesN HL.out)
      have HB6 : Hid (Below w.heap.size w w6) := HBr.out.trans (hs6.2.1.mono HBr.out.size)
      have hl36 := HLr.out.below hs6.2.1 (Nat.le_refl _)
      have hreg : Hid (∀ W, Below w6.heap.size w6 W → Calls Try.prog 14 #[.slice a6 L cap6, .slice (some ⟨g3, 0, none⟩) L c3] W fun e w' => e = .returned (.bool true) ∧ Below w6.heap.size w6 w') := by
        intro W h
        refine (hsm.out a6 _ cap6 c3 W (hl6.below h (Nat.le_refl _)) (hl36.below h (Nat.le_refl _))).mono ?_
        rintro e w' ⟨rfl, hb⟩
        exact ⟨rfl, h.trans (hb.mono h.size)⟩
      clear hs6 hl6 hl36
      go_region_held (fun W => Below w6.heap.size w6 W) (first | assumption | exact (Below.refl _ _).drew)
        (first | (go_at_call 14; refine (hreg.out _ (by assumption)).mono ?_; rintro e w7 ⟨rfl, hb7⟩))
      all_goals
        go_wp2
        go_ret
        exact ⟨rfl, HB6.out.trans (hb7.mono HB6.out.size)⟩

theorem chunkStays_walk (s : ByteArray) (mn mx mk : Int) (w : World) (_ : s.size ≤ maxLen) :
    Calls Try.prog 5 #[.string s, cutV mn mx mk] w fun e w' => e = .returned (.bool true) ∧ Below w.heap.size w w' := by
  by_cases hs : s.size ≤ 3000
  · cases hm : mayB mn mx mk with
    | false =>
      refine stays_zero s mn mx mk w (.iface 32 (.int .i64 1)) false hs argNil (fun t W => by kernel_rfl) fun W => (split_arg s mn mx mk W hm).mono ?_
      rintro e w' ⟨rfl, hb⟩
      exact ⟨none, 0, rfl, fun _ => rfl, hb⟩
    | true =>
      by_cases hs2 : s.size ≤ 1024
      · obtain ⟨m, M, K, rfl, rfl, rfl, h1, h2, h3, h4⟩ := mayB_nat hm
        by_cases h0 : s.size = 0
        · have hC : chunks m M K s = [] := List.eq_nil_of_length_eq_zero (by have := chunks_count m M K s; omega)
          refine stays_zero s m M K w .nilIface true hs eqNil (fun t W => by kernel_rfl) fun W => (split_ok s m M K W hs2 h1 h2 h3 (by omega)).mono ?_
          rintro e w' ⟨v, rfl, hst⟩
          rw [hC] at hst
          rcases hst.form with ⟨rfl, _⟩ | ⟨g, cap, rfl, _⟩
          · exact ⟨none, 0, rfl, fun _ => rfl, hst.2.1⟩
          · exact ⟨_, cap, rfl, fun h => (by cases h), hst.2.1⟩
        · exact stays_some s m M K w (by omega) hs2 h1 h2 h3 (by omega)
      · refine stays_zero s mn mx mk w (.iface 32 (.int .i64 7)) false hs largeNil (fun t W => by kernel_rfl) fun W => (split_large s mn mx mk W hm (by omega)).mono ?_
        rintro e w' ⟨rfl, hb⟩
        exact ⟨none, 0, rfl, fun _ => rfl, hb⟩
  · exact stays_far s mn mx mk w (by omega)
end Go.Proofs.Ytgnkkenkambokaa.Chunk
