/-
  ChunkSplits, walked: whatever text, cut and list of texts, the call returns true, and makes memory of its own alone.
-/
import Derived.Test.YtgnkkenkambokaaChLaw
import Derived.Test.YtgnkkenkambokaaChRef
namespace Go.Proofs.Ytgnkkenkambokaa.Chunk
open Go.RowKit Route

theorem flat_len (l : List ByteArray) (h : ∀ j, j < l.length → (l.getD j ByteArray.empty).size ≤ 1000) : (cat l).size ≤ l.length * 1000 := by
  rw [cat, size_ofL]
  induction l with
  | nil => simp
  | cons x r ih =>
    have h0 := h 0 (by simp)
    have h1 := ih (fun j hj => by have := h (j + 1) (by simpa using hj); simpa using this)
    simp only [List.getD_cons_zero] at h0
    rw [List.map_cons, List.flatten_cons, List.length_append, length_toL, List.length_cons, Nat.succ_mul]
    omega

set_option maxHeartbeats 2000000 in
set_option maxRecDepth 100000 in
theorem splits_far (s : ByteArray) (mn mx mk : Int) (a : Option Addr) (n cap : Nat) (w : World) (hs : 3000 < s.size ∨ 100 < n) :
    Calls Try.prog 3 #[.string s, cutV mn mx mk, .slice a n cap] w fun e w' => e = .returned (.bool true) ∧ Below w.heap.size w w' := by
  obtain ⟨z, hz⟩ : ∃ z, z = s.size := ⟨_, rfl⟩
  have hlen := len_text s z hz
  rw [← hz] at hs
  have HS : Hid (3000 < z ∨ 100 < n) := hs
  clear hz hs
  unfold cutV
  go_enter Try.func3, Try.ntmps3
  by_cases h : 3000 < z
  · go_wp2_with (go_at_call 8; refine (up_any _).mono ?_; rintro e w1 ⟨rfl, hb1⟩)
    go_ret
    exact ⟨rfl, (box_in hb1).2.2.2.1⟩
  · have h2 : 100 < n := by rcases HS.out with h' | h' <;> omega
    go_wp2_with (go_at_call 8; refine (up_any _).mono ?_; rintro e w1 ⟨rfl, hb1⟩)
    go_ret
    exact ⟨rfl, (box_in hb1).2.2.2.1⟩

set_option maxHeartbeats 4000000 in
set_option maxRecDepth 100000 in
theorem splits_near (s : ByteArray) (mn mx mk : Int) (a : Option Addr) (l : List ByteArray) (n cap : Nat) (w : World) (hs : s.size ≤ 3000) (hn100 : n ≤ 100) (hn : n = l.length) (hl : Lies w a l) :
    Calls Try.prog 3 #[.string s, cutV mn mx mk, .slice a n cap] w fun e w' => e = .returned (.bool true) ∧ Below w.heap.size w w' := by
  obtain ⟨z, hz⟩ : ∃ z, z = s.size := ⟨_, rfl⟩
  have hlen := len_text s z hz
  have HZ : Hid (z = s.size) := hz
  rw [← hz] at hs
  have HN : Hid (n = l.length) := hn
  have HLI : Hid (∀ W, Below w.heap.size w W → Lies W a l) := fun W h => hl.below h (Nat.le_refl _)
  have hrm : Hid (∀ W, Calls Try.prog 10 #[cutV mn mx mk] W fun e w' => e = .returned (.bool (mayB mn mx mk)) ∧ Below W.heap.size W w') := fun W => refMay_any mn mx mk W
  have hmy : Hid (∀ W, Calls Try.prog 11 #[cutV mn mx mk] W fun e w' => e = .returned (.bool (mayB mn mx mk)) ∧ Below W.heap.size W w') := fun W => may_any mn mx mk W
  have hsa : Hid (mayB mn mx mk = false → ∀ W, Calls Try.prog 9 #[.string s, cutV mn mx mk] W fun e w' => e = .returned (.tuple #[.slice none 0 0, .iface 32 (.int .i64 1)]) ∧ Below W.heap.size W w') := fun h W => split_arg s mn mx mk W h
  have hsl : Hid (mayB mn mx mk = true → 1024 < s.size → ∀ W, Calls Try.prog 9 #[.string s, cutV mn mx mk] W fun e w' => e = .returned (.tuple #[.slice none 0 0, .iface 32 (.int .i64 7)]) ∧ Below W.heap.size W w') := fun h h2 W => split_large s mn mx mk W h h2
  have hso : Hid (mayB mn mx mk = true → s.size ≤ 1024 → ∃ C : List ByteArray, C.length ≤ 1024 ∧ (∀ W, Calls Try.prog 9 #[.string s, cutV mn mx mk] W fun e w' => ∃ v, e = .returned (.tuple #[v, .nilIface]) ∧ Strs W.heap.size v C W w') ∧ ∀ W, Calls Try.prog 15 #[.string s, cutV mn mx mk] W fun e w' => ∃ v, e = .returned v ∧ Strs W.heap.size v C W w') := by
    intro h h2
    obtain ⟨m, M, K, rfl, rfl, rfl, g1, g2, g3, g4⟩ := mayB_nat h
    exact ⟨chunks m M K s, by have := chunks_count m M K s; omega, fun W => split_ok s m M K W h2 g1 g2 g3 (by omega), fun W => refSplit_ok s m M K W h2 g1 g2 g3 (by omega)⟩
  clear hz hn hl
  unfold cutV at hrm hmy hsa hsl hso ⊢
  go_enter Try.func3, Try.ntmps3
  go_wp2_with (go_at_call 8; refine (up_any _).mono ?_; rintro e w1 ⟨rfl, hb1⟩; obtain ⟨hc0, hc1, hc2, hbw, hlt⟩ := box_in hb1)
  have HB1 : Hid (Below w.heap.size w w1) := hbw
  have hcells : Hid (∀ j, j < n → ∃ b off, a = some ⟨b, off, none⟩ ∧ w1.cell? ⟨b, off + j, none⟩ = some (.string (l.getD j ByteArray.empty))) := by
    intro j hj
    obtain ⟨b, off, h1, h2⟩ := lies_at (HLI.out w1 hbw) (by rw [← HN.out]; omega)
    exact ⟨b, off, h1, h2 j (by rw [← HN.out]; exact hj)⟩
  clear hb1 hbw
  go_loop [6, 8] (fun t6 t8 => t6 = .bool false ∧ ∃ i : Nat, t8 = .int .i64 (i : Int) ∧ i ≤ n ∧ Hid (∀ j, j < i → (l.getD j ByteArray.empty).size ≤ 1000)) (fun _ t8 => n - (intOf t8).toNat)
  case atStart => exact ⟨rfl, 0, rfl, by omega, fun j hj => by omega⟩
  case round =>
    obtain ⟨rfl, i, rfl, hi, HI⟩ := hrel
    by_cases hin : i < n
    · obtain ⟨b, off, rfl, hc⟩ := hcells.out i hin
      obtain ⟨y, hy⟩ : ∃ y, y = (l.getD i ByteArray.empty).size := ⟨_, rfl⟩
      have hly := len_text (l.getD i ByteArray.empty) y hy
      have HY : Hid (y = (l.getD i ByteArray.empty).size) := hy
      clear hy
      by_cases hy1 : y ≤ 1000
      · have HI2 : Hid (∀ j, j < i + 1 → (l.getD j ByteArray.empty).size ≤ 1000) := by
          intro j hj
          by_cases h : j = i
          · rw [h, ← HY.out]; exact hy1
          · exact HI.out j (by omega)
        generalize l.getD i ByteArray.empty = x at hc hly
        clear HI
        go_wp2
        go_round
        case rel => exact ⟨rfl, i + 1, by go_num, by omega, HI2⟩
        case measure => simp [intOf]; omega
      · generalize l.getD i ByteArray.empty = x at hc hly
        go_wp2
        go_ret
        exact ⟨rfl, HB1.out⟩
    · have hcat : (cat l).size ≤ 140737488355328 := by
        have h := flat_len l (fun j hj => HI.out j (by rw [← HN.out] at hj; omega))
        rw [← HN.out] at h
        omega
      have hj1 : Hid (∀ W, Lies W a l → Calls Try.prog 12 #[.slice a n cap] W fun e w' => e = .returned (.string (cat l)) ∧ Below W.heap.size W w') := fun W h => join_any a l n cap W HN.out h (by omega) hcat
      have hj2 : Hid (∀ W, Lies W a l → Calls Try.prog 13 #[.slice a n cap] W fun e w' => e = .returned (.string (cat l)) ∧ w' = W) := fun W h => refJoin_any a l n cap W HN.out h (by omega) hcat
      generalize cat l = J at hj1 hj2 hcat
      have hse := str_eq J J
      rw [decide_eq_true rfl] at hse
      clear hcat HI hcells
      cases hm : mayB mn mx mk with
      | false =>
        have hsp := hsa.out hm
        have heq := eqArg
        rw [hm] at hrm hmy
        clear hm hsa hsl hso
        go_wp2_with fail
        refine (hsp w1).mono ?_
        rintro e w2 ⟨rfl, hb2⟩
        have d0 := cell_later hb2 hc0
        have d1 := cell_later hb2 hc1
        have d2 := cell_later hb2 hc2
        have HB2 : Hid (Below w.heap.size w w2) := HB1.out.trans (hb2.mono HB1.out.size)
        clear hc0 hc1 hc2
        go_wp2_with fail
        refine (hrm.out w2).mono ?_
        rintro e w3 ⟨rfl, hb3⟩
        have e0 := cell_later hb3 d0
        have e1 := cell_later hb3 d1
        have e2 := cell_later hb3 d2
        have HB3 : Hid (Below w.heap.size w w3) := HB2.out.trans (hb3.mono HB2.out.size)
        clear d0 d1 d2
        go_wp2_with fail
        refine (hmy.out w3).mono ?_
        rintro e w4 ⟨rfl, hb4⟩
        have HB4 : Hid (Below w.heap.size w w4) := HB3.out.trans (hb4.mono HB3.out.size)
        go_wp2_with fail
        refine (hj1.out w4 (HLI.out w4 HB4.out)).mono ?_
        rintro e w5 ⟨rfl, hb5⟩
        have HB5 : Hid (Below w.heap.size w w5) := HB4.out.trans (hb5.mono HB4.out.size)
        go_wp2_with fail
        refine (hj2.out w5 (HLI.out w5 HB5.out)).mono ?_
        rintro e w6 ⟨rfl, rfl⟩
        go_wp2
        go_ret
        exact ⟨rfl, HB5.out⟩
      | true =>
        rw [hm] at hrm hmy
        by_cases hz2 : z ≤ 1024
        · obtain ⟨C, hCl, hsp, hrf⟩ := hso.out hm (by rw [← HZ.out]; exact hz2)
          obtain ⟨L, hL⟩ : ∃ L, L = C.length := ⟨_, rfl⟩
          have HL : Hid (L = C.length) := hL
          have hsm : Hid (∀ (a a' : Option Addr) (cap cap' : Nat) (W : World), Lies W a C → Lies W a' C → Calls Try.prog 14 #[.slice a L cap, .slice a' L cap'] W fun e w' => e = .returned (.bool true) ∧ Below W.heap.size W w') := by
            intro a a' cap cap' W h1 h2
            have := same_any a C L cap a' C L cap' W hL h1 hL h2 (by omega) (by omega)
            rw [decide_eq_true rfl] at this
            exact this
          have heq := eqNil
          have HRF : Hid (∀ W, Calls Try.prog 15 #[.string s, .agg #[.int .i64 mn, .int .i64 mx, .int .i64 mk]] W fun e w' => ∃ v, e = .returned v ∧ Strs W.heap.size v C W w') := hrf
          clear hm hsa hsl hso hL hCl hrf
          go_wp2_with fail
          refine (hsp w1).mono ?_
          rintro e w2 ⟨v, rfl, hst⟩
          obtain ⟨ax, capx, rfl, _, _, hlx⟩ := hst.liesN HL.out
          have hb2 := hst.2.1
          have HX : Hid (∀ W, Below w2.heap.size w2 W → Lies W ax C) := fun W h => hlx.below h (Nat.le_refl _)
          clear hsp hlx hst
          have d0 := cell_later hb2 hc0
          have d1 := cell_later hb2 hc1
          have d2 := cell_later hb2 hc2
          have HB2 : Hid (Below w.heap.size w w2) := HB1.out.trans (hb2.mono HB1.out.size)
          clear hc0 hc1 hc2
          go_wp2_with fail
          refine (hrm.out w2).mono ?_
          rintro e w3 ⟨rfl, hb3⟩
          have e0 := cell_later hb3 d0
          have e1 := cell_later hb3 d1
          have e2 := cell_later hb3 d2
          have HB3 : Hid (Below w.heap.size w w3) := HB2.out.trans (hb3.mono HB2.out.size)
          clear d0 d1 d2
          go_wp2_with fail
          refine (hmy.out w3).mono ?_
          rintro e w4 ⟨rfl, hb4⟩
          have HB4 : Hid (Below w.heap.size w w4) := HB3.out.trans (hb4.mono HB3.out.size)
          have f0 := cell_later hb4 e0
          have f1 := cell_later hb4 e1
          have f2 := cell_later hb4 e2
          clear e0 e1 e2
          go_wp2_with fail
          refine (hj1.out w4 (HLI.out w4 HB4.out)).mono ?_
          rintro e w5 ⟨rfl, hb5⟩
          have HB5 : Hid (Below w.heap.size w w5) := HB4.out.trans (hb5.mono HB4.out.size)
          have g0 := cell_later hb5 f0
          have g1 := cell_later hb5 f1
          have g2 := cell_later hb5 f2
          clear f0 f1 f2
          go_wp2_with fail
          refine (hj2.out w5 (HLI.out w5 HB5.out)).mono ?_
          rintro e w6 ⟨rfl, rfl⟩
          have HX5 : Hid (Below w2.heap.size w2 w6) := hb3.trans ((hb4.trans (hb5.mono hb4.size)).mono hb3.size)
          clear hb2 hb3 hb4 hb5
          go_wp2_with fail
          refine (HRF.out w6).mono ?_
          rintro e w7 ⟨v7, rfl, hs7⟩
          obtain ⟨a7, cap7, rfl, _, _, hl7⟩ := hs7.liesN HL.out
          have HB7 : Hid (Below w.heap.size w w7) := HB5.out.trans (hs7.2.1.mono HB5.out.size)
          have hlx7 := HX.out w7 (HX5.out.trans (hs7.2.1.mono HX5.out.size))
          clear hs7
          go_wp2_with fail
          refine (hsm.out _ _ _ _ w7 hlx7 hl7).mono ?_
          rintro e w8 ⟨rfl, hb8⟩
          go_wp2
          go_ret
          exact ⟨rfl, HB7.out.trans (hb8.mono HB7.out.size)⟩
        · have hsp := hsl.out hm (by rw [← HZ.out]; omega)
          have heq := eqLarge
          clear hm hsa hsl hso
          go_wp2_with fail
          refine (hsp w1).mono ?_
          rintro e w2 ⟨rfl, hb2⟩
          have d0 := cell_later hb2 hc0
          have d1 := cell_later hb2 hc1
          have d2 := cell_later hb2 hc2
          have HB2 : Hid (Below w.heap.size w w2) := HB1.out.trans (hb2.mono HB1.out.size)
          clear hc0 hc1 hc2
          go_wp2_with fail
          refine (hrm.out w2).mono ?_
          rintro e w3 ⟨rfl, hb3⟩
          have e0 := cell_later hb3 d0
          have e1 := cell_later hb3 d1
          have e2 := cell_later hb3 d2
          have HB3 : Hid (Below w.heap.size w w3) := HB2.out.trans (hb3.mono HB2.out.size)
          clear d0 d1 d2
          go_wp2_with fail
          refine (hmy.out w3).mono ?_
          rintro e w4 ⟨rfl, hb4⟩
          have HB4 : Hid (Below w.heap.size w w4) := HB3.out.trans (hb4.mono HB3.out.size)
          have f0 := cell_later hb4 e0
          have f1 := cell_later hb4 e1
          have f2 := cell_later hb4 e2
          clear e0 e1 e2
          go_wp2_with fail
          refine (hj1.out w4 (HLI.out w4 HB4.out)).mono ?_
          rintro e w5 ⟨rfl, hb5⟩
          have HB5 : Hid (Below w.heap.size w w5) := HB4.out.trans (hb5.mono HB4.out.size)
          have g0 := cell_later hb5 f0
          have g1 := cell_later hb5 f1
          have g2 := cell_later hb5 f2
          clear f0 f1 f2
          go_wp2_with fail
          refine (hj2.out w5 (HLI.out w5 HB5.out)).mono ?_
          rintro e w6 ⟨rfl, rfl⟩
          go_wp2
          go_ret
          exact ⟨rfl, HB5.out⟩

theorem chunkSplits_walk (s : ByteArray) (mn mx mk : Int) (a : Option Addr) (l : List ByteArray) (n cap : Nat) (w : World) (_ : s.size ≤ maxLen) (hn : n = l.length) (hl : Lies w a l) (_ : n ≤ cap) (_ : cap ≤ maxLen) (_ : a = none → cap = 0) (_ : ∀ x ∈ l, x.size ≤ maxLen) :
    Calls Try.prog 3 #[.string s, cutV mn mx mk, .slice a n cap] w fun e w' => e = .returned (.bool true) ∧ Below w.heap.size w w' := by
  by_cases h : 3000 < s.size ∨ 100 < n
  · exact splits_far s mn mx mk a n cap w h
  · exact splits_near s mn mx mk a l n cap w (by omega) (by omega) hn hl
end Go.Proofs.Ytgnkkenkambokaa.Chunk
