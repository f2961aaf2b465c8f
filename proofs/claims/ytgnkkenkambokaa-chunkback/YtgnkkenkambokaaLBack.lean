/-
  ChunkBack, walked: whatever two texts and cut, the call returns true, and makes memory of its own alone.
-/
import Derived.Test.YtgnkkenkambokaaChLaw
namespace Go.Proofs.Ytgnkkenkambokaa.Chunk
open Go.RowKit Route

set_option maxHeartbeats 2000000 in
set_option maxRecDepth 100000 in
theorem back_far (s r : ByteArray) (mn mx mk : Int) (w : World) (hs : 3000 < s.size ∨ 3000 < r.size) :
    Calls Try.prog 4 #[.string s, .string r, cutV mn mx mk] w fun e w' => e = .returned (.bool true) ∧ Below w.heap.size w w' := by
  obtain ⟨z, hz⟩ : ∃ z, z = s.size := ⟨_, rfl⟩
  obtain ⟨y, hy⟩ : ∃ y, y = r.size := ⟨_, rfl⟩
  have hlen := len_text s z hz
  have hlen2 := len_text r y hy
  rw [← hz, ← hy] at hs
  have HS : Hid (3000 < z ∨ 3000 < y) := hs
  clear hz hs hy
  unfold cutV
  go_enter Try.func4, Try.ntmps4
  by_cases h : 3000 < z
  · go_wp2_with (go_at_call 8; refine (up_any _).mono ?_; rintro e w1 ⟨rfl, hb1⟩)
    go_ret
    exact ⟨rfl, (box_in hb1).2.2.2.1⟩
  · have h2 : 3000 < y := by rcases HS.out with h' | h' <;> omega
    go_wp2_with (go_at_call 8; refine (up_any _).mono ?_; rintro e w1 ⟨rfl, hb1⟩)
    go_ret
    exact ⟨rfl, (box_in hb1).2.2.2.1⟩

set_option maxHeartbeats 2000000 in
set_option maxRecDepth 100000 in
theorem back_err (s r : ByteArray) (mn mx mk : Int) (w : World) (c : Int) (hs : s.size ≤ 3000) (hr : r.size ≤ 3000)
    (hsp0 : ∀ W, Calls Try.prog 9 #[.string s, cutV mn mx mk] W fun e w' => e = .returned (.tuple #[.slice none 0 0, .iface 32 (.int .i64 c)]) ∧ Below W.heap.size W w')
    (hne : ∀ W, (binOp .neq 27 (.iface 32 (.int .i64 c)) .nilIface).run Try.prog W = .ok (.bool true) W) :
    Calls Try.prog 4 #[.string s, .string r, cutV mn mx mk] w fun e w' => e = .returned (.bool true) ∧ Below w.heap.size w w' := by
  obtain ⟨z, hz⟩ : ∃ z, z = s.size := ⟨_, rfl⟩
  obtain ⟨y, hy⟩ : ∃ y, y = r.size := ⟨_, rfl⟩
  have hlen := len_text s z hz
  have hlen2 := len_text r y hy
  rw [← hz] at hs
  rw [← hy] at hr
  have hsp : Hid (∀ W, Calls Try.prog 9 #[.string s, cutV mn mx mk] W fun e w' => e = .returned (.tuple #[.slice none 0 0, .iface 32 (.int .i64 c)]) ∧ Below W.heap.size W w') := hsp0
  clear hz hy hsp0
  unfold cutV at hsp ⊢
  go_enter Try.func4, Try.ntmps4
  go_wp2_with (go_at_call 8; refine (up_any _).mono ?_; rintro e w1 ⟨rfl, hb1⟩; obtain ⟨hc0, hc1, hc2, hbw, hlt⟩ := box_in hb1)
  refine (hsp.out _).mono ?_
  rintro e w2 ⟨rfl, hb2⟩
  go_wp2
  go_ret
  exact ⟨rfl, hbw.trans (hb2.mono hbw.size)⟩

set_option maxHeartbeats 8000000 in
set_option maxRecDepth 100000 in
theorem back_ok (s r : ByteArray) (m M K : Nat) (w : World) (hs : s.size ≤ 1024) (hr : r.size ≤ 3000) (hm : 1 ≤ m) (hmM : m ≤ M) (hM : M ≤ 64) (hK : K < 256) :
    Calls Try.prog 4 #[.string s, .string r, cutV (m : Int) (M : Int) (K : Int)] w fun e w' => e = .returned (.bool true) ∧ Below w.heap.size w w' := by
  obtain ⟨z, hz⟩ : ∃ z, z = s.size := ⟨_, rfl⟩
  obtain ⟨y, hy⟩ : ∃ y, y = r.size := ⟨_, rfl⟩
  have hlen := len_text s z hz
  have hlen2 := len_text r y hy
  have hadd : ∀ W : World, (Op.stringOp .add s r).run Try.prog W = .ok (.string (s ++ r)) W := fun W => run_string_add_sum W _ _ (by omega)
  have hcount := chunks_count m M K s
  have hsizes := chunks_sizes m M K s hmM (by omega)
  have hmore := chunks_more m M K s r
  have hcat := chunks_cat m M K s
  have hspl := fun W => split_ok s m M K W hs hm hmM hM hK
  have hmay : mayB (m : Int) (M : Int) (K : Int) = true := by unfold mayB; exact decide_eq_true (by omega)
  have htz : (s ++ r).size = z + y := by rw [ByteArray.size_append, hz, hy]
  have hl2 : Hid (1024 < z + y → ∀ W, Calls Try.prog 9 #[.string (s ++ r), cutV (m : Int) (M : Int) (K : Int)] W fun e w' => e = .returned (.tuple #[.slice none 0 0, .iface 32 (.int .i64 7)]) ∧ Below W.heap.size W w') := fun h W => split_large (s ++ r) _ _ _ W hmay (by omega)
  have ho2 : Hid (z + y ≤ 1024 → ∀ W, Calls Try.prog 9 #[.string (s ++ r), cutV (m : Int) (M : Int) (K : Int)] W fun e w' => ∃ v, e = .returned (.tuple #[v, .nilIface]) ∧ Strs W.heap.size v (chunks m M K (s ++ r)) W w') := fun h W => split_ok (s ++ r) m M K W (by omega) hm hmM hM hK
  have hcount2 := chunks_count m M K (s ++ r)
  rw [htz] at hcount2
  generalize chunks m M K (s ++ r) = D at hmore ho2 hcount2
  generalize s ++ r = t at hadd hl2 ho2
  generalize chunks m M K s = C at hcount hsizes hmore hcat hspl
  have hsp : Hid (∀ W, Calls Try.prog 9 #[.string s, cutV (m : Int) (M : Int) (K : Int)] W fun e w' => ∃ v, e = .returned (.tuple #[v, .nilIface]) ∧ Strs W.heap.size v C W w') := hspl
  have HS : Hid (∀ i, i < C.length → 1 ≤ (C.getD i ByteArray.empty).size ∧ (C.getD i ByteArray.empty).size ≤ M ∧ (i + 1 < C.length → m ≤ (C.getD i ByteArray.empty).size)) := hsizes
  have HM : Hid (∀ i, i + 1 < C.length → i < D.length ∧ D.getD i ByteArray.empty = C.getD i ByteArray.empty) := hmore
  obtain ⟨L, hL⟩ : ∃ L, L = C.length := ⟨_, rfl⟩
  have HL : Hid (L = C.length) := hL
  obtain ⟨N, hN⟩ : ∃ N, N = D.length := ⟨_, rfl⟩
  have HN : Hid (N = D.length) := hN
  rw [← hL] at hcount
  rw [← hN] at hcount2
  have hjn : Hid (∀ (a : Option Addr) (cap : Nat) (W : World), Lies W a C → Calls Try.prog 12 #[.slice a L cap] W fun e w' => e = .returned (.string s) ∧ Below W.heap.size W w') := fun a cap W h => by
    have := join_any a C L cap W hL h (by omega) (by rw [hcat]; omega)
    rw [hcat] at this; exact this
  have hse := str_eq s s
  rw [decide_eq_true rfl] at hse
  rw [← hz] at hs hcount
  rw [← hy] at hr
  have hne := neNil
  have hne7 := neLarge
  clear hz hy hL hN hspl hcat hsizes hmore hmay htz
  unfold cutV at hsp hl2 ho2 ⊢
  go_enter Try.func4, Try.ntmps4
  go_wp2_with (go_at_call 8; refine (up_any _).mono ?_; rintro e w1 ⟨rfl, hb1⟩; obtain ⟨hc0, hc1, hc2, hbw, hlt⟩ := box_in hb1)
  refine (hsp.out _).mono ?_
  rintro e w2 ⟨v, rfl, hst⟩
  obtain ⟨a, cap, rfl, hLc, _, hli⟩ := hst.liesN HL.out
  have hcells : Hid (∀ j, j < L → ∃ b off, a = some ⟨b, off, none⟩ ∧ w2.cell? ⟨b, off + j, none⟩ = some (.string (C.getD j ByteArray.empty))) := by
    intro j hj
    obtain ⟨b, off, h1, h2⟩ := lies_at hli (by rw [← HL.out]; omega)
    exact ⟨b, off, h1, h2 j (by rw [← HL.out]; exact hj)⟩
  have HBX : Hid (w2.cell? ⟨w.heap.size, 0, none⟩ = some (.int .i64 (m : Int)) ∧ w2.cell? ⟨w.heap.size, 1, none⟩ = some (.int .i64 (M : Int)) ∧ w2.cell? ⟨w.heap.size, 2, none⟩ = some (.int .i64 (K : Int))) := ⟨cell_later hst.2.1 hc0, cell_later hst.2.1 hc1, cell_later hst.2.1 hc2⟩
  have HB2 : Hid (Below w.heap.size w w2) := hbw.trans (hst.2.1.mono hbw.size)
  have HLI : Hid (∀ W, Below w2.heap.size w2 W → Lies W a C) := fun W h => hli.below h (Nat.le_refl _)
  clear hc0 hc1 hc2 hb1 hbw hst hli hlt hsp
  go_wp2
  go_loopw [6, 10] (fun t6 t10 wr => t6 = .bool false ∧ ∃ i : Nat, t10 = .int .i64 (i : Int) ∧ i ≤ L ∧ Below w2.heap.size w2 wr) (fun _ t10 _ => L - (intOf t10).toNat)
  case atStart => exact ⟨rfl, 0, rfl, by omega, Below.refl _ _⟩
  case round =>
    obtain ⟨rfl, i, rfl, hi, hbw⟩ := hrel
    obtain ⟨f0, f1, f2⟩ := HBX.out
    have e0 := cell_later hbw f0
    have e1 := cell_later hbw f1
    have e2 := cell_later hbw f2
    clear f0 f1 f2
    by_cases hiL : i < L
    · obtain ⟨b, off, rfl, hc⟩ := hcells.out i hiL
      have hcell := cell_later hbw hc
      obtain ⟨h1, h2, h3⟩ := HS.out i (by rw [← HL.out]; exact hiL)
      obtain ⟨q, hq⟩ : ∃ q, q = (C.getD i ByteArray.empty).size := ⟨_, rfl⟩
      have hlq := len_text (C.getD i ByteArray.empty) q hq
      rw [← hq] at h1 h2 h3
      rw [← HL.out] at h3
      generalize C.getD i ByteArray.empty = x at hc hcell hlq
      clear hq hc
      have g1 : decide (M < q) = false := decide_eq_false (by omega)
      have g2 : decide ((q : Int) < 1) = false := decide_eq_false (by omega)
      by_cases hil : i + 1 < L
      · have h4 := h3 hil
        have g3 : decide ((i : Int) < (L : Int) - 1) = true := decide_eq_true (by omega)
        have g4 : decide (q < m) = false := decide_eq_false (by omega)
        clear h3
        go_wp2
        go_quiet (fail)
        go_wp2
        go_roundw
        case rel => exact ⟨rfl, i + 1, by go_num, by omega, below_drewN hbw _⟩
        case measure => simp [intOf]; omega
      · have g3 : decide ((i : Int) < (L : Int) - 1) = false := decide_eq_false (by omega)
        clear h3
        go_wp2
        go_quiet (fail)
        go_wp2
        go_roundw
        case rel => exact ⟨rfl, i + 1, by go_num, by omega, below_drewN hbw _⟩
        case measure => simp [intOf]; omega
    · have hlr := HLI.out wr hbw
      go_wp2_with fail
      refine (hjn.out _ _ _ hlr).mono ?_
      rintro e w3 ⟨rfl, hb3⟩
      have d0 := cell_later hb3 e0
      have d1 := cell_later hb3 e1
      have d2 := cell_later hb3 e2
      have HB3 : Hid (Below w2.heap.size w2 w3) := hbw.trans (hb3.mono hbw.size)
      clear e0 e1 e2 hb3 hbw hlr
      by_cases hzy : z + y ≤ 1024
      · have hk := ho2.out hzy
        clear hl2 ho2
        go_wp2_with fail
        refine (hk _).mono ?_
        rintro e w4 ⟨v4, rfl, hs4⟩
        obtain ⟨a4, cap4, rfl, _, _, hli4⟩ := hs4.liesN HN.out
        have hcells4 : Hid (∀ j, j < N → ∃ b off, a4 = some ⟨b, off, none⟩ ∧ w4.cell? ⟨b, off + j, none⟩ = some (.string (D.getD j ByteArray.empty))) := by
          intro j hj
          obtain ⟨b, off, h1, h2⟩ := lies_at hli4 (by rw [← HN.out]; omega)
          exact ⟨b, off, h1, h2 j (by rw [← HN.out]; exact hj)⟩
        have HB4 : Hid (Below w2.heap.size w2 w4) := HB3.out.trans (hs4.2.1.mono HB3.out.size)
        clear hk hs4 hli4 d0 d1 d2
        go_wp2
        go_loopw [6, 13] (fun t6 t13 wr => t6 = .bool false ∧ ∃ j : Nat, t13 = .int .i64 (j : Int) ∧ j ≤ L ∧ Below w4.heap.size w4 wr) (fun _ t13 _ => L - (intOf t13).toNat)
        case atStart => exact ⟨rfl, 0, rfl, by omega, Below.refl _ _⟩
        case round =>
          obtain ⟨rfl, j, rfl, hj, hbr⟩ := hrel
          by_cases hjL : j + 1 < L
          · obtain ⟨b, off, rfl, hc⟩ := hcells.out j (by omega)
            obtain ⟨hjN, hjd⟩ := HM.out j (by rw [← HL.out]; exact hjL)
            rw [← HN.out] at hjN
            obtain ⟨b4, off4, rfl, hc4⟩ := hcells4.out j hjN
            have hcell := cell_later hbr (cell_later HB4.out hc)
            have hcell4 := cell_later hbr hc4
            rw [hjd] at hcell4
            generalize C.getD j ByteArray.empty = x at hcell hcell4
            have hsx := str_eq x x
            rw [decide_eq_true rfl] at hsx
            have g1 : decide (N ≤ j) = false := decide_eq_false (by omega)
            clear hc hc4 hjd
            go_wp2
            go_quiet (fail)
            go_wp2
            go_roundw
            case rel => exact ⟨rfl, j + 1, by go_num, by omega, below_drewN hbr _⟩
            case measure => simp [intOf]; omega
          · go_wp2
            go_ret
            exact ⟨rfl, HB2.out.trans ((HB4.out.trans (hbr.mono HB4.out.size)).mono HB2.out.size)⟩
      · have hk := hl2.out (by omega)
        have g : decide ((1024 : Int) < (z : Int) + (y : Int)) = true := decide_eq_true (by omega)
        clear hl2 ho2
        go_wp2_with fail
        refine (hk _).mono ?_
        rintro e w4 ⟨rfl, hb4⟩
        go_wp2
        go_ret
        exact ⟨rfl, HB2.out.trans ((HB3.out.trans (hb4.mono HB3.out.size)).mono HB2.out.size)⟩

theorem chunkBack_walk (s r : ByteArray) (mn mx mk : Int) (w : World) (_ : s.size ≤ maxLen) (_ : r.size ≤ maxLen) :
    Calls Try.prog 4 #[.string s, .string r, cutV mn mx mk] w fun e w' => e = .returned (.bool true) ∧ Below w.heap.size w w' := by
  by_cases h : 3000 < s.size ∨ 3000 < r.size
  · exact back_far s r mn mx mk w h
  · cases hm : mayB mn mx mk with
    | false => exact back_err s r mn mx mk w 1 (by omega) (by omega) (fun W => split_arg s mn mx mk W hm) neArg
    | true =>
      by_cases hs : s.size ≤ 1024
      · obtain ⟨m, M, K, rfl, rfl, rfl, h1, h2, h3, h4⟩ := mayB_nat hm
        exact back_ok s r m M K w hs (by omega) h1 h2 h3 (by omega)
      · exact back_err s r mn mx mk w 7 (by omega) (by omega) (fun W => split_large s mn mx mk W hm (by omega)) neLarge
end Go.Proofs.Ytgnkkenkambokaa.Chunk
