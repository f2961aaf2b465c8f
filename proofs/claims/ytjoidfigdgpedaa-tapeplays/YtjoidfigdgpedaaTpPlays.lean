/-
  The walk of TapePlays.
-/
import Derived.Test.YtjoidfigdgpedaaTpDeeds
namespace Go.Proofs.Ytjoidfigdgpedaa
open Go.RowKit

/-- What holds ahead of each deed: the tape has the bytes bl, sy of them synced; so has the law's own row v. -/
def At (W0 w : World) (tp : Nat) (bl : List UInt8) (sy : Nat) (r : Option Nat) (v : Value) : Prop := St W0 w tp bl sy r ∧ Row W0.heap.size w v bl ∧ Apart v tp r

theorem At.later {W0 w w' : World} {tp sy : Nat} {bl : List UInt8} {r : Option Nat} {v : Value} (h : At W0 w tp bl sy r v) (hb : Below w.heap.size w w') : At W0 w' tp bl sy r v :=
  ⟨h.1.later hb, h.2.1.below hb (Nat.le_refl _), h.2.2⟩

theorem At.turns {W0 w w' : World} {tp sy sy' : Nat} {bl bl' : List UInt8} {r r' : Option Nat} {v : Value} (h : At W0 w tp bl sy r v) (hs : St W0 w' tp bl' sy' r') (ht : Turns tp r r' w w') : St W0 w' tp bl' sy' r' ∧ Row W0.heap.size w' v bl ∧ Apart v tp r' :=
  ⟨hs, ht.row_kept h.2.1 h.2.2⟩

/-- The law's own row, as a walk reads it. -/
theorem At.row {W0 w : World} {tp sy : Nat} {bl : List UInt8} {r : Option Nat} {ab : Option Addr} {kb cb : Nat} (h : At W0 w tp bl sy r (.slice ab kb cb)) : BytesIn w ab kb cb bl ∧ kb ≤ cb ∧ cb ≤ maxLen := by
  obtain ⟨a, k, cap, hv, hk, h1, h2, h3, h4, _⟩ := h.2.1.form
  simp only [Value.slice.injEq] at hv
  obtain ⟨rfl, rfl, rfl⟩ := hv
  exact ⟨⟨hk, h3, h4⟩, h1, h2⟩

theorem At.sy_le {W0 w : World} {tp sy : Nat} {bl : List UInt8} {r : Option Nat} {v : Value} (h : At W0 w tp bl sy r v) : sy ≤ bl.length := by
  obtain ⟨⟨⟨_, _, _, _, _, _, hs, _⟩, _⟩, _⟩ := h; exact hs

/-- What the law's last test asks. -/
theorem At.tail {W0 w : World} {tp sy : Nat} {bl : List UInt8} {r : Option Nat} {ab : Option Addr} {kb cb : Nat} (h : At W0 w tp bl sy r (.slice ab kb cb)) :
    ∃ O : ByteArray, (convert 26 9 (.slice ab kb cb)).run Try.prog w.drew = .ok (.string O) w.drew ∧
      Hid (∀ W, (Below w.heap.size w W ∧ (convert 26 9 (.slice ab kb cb)).run Try.prog W = .ok (.string O) W) → Calls Try.prog 14 #[.pointer (some ⟨tp, 0, none⟩)] W fun e w' => ∃ a k cap, e = .returned (.slice a k cap) ∧ (convert 26 9 (.slice a k cap)).run Try.prog w' = .ok (.string O) w' ∧ (Below w.heap.size w w' ∧ (convert 26 9 (.slice ab kb cb)).run Try.prog w' = .ok (.string O) w')) ∧
      Hid (∀ W, (Below w.heap.size w W ∧ (convert 26 9 (.slice ab kb cb)).run Try.prog W = .ok (.string O) W) → Calls Try.prog 15 #[.pointer (some ⟨tp, 0, none⟩)] W fun e w' => e = .returned (.int .i64 (sy : Int)) ∧ w' = W) := by
  have hc : ∀ W, Below w.heap.size w W → (convert 26 9 (.slice ab kb cb)).run Try.prog W = .ok (.string ⟨bl.toArray⟩) W := fun W hW => by
    obtain ⟨⟨hk, hl, _⟩, _⟩ := (h.later hW).row
    exact conv_named hl hk.out rfl
  refine ⟨⟨bl.toArray⟩, hc _ (Below.refl _ _).drew, ?_, ?_⟩
  · rintro W ⟨hW, _⟩
    refine (bytes_st (h.later hW).1).mono ?_
    rintro e w' ⟨a, k, cap, rfl, _, _, hb, _, hcv⟩
    have hbw : Below w.heap.size w w' := hW.trans (hb.mono hW.size)
    exact ⟨a, k, cap, rfl, hcv, hbw, hc _ hbw⟩
  · rintro W ⟨hW, _⟩
    exact synced_any (h.later hW).1.1

/-- The deed's own box. -/
def Box (w : World) (bx : Nat) (c m : Int) (v : Value) (tp : Nat) (r : Option Nat) : Prop :=
  w.heap[bx]? = some (.cells #[.int .i64 c, .int .i64 m, v] 28 (0, 0)) ∧ bx ≠ tp ∧ some bx ≠ r

theorem Box.cells {w : World} {bx tp : Nat} {c m : Int} {v : Value} {r : Option Nat} (h : Box w bx c m v tp r) :
    w.cell? ⟨bx, 0, none⟩ = some (.int .i64 c) ∧ w.cell? ⟨bx, 1, none⟩ = some (.int .i64 m) ∧ w.cell? ⟨bx, 2, none⟩ = some v := by
  refine ⟨?_, ?_, ?_⟩
  · rw [cell_of_row w bx 0 _ 28 (0, 0) h.1]; rfl
  · rw [cell_of_row w bx 1 _ 28 (0, 0) h.1]; rfl
  · rw [cell_of_row w bx 2 _ 28 (0, 0) h.1]; rfl

theorem Box.turns {w w' : World} {bx tp : Nat} {c m : Int} {v : Value} {r r' : Option Nat} (h : Box w bx c m v tp r) (ht : Turns tp r r' w w') : Box w' bx c m v tp r' := by
  have hlt : bx < w.heap.size := (Array.getElem?_eq_some_iff.1 h.1).1
  refine ⟨by rw [ht.block bx hlt h.2.1 h.2.2]; exact h.1, h.2.1, ?_⟩
  rcases ht.row with e | ⟨k, e, hk⟩
  · rw [e]; exact h.2.2
  · rw [e]; intro e2; simp only [Option.some.injEq] at e2; omega

theorem Box.below {w w' : World} {bx tp : Nat} {c m : Int} {v : Value} {r : Option Nat} (h : Box w bx c m v tp r) (hb : Below w.heap.size w w') : Box w' bx c m v tp r := by
  have hlt : bx < w.heap.size := (Array.getElem?_eq_some_iff.1 h.1).1
  exact ⟨by rw [hb.block bx hlt]; exact h.1, h.2⟩

/-- A deed is put into a box of its own. -/
theorem At.boxed {W0 w : World} {tp sy : Nat} {bl : List UInt8} {r : Option Nat} {v : Value} (h : At W0 w tp bl sy r v) (c m : Int) (u : Value) :
    At W0 (w.alloc (.cells #[.int .i64 c, .int .i64 m, u] 28)) tp bl sy r v ∧ Box (w.alloc (.cells #[.int .i64 c, .int .i64 m, u] 28)) w.heap.size c m u tp r := by
  refine ⟨h.later ((Below.refl _ _).alloc (Nat.le_refl _) _), heap_alloc_new w _, ?_, ?_⟩
  · obtain ⟨⟨⟨_, hh, _⟩, _⟩, _⟩ := h
    have := (Array.getElem?_eq_some_iff.1 hh).1
    omega
  · obtain ⟨⟨⟨_, _, _, hr, hv, _⟩, _⟩, _⟩ := h
    intro e
    have := (hr.lt w.heap.size (by rw [hv]; exact e.symm)).2
    omega

theorem neErr (w : World) : (binOp .neq 32 (.iface 34 (.int .i64 1)) (.iface 34 (.int .i64 1))).run Try.prog w = .ok (.bool false) w := by kernel_rfl

theorem stay_few {l : List UInt8} {sy : Nat} {n : Int} {k K : Nat} (hk : k = l.length) (hK : K = sy + n.toNat) (h : n.toNat < k - sy) : stay l sy n = K := by
  unfold stay; omega
theorem stay_full {l : List UInt8} {sy : Nat} {n : Int} {k : Nat} (hk : k = l.length) (hs : sy ≤ l.length) (h : k - sy ≤ n.toNat) : stay l sy n = k := by
  unfold stay; omega

set_option maxHeartbeats 16000000 in
set_option maxRecDepth 100000 in
theorem tapePlays_core (a : Option Addr) (n cap : Nat) (w : World) (hd : DeedsIn w a n) :
    Calls Try.prog 3 #[.slice a n cap] w fun e w' => e = .returned (.bool true) ∧ Below w.heap.size w w' := by
  have HD : Hid (DeedsIn w a n) := hd
  clear hd
  go_enter Try.func3, Try.ntmps3
  go_wp2_with fail
  refine (up_any w).mono ?_
  rintro e w1 ⟨rfl, hb1⟩
  have H1 : Hid (Calls _ _ _ _ _) := new_st w w1 hb1
  clear hb1
  go_wp2_with fail
  refine H1.out.mono ?_
  rintro e w2 ⟨tp, rfl, h2, _, _⟩
  have HA : Hid (At w w2 tp [] 0 none (.slice none 0 0)) := ⟨h2, Row.nil _ _, fun k hk => by simp [Value.ownBlock] at hk⟩
  clear h2 H1
  go_wp2
  go_loopw [2, 5, 6, 7, 8, 9, 10, 11] (fun _ v s i _ _ _ _ wr => ∃ (j sy : Nat) (bl : List UInt8) (r : Option Nat) (ab : Option Addr) (kb cb : Nat), j ≤ n ∧ j ≤ 100 ∧ i = .int .i64 (j : Int) ∧ s = .int .i64 (sy : Int) ∧ v = .slice ab kb cb ∧ bl.length ≤ 2000 * j ∧ At w wr tp bl sy r (.slice ab kb cb)) (fun _ _ _ i _ _ _ _ _ => n - (intOf i).toNat)
  case atStart => exact ⟨0, 0, [], none, none, 0, 0, Nat.zero_le _, Nat.zero_le _, rfl, rfl, rfl, by simp, HA.out⟩
  case round =>
    obtain ⟨j, sy, bl, r, ab, kb, cb, hj, hj2, rfl, rfl, rfl, hbl, hat⟩ := hrel
    have HAT : Hid (At w wr tp bl sy r (.slice ab kb cb)) := hat
    have HBL : Hid (bl.length ≤ 2000 * j) := hbl
    have HE : Hid (Below w.heap.size w wr) := hat.1.2
    have HKB : Hid (kb = bl.length) := hat.row.1.1
    have HSY : Hid (sy ≤ bl.length) := hat.sy_le
    have hsk : sy ≤ kb := by rw [HKB.out]; exact hat.sy_le
    have hkm : kb ≤ 200000 := by rw [HKB.out]; omega
    clear hat hbl HA
    by_cases hlt : j < n ∧ j < 100
    · obtain ⟨h1, h2⟩ := hlt
      have hdd : ∃ x, a = some x ∧ DeedAt w (x.add (j * 3)) := by
        rcases HD.out with h0 | ⟨x, hx, h⟩
        · omega
        · exact ⟨x, hx, h j h1⟩
      obtain ⟨x, rfl, hda⟩ := hdd
      have hix := index_deed x n cap j h1
      have hs28 := size28
      have ha28 := agg28
      obtain ⟨p, hp⟩ : ∃ p, p = x.add (j * 3) := ⟨_, rfl⟩
      rw [← hp] at hda hix
      obtain ⟨c, m, da, dk, dc, dl, c0', c1', c2', hc, hmm, hdl⟩ := hda
      have c0 := cell_below HE.out (Nat.le_refl _) c0'
      have c1 := cell_below HE.out (Nat.le_refl _) c1'
      have c2 := cell_below HE.out (Nat.le_refl _) c2'
      have HC : Hid (_ ∧ _) := hc
      have HM : Hid (_ ∧ _) := hmm
      have HDL : Hid (BytesIn w da dk dc dl) := hdl
      clear hc hmm hdl hp c0' c1' c2'
      by_cases hdk : dk ≤ 2000
      · have HP : Hid (Calls Try.prog 9 #[.int .i64 c, .int .i64 5] (wr.alloc (.cells #[.int .i64 c, .int .i64 m, .slice da dk dc] 28)) fun e w' => (∃ q : Nat, q < 5 ∧ e = .returned (.int .i64 (q : Int))) ∧ At w w' tp bl sy r (.slice ab kb cb) ∧ Box w' wr.heap.size c m (.slice da dk dc) tp r) := by
          refine (pick_any c 5 _ HC.out.1 HC.out.2 (by omega) (by omega)).mono ?_
          rintro e w' ⟨hq, rfl⟩
          exact ⟨hq, HAT.out.boxed c m _⟩
        go_wp2_with fail
        refine HP.out.mono ?_
        rintro e w3 ⟨⟨q, hq, rfl⟩, hA3, hbx3⟩
        have HA3 : Hid (At w w3 tp bl sy r (.slice ab kb cb)) := hA3
        have HB3 : Hid (Box w3 wr.heap.size c m (.slice da dk dc) tp r) := hbx3
        obtain ⟨b0, b1, b2⟩ := hbx3.cells
        clear hA3 hbx3 HP c0 c1 c2 hix hs28 ha28 HAT
        have hq' : q = 2 ∨ q = 3 ∨ q = 4 ∨ q = 0 ∨ q = 1 := by omega
        clear hq
        rcases hq' with rfl | rfl | rfl | rfl | rfl
        · -- Sync
          have H3 : Hid (Calls Try.prog 10 #[.pointer (some ⟨tp, 0, none⟩)] w3 fun e w' => e = .returned (.tuple #[]) ∧ At w w' tp bl kb r (.slice ab kb cb)) := by
            refine (sync_st HA3.out.1).mono ?_
            rintro e w' ⟨rfl, hs, ht⟩
            rw [← HKB.out] at hs
            exact ⟨rfl, HA3.out.turns hs ht⟩
          go_wp2_with fail
          refine H3.out.mono ?_
          rintro e w4 ⟨rfl, hA4⟩
          have HA4 : Hid (At w w4 tp bl kb r (.slice ab kb cb)) := hA4
          clear hA4 H3 HA3 HB3 b0 b1 b2
          go_wp2_with fail
          obtain ⟨O, cB, hB, hY⟩ := (HA4.out).tail
          go_region_held (fun W => (Below w4.heap.size w4 W ∧ (convert 26 9 (.slice ab kb cb)).run Try.prog W = .ok (.string O) W)) (first | assumption | exact ⟨(Below.refl _ _).drew, cB⟩)
            (first | (go_at_call 14; refine (hB.out _ (by assumption)).mono ?_; rintro e w6 ⟨a6, k6, cap6, rfl, hc6, hS6⟩) | (go_at_call 15; refine (hY.out _ (by assumption)).mono ?_; rintro e w7 ⟨rfl, rfl⟩))
          all_goals
            have HL : Hid (At w w7 tp bl kb r (.slice ab kb cb)) := (HA4.out).later hS6.1
            clear hS6 cB hB hY hc6
            go_wp2
            go_roundw
            case rel => exact ⟨j + 1, kb, bl, r, ab, kb, cb, by omega, by omega, by go_num, rfl, rfl, (by have := HBL.out; omega), HL.out⟩
            case measure => simp [intOf]; omega
        · rcases Int.lt_or_le m 0 with hneg | hpos
          · rcases Nat.lt_or_ge sy kb with hlt3 | hge3
            · have H3 : Hid (Calls Try.prog 11 #[.pointer (some ⟨tp, 0, none⟩), .int .i64 m] w3 fun e w' => e = .returned (.tuple #[]) ∧ At w w' tp (bl.take sy) sy r (.slice ab sy cb) ∧ Box w' wr.heap.size c m (.slice da dk dc) tp r) := by
                refine (crash_st HM.out HA3.out.1).mono ?_
                rintro e w' ⟨rfl, hs, ht⟩
                have hst : stay bl sy m = sy := stay_few HKB.out (by omega) (by omega)
                rw [hst] at hs
                obtain ⟨g1, g2, g3⟩ := HA3.out.turns hs ht
                refine ⟨rfl, ?_, HB3.out.turns ht⟩
                exact ⟨g1, g2.take (by rw [← HKB.out]; omega), fun k hk => g3 k (by cases ab <;> exact hk)⟩
              have s1 : ∀ W, (Instr.slice 26 (.slice ab kb cb) none (some (.int .i64 (sy : Int))) none).run Try.prog W = .ok (.slice ab sy cb) W := fun W => slice_head (by omega) HA3.out.row.2.1 HA3.out.row.2.2 HA3.out.row.1.2.2 _ (by omega)
              go_wp2_with fail
              refine H3.out.mono ?_
              rintro e w4 ⟨rfl, hA4, hbx4⟩
              have HA4 : Hid (At w w4 tp (bl.take sy) sy r (.slice ab sy cb)) := hA4
              obtain ⟨d0, d1, d2⟩ := hbx4.cells
              clear hA4 hbx4 H3 HA3 HB3 b0 b1 b2
              go_wp2_with fail
              obtain ⟨O, cB, hB, hY⟩ := (HA4.out).tail
              go_region_held (fun W => (Below w4.heap.size w4 W ∧ (convert 26 9 (.slice ab sy cb)).run Try.prog W = .ok (.string O) W)) (first | assumption | exact ⟨(Below.refl _ _).drew, cB⟩)
                (first | (go_at_call 14; refine (hB.out _ (by assumption)).mono ?_; rintro e w6 ⟨a6, k6, cap6, rfl, hc6, hS6⟩) | (go_at_call 15; refine (hY.out _ (by assumption)).mono ?_; rintro e w7 ⟨rfl, rfl⟩))
              all_goals
                have HL : Hid (At w w7 tp (bl.take sy) sy r (.slice ab sy cb)) := (HA4.out).later hS6.1
                clear hS6 cB hB hY hc6
                go_wp2
                go_roundw
                case rel => exact ⟨j + 1, sy, (bl.take sy), r, ab, sy, cb, by omega, by omega, by go_num, rfl, rfl, (by have := HBL.out; rw [List.length_take]; omega), HL.out⟩
                case measure => simp [intOf]; omega
            · obtain rfl : sy = kb := by omega
              have H3 : Hid (Calls Try.prog 11 #[.pointer (some ⟨tp, 0, none⟩), .int .i64 m] w3 fun e w' => e = .returned (.tuple #[]) ∧ At w w' tp bl sy r (.slice ab sy cb) ∧ Box w' wr.heap.size c m (.slice da dk dc) tp r) := by
                refine (crash_st HM.out HA3.out.1).mono ?_
                rintro e w' ⟨rfl, hs, ht⟩
                have hst : stay bl sy m = sy := by unfold stay; have := HKB.out; omega
                rw [hst] at hs
                obtain ⟨g1, g2, g3⟩ := HA3.out.turns hs ht
                refine ⟨rfl, ?_, HB3.out.turns ht⟩
                rw [List.take_of_length_le (by rw [← HKB.out]; exact Nat.le_refl _)] at g1; exact ⟨g1, g2, g3⟩
              go_wp2_with fail
              refine H3.out.mono ?_
              rintro e w4 ⟨rfl, hA4, hbx4⟩
              have HA4 : Hid (At w w4 tp bl sy r (.slice ab sy cb)) := hA4
              obtain ⟨d0, d1, d2⟩ := hbx4.cells
              clear hA4 hbx4 H3 HA3 HB3 b0 b1 b2
              go_wp2_with fail
              obtain ⟨O, cB, hB, hY⟩ := (HA4.out).tail
              go_region_held (fun W => (Below w4.heap.size w4 W ∧ (convert 26 9 (.slice ab sy cb)).run Try.prog W = .ok (.string O) W)) (first | assumption | exact ⟨(Below.refl _ _).drew, cB⟩)
                (first | (go_at_call 14; refine (hB.out _ (by assumption)).mono ?_; rintro e w6 ⟨a6, k6, cap6, rfl, hc6, hS6⟩) | (go_at_call 15; refine (hY.out _ (by assumption)).mono ?_; rintro e w7 ⟨rfl, rfl⟩))
              all_goals
                have HL : Hid (At w w7 tp bl sy r (.slice ab sy cb)) := (HA4.out).later hS6.1
                clear hS6 cB hB hY hc6
                go_wp2
                go_roundw
                case rel => exact ⟨j + 1, sy, bl, r, ab, sy, cb, by omega, by omega, by go_num, rfl, rfl, (by have := HBL.out; omega), HL.out⟩
                case measure => simp [intOf]; omega
          · obtain ⟨n0, rfl⟩ : ∃ n0 : Nat, m = (n0 : Int) := ⟨m.toNat, by omega⟩
            rcases Nat.lt_or_ge n0 (kb - sy) with hlt3 | hge3
            · obtain ⟨K, hK⟩ : ∃ K, K = sy + n0 := ⟨_, rfl⟩
              have HKK : Hid (K = sy + n0) := hK
              have hKb : K ≤ kb := by omega
              have s1 : ∀ W, (Instr.slice 26 (.slice ab kb cb) none (some (.int .i64 ((sy : Int) + (n0 : Int)))) none).run Try.prog W = .ok (.slice ab K cb) W := fun W => slice_head (by omega) HA3.out.row.2.1 HA3.out.row.2.2 HA3.out.row.1.2.2 _ (by omega)
              clear hK
              have H3 : Hid (Calls Try.prog 11 #[.pointer (some ⟨tp, 0, none⟩), .int .i64 (n0 : Int)] w3 fun e w' => e = .returned (.tuple #[]) ∧ At w w' tp (bl.take K) K r (.slice ab K cb) ∧ Box w' wr.heap.size c (n0 : Int) (.slice da dk dc) tp r) := by
                refine (crash_st HM.out HA3.out.1).mono ?_
                rintro e w' ⟨rfl, hs, ht⟩
                have hst : stay bl sy (n0 : Int) = K := stay_few HKB.out (by have := HKK.out; omega) (by omega)
                rw [hst] at hs
                obtain ⟨g1, g2, g3⟩ := HA3.out.turns hs ht
                refine ⟨rfl, ?_, HB3.out.turns ht⟩
                exact ⟨g1, g2.take (by rw [← HKB.out]; omega), fun k hk => g3 k (by cases ab <;> exact hk)⟩
              go_wp2_with fail
              refine H3.out.mono ?_
              rintro e w4 ⟨rfl, hA4, hbx4⟩
              have HA4 : Hid (At w w4 tp (bl.take K) K r (.slice ab K cb)) := hA4
              obtain ⟨d0, d1, d2⟩ := hbx4.cells
              clear hA4 hbx4 H3 HA3 HB3 b0 b1 b2
              go_wp2_with fail
              obtain ⟨O, cB, hB, hY⟩ := (HA4.out).tail
              go_region_held (fun W => (Below w4.heap.size w4 W ∧ (convert 26 9 (.slice ab K cb)).run Try.prog W = .ok (.string O) W)) (first | assumption | exact ⟨(Below.refl _ _).drew, cB⟩)
                (first | (go_at_call 14; refine (hB.out _ (by assumption)).mono ?_; rintro e w6 ⟨a6, k6, cap6, rfl, hc6, hS6⟩) | (go_at_call 15; refine (hY.out _ (by assumption)).mono ?_; rintro e w7 ⟨rfl, rfl⟩))
              all_goals
                have HL : Hid (At w w7 tp (bl.take K) K r (.slice ab K cb)) := (HA4.out).later hS6.1
                clear hS6 cB hB hY hc6
                go_wp2
                go_roundw
                case rel => exact ⟨j + 1, K, (bl.take K), r, ab, K, cb, by omega, by omega, by go_num, rfl, rfl, (by have := HBL.out; rw [List.length_take]; omega), HL.out⟩
                case measure => simp [intOf]; omega
            · have H3 : Hid (Calls Try.prog 11 #[.pointer (some ⟨tp, 0, none⟩), .int .i64 (n0 : Int)] w3 fun e w' => e = .returned (.tuple #[]) ∧ At w w' tp bl kb r (.slice ab kb cb) ∧ Box w' wr.heap.size c (n0 : Int) (.slice da dk dc) tp r) := by
                refine (crash_st HM.out HA3.out.1).mono ?_
                rintro e w' ⟨rfl, hs, ht⟩
                have hst : stay bl sy (n0 : Int) = kb := stay_full HKB.out HSY.out (by omega)
                rw [hst] at hs
                obtain ⟨g1, g2, g3⟩ := HA3.out.turns hs ht
                refine ⟨rfl, ?_, HB3.out.turns ht⟩
                rw [List.take_of_length_le (by rw [← HKB.out]; exact Nat.le_refl _)] at g1; exact ⟨g1, g2, g3⟩
              go_wp2_with fail
              refine H3.out.mono ?_
              rintro e w4 ⟨rfl, hA4, hbx4⟩
              have HA4 : Hid (At w w4 tp bl kb r (.slice ab kb cb)) := hA4
              obtain ⟨d0, d1, d2⟩ := hbx4.cells
              clear hA4 hbx4 H3 HA3 HB3 b0 b1 b2
              go_wp2_with fail
              obtain ⟨O, cB, hB, hY⟩ := (HA4.out).tail
              go_region_held (fun W => (Below w4.heap.size w4 W ∧ (convert 26 9 (.slice ab kb cb)).run Try.prog W = .ok (.string O) W)) (first | assumption | exact ⟨(Below.refl _ _).drew, cB⟩)
                (first | (go_at_call 14; refine (hB.out _ (by assumption)).mono ?_; rintro e w6 ⟨a6, k6, cap6, rfl, hc6, hS6⟩) | (go_at_call 15; refine (hY.out _ (by assumption)).mono ?_; rintro e w7 ⟨rfl, rfl⟩))
              all_goals
                have HL : Hid (At w w7 tp bl kb r (.slice ab kb cb)) := (HA4.out).later hS6.1
                clear hS6 cB hB hY hc6
                go_wp2
                go_roundw
                case rel => exact ⟨j + 1, kb, bl, r, ab, kb, cb, by omega, by omega, by go_num, rfl, rfl, (by have := HBL.out; omega), HL.out⟩
                case measure => simp [intOf]; omega
        · have hne := neErr
          by_cases hin : 0 ≤ m ∧ m ≤ (kb : Int)
          · obtain ⟨n0, rfl⟩ : ∃ n0 : Nat, m = (n0 : Int) := ⟨m.toNat, by omega⟩
            have hn0 : n0 ≤ kb := by omega
            clear hin
            have s1 : ∀ W, (Instr.slice 26 (.slice ab kb cb) none (some (.int .i64 (n0 : Int))) none).run Try.prog W = .ok (.slice ab n0 cb) W := fun W => slice_head (by omega) HA3.out.row.2.1 HA3.out.row.2.2 HA3.out.row.1.2.2 _ (by omega)
            have H3 : Hid (Calls Try.prog 12 #[.pointer (some ⟨tp, 0, none⟩), .int .i64 (n0 : Int)] w3 fun e w' => e = .returned .nilIface ∧ At w w' tp (bl.take n0) n0 r (.slice ab n0 cb) ∧ Box w' wr.heap.size c (n0 : Int) (.slice da dk dc) tp r) := by
              refine (cut_st (by rw [← HKB.out]; exact hn0) HA3.out.1).mono ?_
              rintro e w' ⟨rfl, hs, ht⟩
              obtain ⟨g1, g2, g3⟩ := HA3.out.turns hs ht
              refine ⟨rfl, ?_, HB3.out.turns ht⟩
              exact ⟨g1, g2.take (by rw [← HKB.out]; omega), fun k hk => g3 k (by cases ab <;> exact hk)⟩
            go_wp2_with fail
            refine H3.out.mono ?_
            rintro e w4 ⟨rfl, hA4, hbx4⟩
            have HA4 : Hid (At w w4 tp (bl.take n0) n0 r (.slice ab n0 cb)) := hA4
            obtain ⟨d0, d1, d2⟩ := hbx4.cells
            clear hA4 hbx4 H3 HA3 HB3 b0 b1 b2
            go_wp2_with fail
            obtain ⟨O, cB, hB, hY⟩ := (HA4.out).tail
            go_region_held (fun W => (Below w4.heap.size w4 W ∧ (convert 26 9 (.slice ab n0 cb)).run Try.prog W = .ok (.string O) W)) (first | assumption | exact ⟨(Below.refl _ _).drew, cB⟩)
              (first | (go_at_call 14; refine (hB.out _ (by assumption)).mono ?_; rintro e w6 ⟨a6, k6, cap6, rfl, hc6, hS6⟩) | (go_at_call 15; refine (hY.out _ (by assumption)).mono ?_; rintro e w7 ⟨rfl, rfl⟩))
            all_goals
              have HL : Hid (At w w7 tp (bl.take n0) n0 r (.slice ab n0 cb)) := (HA4.out).later hS6.1
              clear hS6 cB hB hY hc6
              go_wp2
              go_roundw
              case rel => exact ⟨j + 1, n0, (bl.take n0), r, ab, n0, cb, by omega, by omega, by go_num, rfl, rfl, (by have := HBL.out; rw [List.length_take]; omega), HL.out⟩
              case measure => simp [intOf]; omega
          · have hout : m < 0 ∨ (0 ≤ m ∧ (kb : Int) < m) := by omega
            clear hin
            rcases hout with hneg | ⟨hpos, hgt⟩
            all_goals
              have H3 : Hid (Calls Try.prog 12 #[.pointer (some ⟨tp, 0, none⟩), .int .i64 m] w3 fun e w' => e = .returned (.iface 34 (.int .i64 1)) ∧ At w w' tp bl sy r (.slice ab kb cb) ∧ Box w' wr.heap.size c m (.slice da dk dc) tp r) := by
                refine (cut_no (by rw [← HKB.out]; omega) HM.out.1 HM.out.2 HA3.out.1.1).mono ?_
                rintro e w' ⟨rfl, rfl⟩
                exact ⟨rfl, HA3.out, HB3.out⟩
              go_wp2_with fail
              refine H3.out.mono ?_
              rintro e w4 ⟨rfl, hA4, hbx4⟩
              have HA4 : Hid (At w w4 tp bl sy r (.slice ab kb cb)) := hA4
              obtain ⟨d0, d1, d2⟩ := hbx4.cells
              clear hA4 hbx4 H3 HA3 HB3 b0 b1 b2
              go_wp2_with fail
              obtain ⟨O, cB, hB, hY⟩ := (HA4.out).tail
              go_region_held (fun W => (Below w4.heap.size w4 W ∧ (convert 26 9 (.slice ab kb cb)).run Try.prog W = .ok (.string O) W)) (first | assumption | exact ⟨(Below.refl _ _).drew, cB⟩)
                (first | (go_at_call 14; refine (hB.out _ (by assumption)).mono ?_; rintro e w6 ⟨a6, k6, cap6, rfl, hc6, hS6⟩) | (go_at_call 15; refine (hY.out _ (by assumption)).mono ?_; rintro e w7 ⟨rfl, rfl⟩))
              all_goals
                have HL : Hid (At w w7 tp bl sy r (.slice ab kb cb)) := (HA4.out).later hS6.1
                clear hS6 cB hB hY hc6
                go_wp2
                go_roundw
                case rel => exact ⟨j + 1, sy, bl, r, ab, kb, cb, by omega, by omega, by go_num, rfl, rfl, (by have := HBL.out; omega), HL.out⟩
                case measure => simp [intOf]; omega
        · have H3 : Hid (Calls Try.prog 13 #[.pointer (some ⟨tp, 0, none⟩), .slice da dk dc] w3 fun e w' => e = .returned .nilIface ∧ ∃ r', (St w w' tp (bl ++ dl) sy r' ∧ Row w.heap.size w' (.slice ab kb cb) bl ∧ Apart (.slice ab kb cb) tp r') ∧ Box w' wr.heap.size c m (.slice da dk dc) tp r') := by
            refine (append_st HA3.out.1 HDL.out.1 (HDL.out.2.1.below HA3.out.1.2 (Nat.le_refl _)) HDL.out.2.2 (by have h1 := HKB.out; have h2 := HDL.out.1.out; omega)).mono ?_
            rintro e w' ⟨rfl, r', hs, ht⟩
            exact ⟨rfl, r', HA3.out.turns hs ht, HB3.out.turns ht⟩
          go_wp2_with fail
          refine H3.out.mono ?_
          rintro e w4 ⟨rfl, r4, ⟨hs4, hr4, _⟩, hbx4⟩
          have HS4 : Hid (St w w4 tp (bl ++ dl) sy r4) := hs4
          have HR4 : Hid (∀ W, Below w4.heap.size w4 W → BytesIn W ab kb cb bl) := fun W hW => by
            obtain ⟨a', k', cap', hv, hk, _, _, h3, h4, _⟩ := (hr4.below hW (Nat.le_refl _)).form
            simp only [Value.slice.injEq] at hv
            obtain ⟨rfl, rfl, rfl⟩ := hv
            exact ⟨hk, h3, h4⟩
          have HD4 : Hid (∀ W, Below w4.heap.size w4 W → BytesIn W da dk dc dl) := fun W hW => HDL.out.below (HS4.out.later hW).2 (Nat.le_refl _)
          obtain ⟨_, _, d2⟩ := hbx4.cells
          have hS0 : (Below w4.heap.size w4 w4.drew ∧ w4.drew.cell? ⟨wr.heap.size, 2, none⟩ = some (.slice da dk dc)) := ⟨(Below.refl _ _).drew, d2⟩
          have HK : Hid (∀ W, Below w4.heap.size w4 W → Below w4.heap.size w4 W ∧ W.cell? ⟨wr.heap.size, 2, none⟩ = some (.slice da dk dc)) := fun W hW => ⟨hW, cell_below hW (Nat.le_refl _) d2⟩
          have hR0 : Row w4.heap.size (w4.drew.alloc (.cells #[] 5)) (.slice (some ⟨w4.heap.size, 0, none⟩) 0 0) [] := Row.made w4.heap.size w4.drew (Nat.le_refl _)
          have hB0 : Below w4.heap.size w4 (w4.drew.alloc (.cells #[] 5)) := (Below.refl _ _).drew.alloc (Nat.le_refl _) _
          have hl1 : ([] : List UInt8).length + kb ≤ 140737488355328 := by simp; omega
          have hl2 : ([] ++ bl).length + dk ≤ 140737488355328 := by rw [List.nil_append, ← HKB.out]; omega
          clear hs4 hr4 hbx4 H3 HA3 HB3 b0 b1 b2
          go_wp2_with fail
          go_region_held3 (fun W => (Below w4.heap.size w4 W ∧ W.cell? ⟨wr.heap.size, 2, none⟩ = some (.slice da dk dc)))
            (first | assumption | exact HK.out _ hB0)
            (first
              | (refine step_grow (by rfl) (.tmp 44) (.tmp 45) (by rfl) w4.heap.size (.slice (some ⟨w4.heap.size, 0, none⟩) 0 0) [] (by rfl) hR0 hB0.size bl ab kb cb (by rfl) (HR4.out _ hB0) hl1 ?_; intro v9 w9 hr9 hg9 _; have hb9 : Below w4.heap.size w4 w9 := hB0.grown hg9 hB0.size (fun k hk => by simp [Value.ownBlock] at hk; omega); have hS9 := HK.out _ hb9)
              | (refine step_grow (by rfl) (.tmp 46) (.tmp 48) (by rfl) w4.heap.size v9 ([] ++ bl) (by rfl) hr9 hb9.size dl da dk dc (by rfl) (HD4.out _ hb9) hl2 ?_; intro v10 w10 hr10 hg10 _; have hb10 : Below w4.heap.size w4 w10 := hb9.grown hg10 hb9.size (fun k hk => (hr9.lt k hk).1); have hS10 := HK.out _ hb10; obtain ⟨a10, k10, c10, rfl, hf10⟩ := hr10.form))
          all_goals
            have HA5 : Hid (At w w10 tp (bl ++ dl) sy r4 (.slice a10 k10 c10)) := by
              rw [List.nil_append] at hr10
              exact ⟨HS4.out.later hb10, hr10.mono HS4.out.2.size, HS4.out.1.apart hr10 (Nat.le_refl _)⟩
            have HLL : Hid (dk = dl.length) := HDL.out.1
            clear hr10 hg10 hb10 hS10 hf10 hr9 hg9 hb9 hS9 hR0 hB0 hS0 hl1 hl2 HR4 HD4 HK d2
            go_wp2_with fail
            obtain ⟨O, cB, hB, hY⟩ := (HA5.out).tail
            go_region_held (fun W => (Below w10.heap.size w10 W ∧ (convert 26 9 (.slice a10 k10 c10)).run Try.prog W = .ok (.string O) W)) (first | assumption | exact ⟨(Below.refl _ _).drew, cB⟩)
              (first | (go_at_call 14; refine (hB.out _ (by assumption)).mono ?_; rintro e w6 ⟨a6, k6, cap6, rfl, hc6, hS6⟩) | (go_at_call 15; refine (hY.out _ (by assumption)).mono ?_; rintro e w7 ⟨rfl, rfl⟩))
            all_goals
              have HL : Hid (At w w7 tp (bl ++ dl) sy r4 (.slice a10 k10 c10)) := (HA5.out).later hS6.1
              clear hS6 cB hB hY hc6
              go_wp2
              go_roundw
              case rel => exact ⟨j + 1, sy, (bl ++ dl), r4, a10, k10, c10, by omega, by omega, by go_num, rfl, rfl, (by have h1 := HBL.out; have h2 := HLL.out; rw [List.length_append]; omega), HL.out⟩
              case measure => simp [intOf]; omega
        · have H3 : Hid (Calls Try.prog 13 #[.pointer (some ⟨tp, 0, none⟩), .slice da dk dc] w3 fun e w' => e = .returned .nilIface ∧ ∃ r', (St w w' tp (bl ++ dl) sy r' ∧ Row w.heap.size w' (.slice ab kb cb) bl ∧ Apart (.slice ab kb cb) tp r') ∧ Box w' wr.heap.size c m (.slice da dk dc) tp r') := by
            refine (append_st HA3.out.1 HDL.out.1 (HDL.out.2.1.below HA3.out.1.2 (Nat.le_refl _)) HDL.out.2.2 (by have h1 := HKB.out; have h2 := HDL.out.1.out; omega)).mono ?_
            rintro e w' ⟨rfl, r', hs, ht⟩
            exact ⟨rfl, r', HA3.out.turns hs ht, HB3.out.turns ht⟩
          go_wp2_with fail
          refine H3.out.mono ?_
          rintro e w4 ⟨rfl, r4, ⟨hs4, hr4, _⟩, hbx4⟩
          have HS4 : Hid (St w w4 tp (bl ++ dl) sy r4) := hs4
          have HR4 : Hid (∀ W, Below w4.heap.size w4 W → BytesIn W ab kb cb bl) := fun W hW => by
            obtain ⟨a', k', cap', hv, hk, _, _, h3, h4, _⟩ := (hr4.below hW (Nat.le_refl _)).form
            simp only [Value.slice.injEq] at hv
            obtain ⟨rfl, rfl, rfl⟩ := hv
            exact ⟨hk, h3, h4⟩
          have HD4 : Hid (∀ W, Below w4.heap.size w4 W → BytesIn W da dk dc dl) := fun W hW => HDL.out.below (HS4.out.later hW).2 (Nat.le_refl _)
          obtain ⟨_, _, d2⟩ := hbx4.cells
          have hS0 : (Below w4.heap.size w4 w4.drew ∧ w4.drew.cell? ⟨wr.heap.size, 2, none⟩ = some (.slice da dk dc)) := ⟨(Below.refl _ _).drew, d2⟩
          have HK : Hid (∀ W, Below w4.heap.size w4 W → Below w4.heap.size w4 W ∧ W.cell? ⟨wr.heap.size, 2, none⟩ = some (.slice da dk dc)) := fun W hW => ⟨hW, cell_below hW (Nat.le_refl _) d2⟩
          have hR0 : Row w4.heap.size (w4.drew.alloc (.cells #[] 5)) (.slice (some ⟨w4.heap.size, 0, none⟩) 0 0) [] := Row.made w4.heap.size w4.drew (Nat.le_refl _)
          have hB0 : Below w4.heap.size w4 (w4.drew.alloc (.cells #[] 5)) := (Below.refl _ _).drew.alloc (Nat.le_refl _) _
          have hl1 : ([] : List UInt8).length + kb ≤ 140737488355328 := by simp; omega
          have hl2 : ([] ++ bl).length + dk ≤ 140737488355328 := by rw [List.nil_append, ← HKB.out]; omega
          clear hs4 hr4 hbx4 H3 HA3 HB3 b0 b1 b2
          go_wp2_with fail
          go_region_held3 (fun W => (Below w4.heap.size w4 W ∧ W.cell? ⟨wr.heap.size, 2, none⟩ = some (.slice da dk dc)))
            (first | assumption | exact HK.out _ hB0)
            (first
              | (refine step_grow (by rfl) (.tmp 44) (.tmp 45) (by rfl) w4.heap.size (.slice (some ⟨w4.heap.size, 0, none⟩) 0 0) [] (by rfl) hR0 hB0.size bl ab kb cb (by rfl) (HR4.out _ hB0) hl1 ?_; intro v9 w9 hr9 hg9 _; have hb9 : Below w4.heap.size w4 w9 := hB0.grown hg9 hB0.size (fun k hk => by simp [Value.ownBlock] at hk; omega); have hS9 := HK.out _ hb9)
              | (refine step_grow (by rfl) (.tmp 46) (.tmp 48) (by rfl) w4.heap.size v9 ([] ++ bl) (by rfl) hr9 hb9.size dl da dk dc (by rfl) (HD4.out _ hb9) hl2 ?_; intro v10 w10 hr10 hg10 _; have hb10 : Below w4.heap.size w4 w10 := hb9.grown hg10 hb9.size (fun k hk => (hr9.lt k hk).1); have hS10 := HK.out _ hb10; obtain ⟨a10, k10, c10, rfl, hf10⟩ := hr10.form))
          all_goals
            have HA5 : Hid (At w w10 tp (bl ++ dl) sy r4 (.slice a10 k10 c10)) := by
              rw [List.nil_append] at hr10
              exact ⟨HS4.out.later hb10, hr10.mono HS4.out.2.size, HS4.out.1.apart hr10 (Nat.le_refl _)⟩
            have HLL : Hid (dk = dl.length) := HDL.out.1
            clear hr10 hg10 hb10 hS10 hf10 hr9 hg9 hb9 hS9 hR0 hB0 hS0 hl1 hl2 HR4 HD4 HK d2
            go_wp2_with fail
            obtain ⟨O, cB, hB, hY⟩ := (HA5.out).tail
            go_region_held (fun W => (Below w10.heap.size w10 W ∧ (convert 26 9 (.slice a10 k10 c10)).run Try.prog W = .ok (.string O) W)) (first | assumption | exact ⟨(Below.refl _ _).drew, cB⟩)
              (first | (go_at_call 14; refine (hB.out _ (by assumption)).mono ?_; rintro e w6 ⟨a6, k6, cap6, rfl, hc6, hS6⟩) | (go_at_call 15; refine (hY.out _ (by assumption)).mono ?_; rintro e w7 ⟨rfl, rfl⟩))
            all_goals
              have HL : Hid (At w w7 tp (bl ++ dl) sy r4 (.slice a10 k10 c10)) := (HA5.out).later hS6.1
              clear hS6 cB hB hY hc6
              go_wp2
              go_roundw
              case rel => exact ⟨j + 1, sy, (bl ++ dl), r4, a10, k10, c10, by omega, by omega, by go_num, rfl, rfl, (by have h1 := HBL.out; have h2 := HLL.out; rw [List.length_append]; omega), HL.out⟩
              case measure => simp [intOf]; omega
      · go_wp2
        go_ret
        exact ⟨rfl, HE.out.trans ((Below.refl _ _).alloc HE.out.size _)⟩
    · by_cases hjn : j < n
      · have hj100 : 100 ≤ j := by omega
        clear hlt
        go_wp2
        go_ret
        exact ⟨rfl, HE.out⟩
      · clear hlt
        go_wp2
        go_ret
        exact ⟨rfl, HE.out⟩

theorem tapePlays_walk (a : Option Addr) (n cap : Nat) (w : World) (h : DeedsIn w a n ∧ n ≤ maxLen) :
    Calls Try.prog 3 #[.slice a n cap] w fun e w' => e = .returned (.bool true) ∧ Below w.heap.size w w' := tapePlays_core a n cap w h.1
end Go.Proofs.Ytjoidfigdgpedaa
