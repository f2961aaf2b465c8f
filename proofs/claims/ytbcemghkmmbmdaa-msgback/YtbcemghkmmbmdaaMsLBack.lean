/-
  The walk of MsgBack.
-/
import Derived.Test.YtbcemghkmmbmdaaMsMem2
import Derived.Test.YtbcemghkmmbmdaaArgs
namespace Go.Proofs.Ytbcemghkmmbmdaa.Msg
open Go.RowKit Route Order

theorem bNil (w : World) : (binOp .eql 29 (.iface 34 (.int .i64 1)) .nilIface).run Try.prog w = .ok (.bool false) w := by kernel_rfl
theorem bNeNil (w : World) : (binOp .neq 29 .nilIface .nilIface).run Try.prog w = .ok (.bool false) w := by kernel_rfl
theorem bForm (w : World) : (binOp .neq 29 (.iface 34 (.int .i64 2)) .nilIface).run Try.prog w = .ok (.bool true) w := by kernel_rfl
theorem bForm2 (w : World) : (binOp .neq 29 (.iface 34 (.int .i64 2)) (.iface 34 (.int .i64 2))).run Try.prog w = .ok (.bool false) w := by kernel_rfl
theorem bSizes {m : Ms} (h : ShM m) : m.p.length ≤ 1000000 ∧ (∀ e ∈ m.p, e.2.2.2.length ≤ 1000000000) ∧ m.c.length ≤ 1000000 ∧ ∀ e ∈ m.c, e.2.2.length ≤ 1000000000 ∧ ∀ x ∈ e.2.2, x.2.2.2.length ≤ 1000000000 :=
  ⟨by have := h.1.1; omega, fun e he => by have := (h.1.2 e he).2; omega, by have := h.2.2.1; omega, fun e he => ⟨by have := (h.2.2.2 e he).1; omega, fun x hx => by have := ((h.2.2.2 e he).2 x hx).2; omega⟩⟩

set_option maxHeartbeats 16000000 in
set_option maxRecDepth 100000 in
theorem back_core (m : Ms) (a : Option Addr) (n c : Nat) (b : Option Addr) (u d : Nat) (ab : Option Addr) (l : List UInt8) (nb capb : Nat) (y : UInt8) (w : World) (hM : MsIn w m a n b u) (hn : nb = l.length) (hl : Go.Proofs.Ytbcemghkmmbmdaa.Lies w ab l) (hnc : nb ≤ capb) (hcm : capb ≤ maxLen) (hnb : nb ≤ 9223372036854775807) :
    Calls Try.prog 5 #[.agg (msV m a n c b u d), .slice ab nb capb, .int .u8 (y.toNat : Int)] w fun e w' => e = .returned (.bool true) ∧ Below w.heap.size w w' := by
  obtain ⟨k, f, v, s, bd, pl, cl⟩ := m
  show Calls Try.prog 5 #[.agg #[.int .i64 k, .int .i64 f, .int .i64 v, .int .i64 s, .string bd, .slice a n c, .slice b u d], .slice ab nb capb, .int .u8 (y.toNat : Int)] w _
  obtain ⟨W1, hW1⟩ : ∃ W1, W1 = w.alloc (.cells #[.int .i64 k, .int .i64 f, .int .i64 v, .int .i64 s, .string bd, .slice a n c, .slice b u d] 25) := ⟨_, rfl⟩
  have HW1 : Hid (W1 = _) := hW1
  have hB1 : Below w.heap.size w W1 := by rw [hW1]; exact (Below.refl _ _).alloc (Nat.le_refl _) _
  have HB1 : Hid (Below w.heap.size w W1) := hB1
  have hbx : W1.heap[w.heap.size]? = some (.cells #[.int .i64 k, .int .i64 f, .int .i64 v, .int .i64 s, .string bd, .slice a n c, .slice b u d] 25 (0, 0)) := by rw [hW1]; exact heap_alloc_new w _
  have HX : Hid (∀ W, Below W1.heap.size W1 W → W.heap[w.heap.size]? = some (.cells #[.int .i64 k, .int .i64 f, .int .i64 v, .int .i64 s, .string bd, .slice a n c, .slice b u d] 25 (0, 0)) ∧ MsIn W ⟨k, f, v, s, bd, pl, cl⟩ a n b u) := fun W hb => ⟨box_stays hbx hb (Nat.le_refl _), (hM.below hB1 (Nat.le_refl _)).below hb (Nat.le_refl _)⟩
  have HL : Hid (∀ W, Below W1.heap.size W1 W → Go.Proofs.Ytbcemghkmmbmdaa.Lies W ab l) := fun W hb => Go.Proofs.Ytbcemghkmmbmdaa.Lies.below hl (hB1.trans (hb.mono hB1.size)) (Nat.le_refl _)
  have HFin : Hid (∀ W, Below W1.heap.size W1 W → Below w.heap.size w W) := fun W hb => HB1.out.trans (hb.mono HB1.out.size)
  have HN : Hid (nb = l.length) := hn
  have HCM : Hid (capb ≤ maxLen) := hcm
  have HU : Hid (Calls _ _ _ _ _) := up_any W1
  have q0 := ee0
  have q1 := bNil
  have q2 := bNeNil
  have q3 := bForm
  have q4 := bForm2
  clear hM hW1 hB1 hbx hn hl hcm
  go_enter Try.func5, Try.ntmps5
  go_wp2_with fail
  rw [← HW1.out]
  refine HU.out.mono ?_
  rintro e w2 ⟨rfl, hb2⟩
  have HB2 : Hid (Below W1.heap.size W1 w2) := hb2
  obtain ⟨y0, y1, y2, y3, y4, y5, y6⟩ := seven7 (HX.out _ hb2).1
  have HS : Hid (Calls _ _ _ _ _) := short_any ⟨k, f, v, s, bd, pl, cl⟩ a n c b u d w2 (HX.out _ hb2).2
  clear HU hb2
  go_wp2_with fail
  refine HS.out.mono ?_
  rintro e w3 ⟨r1, rfl, hsh, hb3⟩
  have HB3 : Hid (Below W1.heap.size W1 w3) := HB2.out.trans (hb3.mono HB2.out.size)
  have HSH1 : Hid (r1 = true → ShM ⟨k, f, v, s, bd, pl, cl⟩) := hsh
  clear hsh hb3 HS HB2
  clear y0 y1 y2 y3 y4 y5 y6
  obtain ⟨y0, y1, y2, y3, y4, y5, y6⟩ := seven7 (HX.out _ HB3.out).1
  cases r1 with
  | false =>
    go_wp2
    go_ret
    exact ⟨rfl, HFin.out _ HB3.out⟩
  | true =>
    have HM1 : Hid (ShM ⟨k, f, v, s, bd, pl, cl⟩) := HSH1.out (by first | rfl | trivial)
    clear HSH1
    by_cases hbig : 20000 < nb
    · go_wp2
      go_ret
      exact ⟨rfl, HFin.out _ HB3.out⟩
    · cases hm1 : mayB ⟨k, f, v, s, bd, pl, cl⟩ with
      | false =>
        have HP1 : Hid (Calls _ _ _ _ _) := put_no ⟨k, f, v, s, bd, pl, cl⟩ a n c b u d w3 (HX.out _ HB3.out).2 HM1.out.fit hm1
        clear hm1
        go_wp2_with fail
        refine HP1.out.mono ?_
        rintro e w4 ⟨rfl, hb4⟩
        have HB4 : Hid (Below W1.heap.size W1 w4) := HB3.out.trans (hb4.mono HB3.out.size)
        clear HP1 hb4 HB3
        clear y0 y1 y2 y3 y4 y5 y6
        as_aux_lemma =>
          by_cases hq : GetOk l
          · obtain ⟨r2, hm2, he2⟩ := getOk_of hq
            have G1 : Hid (Calls _ _ _ _ _) := get_ok (w := _) r2 hm2 he2 HN.out (HL.out _ HB4.out) (by omega) hnc HCM.out
            clear hq
            go_wp2_with fail
            refine G1.out.mono ?_
            rintro e w20 ⟨pa, pn, pc, ca, cn, cc, rfl, hh⟩
            obtain ⟨hk20, hb20⟩ := hh.out
            have BX20 : Hid (Below W1.heap.size W1 w20) := HB4.out.trans (hb20.mono HB4.out.size)
            have hbA : Below w20.heap.size w20 (w20.alloc (.cells (msV r2 pa pn pc ca cn cc) 25)) := (Below.refl _ _).alloc (Nat.le_refl _) _
            have P1 : Hid (Calls _ _ _ _ _) := put_ok r2 pa pn pc ca cn cc _ (hk20.below hbA (Nat.le_refl _)) hm2
            have BXA : Hid (Below W1.heap.size W1 (w20.alloc (.cells (msV r2 pa pn pc ca cn cc) 25))) := BX20.out.trans (hbA.mono BX20.out.size)
            have hbx : (w20.alloc (.cells (msV r2 pa pn pc ca cn cc) 25)).heap[w20.heap.size]? = _ := heap_alloc_new _ _
            clear G1 hh hk20 hb20 hbA
            go_wp2_with fail
            refine P1.out.mono ?_
            rintro e w21 ⟨v21, rfl, hb21⟩
            obtain ⟨a21, k21, c21, rfl, hk21, _, _, hl21, _⟩ := hb21.words
            have BX21 : Hid (Below W1.heap.size W1 w21) := BXA.out.trans (hb21.2.1.mono BXA.out.size)
            obtain ⟨D, hD⟩ : ∃ D : ByteArray, D = ⟨(encM r2).toArray⟩ := ⟨_, rfl⟩
            have cv1 := conv_at (cap := c21) hl21 hk21.out hD
            have cv2 : (convert 31 9 (.slice ab nb capb)).run Try.prog w21 = .ok (.string D) w21 := by
              have := conv_at (cap := capb) (HL.out _ BX21.out) HN.out (O := D) (by rw [hD, he2])
              exact this
            clear hD hb21 hl21 P1 BXA BX20 hbx
            go_wp2
            go_ret
            exact ⟨rfl, HFin.out _ BX21.out⟩
          · have G1 : Hid (Calls _ _ _ _ _) := get_no (w := _) hq HN.out (HL.out _ HB4.out) (by omega) hnc HCM.out
            clear hq
            go_wp2_with fail
            refine G1.out.mono ?_
            rintro e w20 ⟨rfl, hb20⟩
            have BX20 : Hid (Below W1.heap.size W1 w20) := HB4.out.trans (hb20.mono HB4.out.size)
            have hbA : Below w20.heap.size w20 (w20.alloc (.cells zeroM 25)) := (Below.refl _ _).alloc (Nat.le_refl _) _
            have BXA : Hid (Below W1.heap.size W1 (w20.alloc (.cells zeroM 25))) := BX20.out.trans (hbA.mono BX20.out.size)
            clear G1 hb20 hbA BX20
            go_wp2
            go_ret
            exact ⟨rfl, HFin.out _ BXA.out⟩
      | true =>
        have HK1 : Hid (MsOk ⟨k, f, v, s, bd, pl, cl⟩) := mayB_iff.1 hm1
        have HP1 : Hid (Calls _ _ _ _ _) := put_ok ⟨k, f, v, s, bd, pl, cl⟩ a n c b u d w3 (HX.out _ HB3.out).2 HK1.out
        clear hm1
        go_wp2_with fail
        refine HP1.out.mono ?_
        rintro e w4 ⟨v4, rfl, hb4⟩
        obtain ⟨a4, k4, c4, rfl, hk4, hkc4, hcm4, hl4, hg4⟩ := hb4.words
        have HB4 : Hid (Below W1.heap.size W1 w4) := HB3.out.trans (hb4.2.1.mono HB3.out.size)
        have HL4 : Hid (Go.Proofs.Ytbcemghkmmbmdaa.Lies w4 a4 (encM ⟨k, f, v, s, bd, pl, cl⟩)) := hl4
        have HK4 : Hid (k4 = (encM ⟨k, f, v, s, bd, pl, cl⟩).length) := hk4
        have hk40 : k4 ≤ 10000000 := by rw [hk4.out]; exact encM_few HK1.out
        have HC4 : Hid (c4 ≤ maxLen) := hcm4
        have hk41 : 0 < k4 := by
          rw [hk4.out]
          have := digs_pos (k : Int).toNat
          simp only [encM, List.length_append]; omega
        obtain ⟨g4, rfl, _⟩ := hg4 hk41
        have G4 : Hid (Calls _ _ _ _ _) := get_ok (w := w4) ⟨k, f, v, s, bd, pl, cl⟩ HK1.out rfl hk4.out hl4 (by omega) hkc4 hcm4
        clear y0 y1 y2 y3 y4 y5 y6 hb4 hl4 HB3 HP1 hk4 hg4 hcm4
        go_wp2_with fail
        refine G4.out.mono ?_
        rintro e w5 ⟨pa5, pn5, pc5, ca5, cn5, cc5, rfl, hh⟩
        obtain ⟨hk5, hb5⟩ := hh.out
        obtain ⟨W5, hW5⟩ : ∃ W5, W5 = w5.alloc (.cells (msV ⟨k, f, v, s, bd, pl, cl⟩ pa5 pn5 pc5 ca5 cn5 cc5) 25) := ⟨_, rfl⟩
        have hbA : Below w5.heap.size w5 W5 := by rw [hW5]; exact (Below.refl _ _).alloc (Nat.le_refl _) _
        have hz5 : W5.heap.size = w5.heap.size + 1 := by rw [hW5]; simp
        have HB5 : Hid (Below W1.heap.size W1 W5) := (HB4.out.trans (hb5.mono HB4.out.size)).trans (hbA.mono (Nat.le_trans HB4.out.size hb5.size))
        have HQ5 : Hid (W5.heap[w5.heap.size]? = some (.cells (msV ⟨k, f, v, s, bd, pl, cl⟩ pa5 pn5 pc5 ca5 cn5 cc5) 25 (0, 0))) := by rw [hW5]; exact heap_alloc_new w5 _
        have HK5 : Hid (MsIn W5 ⟨k, f, v, s, bd, pl, cl⟩ pa5 pn5 ca5 cn5) := hk5.below hbA (Nat.le_refl _)
        have HL5 : Hid (Go.Proofs.Ytbcemghkmmbmdaa.Lies (W5.alloc (.cells #[] 5)) (some ⟨g4, 0, none⟩) (encM ⟨k, f, v, s, bd, pl, cl⟩)) := Go.Proofs.Ytbcemghkmmbmdaa.Lies.below (Go.Proofs.Ytbcemghkmmbmdaa.Lies.below (Go.Proofs.Ytbcemghkmmbmdaa.Lies.below HL4.out hb5 (Nat.le_refl _)) hbA (Nat.le_refl _)) ((Below.refl _ _).alloc (Nat.le_refl _) _) (Nat.le_refl _)
        have HF5 : Hid (Buf W5.heap.size (.slice (some ⟨w5.heap.size + 1, 0, none⟩) 0 0) [] W5 (W5.alloc (.cells #[] 5))) := Buf.fresh W5 _ hz5.symm
        have hnil : (some ⟨g4, 0, none⟩ : Option Addr) = none → c4 = 0 := fun h => by cases h
        have hlen1 : ([] : List UInt8).length + k4 ≤ 140737488355328 := by rw [List.length_nil]; omega
        have hlen2 : ([] ++ encM ⟨k, f, v, s, bd, pl, cl⟩).length + 1 ≤ 140737488355328 := by rw [List.nil_append, ← HK4.out]; omega
        clear G4 hh hk5 hb5 hbA HL4 HB4 hz5
        subst hW5
        go_wp2_with (first | (at_builtin; refine wpList_bytes_any rfl (.tmp 43) (.tmp 44) rfl (w5.alloc (.cells (msV ⟨k, f, v, s, bd, pl, cl⟩ pa5 pn5 pc5 ca5 cn5 cc5) 25)).heap.size _ [] rfl (w5.alloc (.cells (msV ⟨k, f, v, s, bd, pl, cl⟩ pa5 pn5 pc5 ca5 cn5 cc5) 25)) HF5.out (encM ⟨k, f, v, s, bd, pl, cl⟩) _ k4 c4 rfl HK4.out HL5.out hnil hkc4 hlen1 ?_; intro v6 w6 hb6) | (at_builtin; refine wpList_byte rfl (.tmp 45) (.tmp 47) rfl (w5.alloc (.cells (msV ⟨k, f, v, s, bd, pl, cl⟩ pa5 pn5 pc5 ca5 cn5 cc5) 25)).heap.size _ ([] ++ encM ⟨k, f, v, s, bd, pl, cl⟩) rfl (w5.alloc (.cells (msV ⟨k, f, v, s, bd, pl, cl⟩ pa5 pn5 pc5 ca5 cn5 cc5) 25)) w6 _ y rfl hb6 rfl hlen2 ?_; intro v7 w7 hb7; obtain ⟨a7, k7, c7, rfl, hk7, hkc7, hcm7, hl7, _⟩ := hb7.words))
        have HB7 : Hid (Below W1.heap.size W1 w7) := HB5.out.trans (hb7.2.1.mono HB5.out.size)
        have HQ7 : Hid (w7.heap[w5.heap.size]? = some (.cells (msV ⟨k, f, v, s, bd, pl, cl⟩ pa5 pn5 pc5 ca5 cn5 cc5) 25 (0, 0))) := box_stays HQ5.out hb7.2.1 (Nat.le_refl _)
        have HK7 : Hid (MsIn w7 ⟨k, f, v, s, bd, pl, cl⟩ pa5 pn5 ca5 cn5) := HK5.out.below hb7.2.1 (Nat.le_refl _)
        have hk70 : k7 ≤ 100000000 := by rw [hk7.out, List.nil_append, List.length_append, ← HK4.out]; simp only [List.length_cons, List.length_nil]; omega
        have G7 : Hid (Calls _ _ _ _ _) := get_no (w := w7) (by rw [List.nil_append]; exact getOk_more HK1.out y) hk7.out hl7 hk70 hkc7 hcm7
        clear HB5 HQ5 HK5 HL5 HF5 hb6 hb7 hl7 hk7
        go_wp2_with fail
        refine G7.out.mono ?_
        rintro e w8 ⟨rfl, hb8⟩
        have HB8 : Hid (Below W1.heap.size W1 w8) := HB7.out.trans (hb8.mono HB7.out.size)
        have HQ8 : Hid (w8.heap[w5.heap.size]? = some (.cells (msV ⟨k, f, v, s, bd, pl, cl⟩ pa5 pn5 pc5 ca5 cn5 cc5) 25 (0, 0))) := box_stays HQ7.out hb8 (Nat.le_refl _)
        have HK8 : Hid (MsIn w8 ⟨k, f, v, s, bd, pl, cl⟩ pa5 pn5 ca5 cn5) := HK7.out.below hb8 (Nat.le_refl _)
        have hbB : Below w8.heap.size w8 (w8.alloc (.cells zeroM 25)) := (Below.refl _ _).alloc (Nat.le_refl _) _
        have HB9 : Hid (Below W1.heap.size W1 (w8.alloc (.cells zeroM 25))) := HB8.out.trans (hbB.mono HB8.out.size)
        have S8 : Hid (Calls _ _ _ _ _) := same_any ⟨k, f, v, s, bd, pl, cl⟩ ⟨k, f, v, s, bd, pl, cl⟩ pa5 pn5 pc5 ca5 cn5 cc5 a n c b u d (w8.alloc (.cells zeroM 25)) (HK8.out.below hbB (Nat.le_refl _)) (HX.out _ HB9.out).2 (bSizes HM1.out)
        have hx8 := (HX.out _ HB8.out).1
        have hq8 := HQ8.out
        obtain ⟨x0, x1, x2, x3, x4, x5, x6⟩ := seven7 hx8
        obtain ⟨y0, y1, y2, y3, y4, y5, y6⟩ := seven7 hq8
        have hz8 : w.heap.size < w8.heap.size := (Array.getElem?_eq_some_iff.1 hx8).1
        have hz9 : w5.heap.size < w8.heap.size := (Array.getElem?_eq_some_iff.1 hq8).1
        clear G7 hb8 hbB HB7 HQ7 HK7 hx8 hq8
        go_wp2_with fail
        refine S8.out.mono ?_
        rintro e w10 ⟨r10, rfl, hr10, hb10⟩
        have hr11 : r10 = true := hr10.2 rfl
        subst hr11
        have HB10 : Hid (Below W1.heap.size W1 w10) := HB9.out.trans (hb10.mono HB9.out.size)
        clear S8 hb10 HB9 HB8 HQ8 HK8 x0 x1 x2 x3 x4 x5 x6 y0 y1 y2 y3 y4 y5 y6 hr10
        as_aux_lemma =>
          by_cases hq : GetOk l
          · obtain ⟨r2, hm2, he2⟩ := getOk_of hq
            have G1 : Hid (Calls _ _ _ _ _) := get_ok (w := _) r2 hm2 he2 HN.out (HL.out _ HB10.out) (by omega) hnc HCM.out
            clear hq
            go_wp2_with fail
            refine G1.out.mono ?_
            rintro e w20 ⟨pa, pn, pc, ca, cn, cc, rfl, hh⟩
            obtain ⟨hk20, hb20⟩ := hh.out
            have BX20 : Hid (Below W1.heap.size W1 w20) := HB10.out.trans (hb20.mono HB10.out.size)
            have hbA : Below w20.heap.size w20 (w20.alloc (.cells (msV r2 pa pn pc ca cn cc) 25)) := (Below.refl _ _).alloc (Nat.le_refl _) _
            have P1 : Hid (Calls _ _ _ _ _) := put_ok r2 pa pn pc ca cn cc _ (hk20.below hbA (Nat.le_refl _)) hm2
            have BXA : Hid (Below W1.heap.size W1 (w20.alloc (.cells (msV r2 pa pn pc ca cn cc) 25))) := BX20.out.trans (hbA.mono BX20.out.size)
            have hbx : (w20.alloc (.cells (msV r2 pa pn pc ca cn cc) 25)).heap[w20.heap.size]? = _ := heap_alloc_new _ _
            clear G1 hh hk20 hb20 hbA
            go_wp2_with fail
            refine P1.out.mono ?_
            rintro e w21 ⟨v21, rfl, hb21⟩
            obtain ⟨a21, k21, c21, rfl, hk21, _, _, hl21, _⟩ := hb21.words
            have BX21 : Hid (Below W1.heap.size W1 w21) := BXA.out.trans (hb21.2.1.mono BXA.out.size)
            obtain ⟨D, hD⟩ : ∃ D : ByteArray, D = ⟨(encM r2).toArray⟩ := ⟨_, rfl⟩
            have cv1 := conv_at (cap := c21) hl21 hk21.out hD
            have cv2 : (convert 31 9 (.slice ab nb capb)).run Try.prog w21 = .ok (.string D) w21 := by
              have := conv_at (cap := capb) (HL.out _ BX21.out) HN.out (O := D) (by rw [hD, he2])
              exact this
            clear hD hb21 hl21 P1 BXA BX20 hbx
            go_wp2
            go_ret
            exact ⟨rfl, HFin.out _ BX21.out⟩
          · have G1 : Hid (Calls _ _ _ _ _) := get_no (w := _) hq HN.out (HL.out _ HB10.out) (by omega) hnc HCM.out
            clear hq
            go_wp2_with fail
            refine G1.out.mono ?_
            rintro e w20 ⟨rfl, hb20⟩
            have BX20 : Hid (Below W1.heap.size W1 w20) := HB10.out.trans (hb20.mono HB10.out.size)
            have hbA : Below w20.heap.size w20 (w20.alloc (.cells zeroM 25)) := (Below.refl _ _).alloc (Nat.le_refl _) _
            have BXA : Hid (Below W1.heap.size W1 (w20.alloc (.cells zeroM 25))) := BX20.out.trans (hbA.mono BX20.out.size)
            clear G1 hb20 hbA BX20
            go_wp2
            go_ret
            exact ⟨rfl, HFin.out _ BXA.out⟩

theorem msgBack_walk (m : Ms) (a : Option Addr) (kn c : Nat) (b : Option Addr) (u d : Nat) (ab : Option Addr) (l : List UInt8) (nb capb : Nat) (n : Int) (w : World) (hM : MsIn w m a kn b u) (hn : nb = l.length) (hl : Go.Proofs.Ytbcemghkmmbmdaa.Lies w ab l) (hnc : nb ≤ capb) (hcm : capb ≤ maxLen) (_ : ab = none → capb = 0) (hw : (Lit.int .u8 n).wf = true) :
    Calls Try.prog 5 #[.agg (msV m a kn c b u d), .slice ab nb capb, .int .u8 n] w fun e w' => e = .returned (.bool true) ∧ Below w.heap.size w w' := by
  rw [u8_nat hw]
  exact back_core m a kn c b u d ab l nb capb _ w hM hn hl hnc hcm (Nat.le_trans hnc hcm)
end Go.Proofs.Ytbcemghkmmbmdaa.Msg
