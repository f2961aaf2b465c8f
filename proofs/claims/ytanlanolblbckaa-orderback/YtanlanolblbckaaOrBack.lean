/-
  The walk of OrderBack.
-/
import Derived.Test.YtanlanolblbckaaOrMem
import Derived.Test.YtanlanolblbckaaArgs
namespace Go.Proofs.Ytanlanolblbckaa.Order
open Go.RowKit Route

set_option maxHeartbeats 8000000 in
set_option maxRecDepth 100000 in
theorem back_core (r : Rq) (a : Option Addr) (kn cap : Nat) (ab : Option Addr) (l : List UInt8) (nb capb : Nat) (d : UInt8) (w : World) (h : ReqAt w a kn cap r) (hn : nb = l.length) (hl : Lies w ab l) (hnc : nb ≤ capb) (hcm : capb ≤ maxLen) (hnb : nb ≤ 9223372036854775807) :
    Calls Try.prog 5 #[.agg (rv r a kn cap), .slice ab nb capb, .int .u8 (d.toNat : Int)] w fun e w' => e = .returned (.bool true) ∧ Below w.heap.size w w' := by
  have HR : Hid (ReqAt w a kn cap r) := h
  have HN : Hid (nb = l.length) := hn
  have HL : Hid (∀ W, Below w.heap.size w W → Lies W ab l) := fun W hb => hl.below hb (Nat.le_refl _)
  have HCM : Hid (capb ≤ maxLen) := hcm
  have HU : Hid (∀ w, Calls _ _ _ _ _) := up_any
  have BX : Hid (Bx1 w _ (rv r a kn cap)) := Bx1.start w _
  have q1 := eqNil
  have q2 := neNil
  have q3 := eqArgNil
  have q4 := neFormNil
  have q5 := neForm
  clear h hn hl hcm
  go_enter Try.func5, Try.ntmps5
  go_wp2_with fail
  refine (HU.out _).mono ?_
  rintro e w1 ⟨rfl, hb1⟩
  have BX1 : Hid (Bx1 w w1 (rv r a kn cap)) := BX.out.below hb1
  clear BX hb1 HU
  obtain ⟨x0, x1, x2, x3, x4, x5, x6⟩ := seven BX1.out.one
  have H1 : Hid (Calls _ _ _ _ _) := short_any r a kn cap w1 (HR.out.below BX1.out.bel)
  go_wp2_with fail
  refine H1.out.mono ?_
  rintro e w2 ⟨b2, rfl, hh⟩
  have BX2 : Hid (Bx1 w w2 (rv r a kn cap)) := BX1.out.below hh.out.2
  have HS1 : Hid (b2 = true → ShortR r) := hh.out.1
  clear x0 x1 x2 x3 x4 x5 x6 hh BX1 H1
  obtain ⟨x0, x1, x2, x3, x4, x5, x6⟩ := seven BX2.out.one
  cases b2 with
  | false =>
    go_wp2
    go_ret
    exact ⟨rfl, BX2.out.bel⟩
  | true =>
    by_cases hbig : 5000 < nb
    · go_wp2
      go_ret
      exact ⟨rfl, BX2.out.bel⟩
    · have hr : ShortR r := HS1.out (by first | rfl | trivial)
      have HKR : Hid (∀ W, Below w.heap.size w W → KeysAt W a kn cap r.ks) := fun W hb => (HR.out.keys hr).below hb
      have HZ : Hid (r.nm.size ≤ 100000 ∧ r.pt.size ≤ 100000) := by
        have g1 := hr.1; have g2 := hr.2.1
        exact ⟨by omega, by omega⟩
      clear hr HS1 HR
      cases hm : may r with
      | false =>
        have H4 : Hid (Calls _ _ _ _ _) := put_no r a kn cap w2 HZ.out.1 HZ.out.2 (HKR.out _ BX2.out.bel) hm
        go_wp2_with fail
        refine H4.out.mono ?_
        rintro e w4 ⟨rfl, hb4⟩
        have BX4 : Hid (Bx1 w w4 (rv r a kn cap)) := BX2.out.below hb4
        clear x0 x1 x2 x3 x4 x5 x6 hb4 BX2 H4
        as_aux_lemma =>
          by_cases hq : IsReq l
          · obtain ⟨r2, hm2, he2⟩ := hq
            have G1 : Hid (Calls _ _ _ _ _) := get_ok (w := _) r2 hm2 he2 HN.out (HL.out _ BX4.out.bel) (by omega) hnc HCM.out
            go_wp2_with fail
            refine G1.out.mono ?_
            rintro e w20 ⟨ka, kk, kc, rfl, hh⟩
            obtain ⟨hk20, _, hb20⟩ := hh.out
            have BX20 : Hid (Bx1 w w20 (rv r a kn cap)) := BX4.out.below hb20
            have hbA : Below w20.heap.size w20 (w20.alloc (.cells (rv r2 ka kk kc) 26)) := (Below.refl _ _).alloc (Nat.le_refl _) _
            have P1 : Hid (Calls _ _ _ _ _) := put_ok r2 ka kk kc _ (hk20.below hbA) hm2
            have BXA : Hid (Bx1 w (w20.alloc (.cells (rv r2 ka kk kc) 26)) (rv r a kn cap)) := BX20.out.below hbA
            clear G1 hh hk20 hb20 hbA
            go_wp2_with fail
            refine P1.out.mono ?_
            rintro e w21 ⟨v21, rfl, hb21⟩
            obtain ⟨a21, k21, c21, rfl, hk21, _, _, hl21, _⟩ := hb21.words
            have BX21 : Hid (Bx1 w w21 (rv r a kn cap)) := BXA.out.below hb21.2.1
            obtain ⟨D, hD⟩ : ∃ D : ByteArray, D = ⟨(enc r2).toArray⟩ := ⟨_, rfl⟩
            have cv1 := conv_at (cap := c21) hl21 hk21.out hD
            have cv2 : (convert 32 9 (.slice ab nb capb)).run Try.prog w21 = .ok (.string D) w21 := by
              have := conv_at (cap := capb) (HL.out _ BX21.out.bel) HN.out (O := D) (by rw [hD, he2])
              exact this
            clear hD hb21 hl21 P1 BXA BX20
            go_wp2
            go_ret
            exact ⟨rfl, BX21.out.bel⟩
          · have G1 : Hid (Calls _ _ _ _ _) := get_no (w := _) hq HN.out (HL.out _ BX4.out.bel) (by omega) hnc HCM.out
            go_wp2_with fail
            refine G1.out.mono ?_
            rintro e w20 ⟨rfl, hb20⟩
            have BX20 : Hid (Bx1 w w20 (rv r a kn cap)) := BX4.out.below hb20
            have hbA : Below w20.heap.size w20 (w20.alloc (.cells zero7 26)) := (Below.refl _ _).alloc (Nat.le_refl _) _
            have BXA : Hid (Bx1 w (w20.alloc (.cells zero7 26)) (rv r a kn cap)) := BX20.out.below hbA
            clear G1 hb20 hbA BX20
            go_wp2
            go_ret
            exact ⟨rfl, BXA.out.bel⟩
      | true =>
        have H4 : Hid (Calls _ _ _ _ _) := put_ok r a kn cap w2 (HKR.out _ BX2.out.bel) hm
        go_wp2_with fail
        refine H4.out.mono ?_
        rintro e w4 ⟨v4, rfl, hb4⟩
        obtain ⟨a4, k4, c4, rfl, hk4, hkc4, hcm4, hl4, hg4⟩ := hb4.words
        have BX4 : Hid (Bx1 w w4 (rv r a kn cap)) := BX2.out.below hb4.2.1
        have HL4 : Hid (Lies w4 a4 (enc r)) := hl4
        have HK4 : Hid (k4 = (enc r).length) := hk4
        have hk40 : k4 ≤ 10000 := by rw [hk4.out]; exact enc_len hm
        have HC4 : Hid (c4 ≤ maxLen) := hcm4
        have hk41 : 0 < k4 := by
          rw [hk4.out]
          have := digs_pos r.c.toNat
          simp only [enc, List.length_append]; omega
        obtain ⟨g4, rfl, _⟩ := hg4 hk41
        have G4 : Hid (Calls _ _ _ _ _) := get_ok (w := w4) r hm rfl hk4.out hl4 (by omega) hkc4 hcm4
        clear x0 x1 x2 x3 x4 x5 x6 hb4 hl4 BX2 H4 hk4 hg4 hcm4
        go_wp2_with fail
        refine G4.out.mono ?_
        rintro e w5 ⟨ka5, kk5, kc5, rfl, hh⟩
        obtain ⟨hk5, _, hb5⟩ := hh.out
        obtain ⟨W5, hW5⟩ : ∃ W5, W5 = w5.alloc (.cells (rv r ka5 kk5 kc5) 26) := ⟨_, rfl⟩
        have hbA : Below w5.heap.size w5 W5 := by rw [hW5]; exact (Below.refl _ _).alloc (Nat.le_refl _) _
        have hz5 : W5.heap.size = w5.heap.size + 1 := by rw [hW5]; simp
        have BX5 : Hid (Bx1 w W5 (rv r a kn cap)) := (BX4.out.below hb5).below hbA
        have HQ5 : Hid (W5.heap[w5.heap.size]? = some (.cells (rv r ka5 kk5 kc5) 26 (0, 0))) := by rw [hW5]; exact heap_alloc_new w5 _
        have HK5 : Hid (KeysAt W5 ka5 kk5 kc5 r.ks) := hk5.below hbA
        have HL5 : Hid (Lies (W5.alloc (.cells #[] 5)) (some ⟨g4, 0, none⟩) (enc r)) := ((HL4.out.below hb5 (Nat.le_refl _)).below hbA (Nat.le_refl _)).below ((Below.refl _ _).alloc (Nat.le_refl _) _) (Nat.le_refl _)
        have HF5 : Hid (Buf W5.heap.size (.slice (some ⟨w5.heap.size + 1, 0, none⟩) 0 0) [] W5 (W5.alloc (.cells #[] 5))) := Buf.fresh W5 _ hz5.symm
        have hnil : (some ⟨g4, 0, none⟩ : Option Addr) = none → c4 = 0 := fun h => by cases h
        have hlen1 : ([] : List UInt8).length + k4 ≤ 140737488355328 := by rw [List.length_nil]; omega
        have hlen2 : ([] ++ enc r).length + 1 ≤ 140737488355328 := by rw [List.nil_append, ← HK4.out]; omega
        clear G4 hh hk5 hb5 hbA HL4 BX4 hz5
        subst hW5
        go_wp2_with (first | (at_builtin; refine wpList_bytes_any rfl (.tmp 44) (.tmp 45) rfl (w5.alloc (.cells (rv r ka5 kk5 kc5) 26)).heap.size _ [] rfl (w5.alloc (.cells (rv r ka5 kk5 kc5) 26)) HF5.out (enc r) _ k4 c4 rfl HK4.out HL5.out hnil hkc4 hlen1 ?_; intro v6 w6 hb6) | (at_builtin; refine wpList_byte rfl (.tmp 46) (.tmp 48) rfl (w5.alloc (.cells (rv r ka5 kk5 kc5) 26)).heap.size _ ([] ++ enc r) rfl (w5.alloc (.cells (rv r ka5 kk5 kc5) 26)) w6 _ d rfl hb6 rfl hlen2 ?_; intro v7 w7 hb7; obtain ⟨a7, k7, c7, rfl, hk7, hkc7, hcm7, hl7, _⟩ := hb7.words))
        have BX7 : Hid (Bx1 w w7 (rv r a kn cap)) := BX5.out.below hb7.2.1
        have HQ7 : Hid (w7.heap[w5.heap.size]? = some (.cells (rv r ka5 kk5 kc5) 26 (0, 0))) := bcells HQ5.out hb7.2.1
        have HK7 : Hid (KeysAt w7 ka5 kk5 kc5 r.ks) := HK5.out.below hb7.2.1
        have hk70 : k7 ≤ 100000 := by rw [hk7.out, List.nil_append, List.length_append, ← HK4.out]; simp only [List.length_cons, List.length_nil]; omega
        have G7 : Hid (Calls _ _ _ _ _) := get_no (w := w7) (by rw [List.nil_append]; exact more_not hm d) hk7.out hl7 hk70 hkc7 hcm7
        clear BX5 HQ5 HK5 HL5 HF5 hb6 hb7 hl7 hk7
        go_wp2_with fail
        refine G7.out.mono ?_
        rintro e w8 ⟨rfl, hb8⟩
        have BX8 : Hid (Bx1 w w8 (rv r a kn cap)) := BX7.out.below hb8
        have HQ8 : Hid (w8.heap[w5.heap.size]? = some (.cells (rv r ka5 kk5 kc5) 26 (0, 0))) := bcells HQ7.out hb8
        have HK8 : Hid (KeysAt w8 ka5 kk5 kc5 r.ks) := HK7.out.below hb8
        have hbB : Below w8.heap.size w8 (w8.alloc (.cells zero7 26)) := (Below.refl _ _).alloc (Nat.le_refl _) _
        have S8 := same_any r r ka5 a kk5 kc5 kn cap (w8.alloc (.cells zero7 26)) (HK8.out.below hbB) (HKR.out _ (BX8.out.below hbB).bel)
        rw [sameR_iff.2 rfl] at S8
        have S8' : Hid (Calls _ _ _ _ _) := S8
        have BX9 : Hid (Bx1 w (w8.alloc (.cells zero7 26)) (rv r a kn cap)) := BX8.out.below hbB
        obtain ⟨x0, x1, x2, x3, x4, x5, x6⟩ := seven BX8.out.one
        obtain ⟨y0, y1, y2, y3, y4, y5, y6⟩ := seven HQ8.out
        have hz8 : w.heap.size < w8.heap.size := (Array.getElem?_eq_some_iff.1 BX8.out.one).1
        have hz9 : w5.heap.size < w8.heap.size := (Array.getElem?_eq_some_iff.1 HQ8.out).1
        clear G7 hb8 hbB BX7 HQ7 HK7 S8
        go_wp2_with fail
        refine S8'.out.mono ?_
        rintro e w10 ⟨rfl, hb10⟩
        have BX10 : Hid (Bx1 w w10 (rv r a kn cap)) := BX9.out.below hb10
        clear S8' hb10 BX9 BX8 HQ8 HK8 x0 x1 x2 x3 x4 x5 x6 y0 y1 y2 y3 y4 y5 y6
        as_aux_lemma =>
          by_cases hq : IsReq l
          · obtain ⟨r2, hm2, he2⟩ := hq
            have G1 : Hid (Calls _ _ _ _ _) := get_ok (w := _) r2 hm2 he2 HN.out (HL.out _ BX10.out.bel) (by omega) hnc HCM.out
            go_wp2_with fail
            refine G1.out.mono ?_
            rintro e w20 ⟨ka, kk, kc, rfl, hh⟩
            obtain ⟨hk20, _, hb20⟩ := hh.out
            have BX20 : Hid (Bx1 w w20 (rv r a kn cap)) := BX10.out.below hb20
            have hbA : Below w20.heap.size w20 (w20.alloc (.cells (rv r2 ka kk kc) 26)) := (Below.refl _ _).alloc (Nat.le_refl _) _
            have P1 : Hid (Calls _ _ _ _ _) := put_ok r2 ka kk kc _ (hk20.below hbA) hm2
            have BXA : Hid (Bx1 w (w20.alloc (.cells (rv r2 ka kk kc) 26)) (rv r a kn cap)) := BX20.out.below hbA
            clear G1 hh hk20 hb20 hbA
            go_wp2_with fail
            refine P1.out.mono ?_
            rintro e w21 ⟨v21, rfl, hb21⟩
            obtain ⟨a21, k21, c21, rfl, hk21, _, _, hl21, _⟩ := hb21.words
            have BX21 : Hid (Bx1 w w21 (rv r a kn cap)) := BXA.out.below hb21.2.1
            obtain ⟨D, hD⟩ : ∃ D : ByteArray, D = ⟨(enc r2).toArray⟩ := ⟨_, rfl⟩
            have cv1 := conv_at (cap := c21) hl21 hk21.out hD
            have cv2 : (convert 32 9 (.slice ab nb capb)).run Try.prog w21 = .ok (.string D) w21 := by
              have := conv_at (cap := capb) (HL.out _ BX21.out.bel) HN.out (O := D) (by rw [hD, he2])
              exact this
            clear hD hb21 hl21 P1 BXA BX20
            go_wp2
            go_ret
            exact ⟨rfl, BX21.out.bel⟩
          · have G1 : Hid (Calls _ _ _ _ _) := get_no (w := _) hq HN.out (HL.out _ BX10.out.bel) (by omega) hnc HCM.out
            go_wp2_with fail
            refine G1.out.mono ?_
            rintro e w20 ⟨rfl, hb20⟩
            have BX20 : Hid (Bx1 w w20 (rv r a kn cap)) := BX10.out.below hb20
            have hbA : Below w20.heap.size w20 (w20.alloc (.cells zero7 26)) := (Below.refl _ _).alloc (Nat.le_refl _) _
            have BXA : Hid (Bx1 w (w20.alloc (.cells zero7 26)) (rv r a kn cap)) := BX20.out.below hbA
            clear G1 hb20 hbA BX20
            go_wp2
            go_ret
            exact ⟨rfl, BXA.out.bel⟩

theorem orderBack_walk (r : Rq) (a : Option Addr) (kn cap : Nat) (ab : Option Addr) (l : List UInt8) (nb capb : Nat) (n : Int) (w : World) (h : ReqAt w a kn cap r) (hn : nb = l.length) (hl : Lies w ab l) (hnc : nb ≤ capb) (hcm : capb ≤ maxLen) (_ : ab = none → capb = 0) (hw : (Lit.int .u8 n).wf = true) :
    Calls Try.prog 5 #[.agg (rv r a kn cap), .slice ab nb capb, .int .u8 n] w fun e w' => e = .returned (.bool true) ∧ Below w.heap.size w w' := by
  rw [u8_nat hw]
  exact back_core r a kn cap ab l nb capb _ w h hn hl hnc hcm (Nat.le_trans hnc hcm)
end Go.Proofs.Ytanlanolblbckaa.Order
