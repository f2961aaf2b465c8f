/-
  The answer's Get, walked.
-/
import Derived.Test.YtlpgdfdadkljfaaImRGet
namespace Go.Proofs.Ytlpgdfdadkljfaa.Img
open Go.RowKit Route Tree Order Cat

set_option maxHeartbeats 16000000 in
set_option maxRecDepth 100000 in
theorem refGet_any (a : Option Addr) (n cap : Nat) (l : List UInt8) (w : World) (hn : n = l.length) (hl : Go.Proofs.Ytlpgdfdadkljfaa.Lies w a l) (hm : n ≤ 20000) (hc : n ≤ cap) (hcm : cap ≤ maxLen) (ho : l = [] ∨ ∀ y, a = some y → y.block < w.heap.size) :
    Calls Try.prog 15 #[.slice a n cap] w (GotQ l w) := by
  obtain ⟨W1, hW1⟩ : ∃ W1, W1 = w.alloc (.cells #[.slice a n cap, .int .i64 0, .bool false] 70) := ⟨_, rfl⟩
  have HW1 : Hid (W1 = _) := hW1
  have HBW : Hid (Below w.heap.size w W1) := by rw [hW1]; exact (Below.refl _ _).alloc (Nat.le_refl _) _
  have hR : Rd 70 W1 w.heap.size a n cap l 0 false := ⟨by rw [hW1]; exact (MapKept.heap_alloc w _).1, hn, Go.Proofs.Ytlpgdfdadkljfaa.Lies.below hl HBW.out (Nat.le_refl _), by omega, hc, hcm, Nat.zero_le _, ho⟩
  have HN : Hid (n = l.length) := hn
  have HLE : Hid ((decQ l).2.1 ≤ l.length) := decQ_le l
  have HWI : Hid ((decQ l).2.2 = false → l.length ≤ (decQ l).2.1 → (decQ l).1.length ≤ 65536 ∧ ∀ s ∈ (decQ l).1, SWide s) := fun h1 h2 => decQ_wide (by omega) h1 h2
  have HNo : Hid (∀ e w', ¬ ((decQ l).2.2 = false ∧ n ≤ (decQ l).2.1 ∧ May (decQ l).1) → e = .returned (.tuple #[.slice none 0 0, .bool false]) → Below w.heap.size w w' → GotQ l w e w') := fun e w' h1 h2 h3 => .inr ⟨by rw [← hn]; exact h1, h2, h3⟩
  have HYes : Hid (∀ e w', ((decQ l).2.2 = false ∧ n ≤ (decQ l).2.1 ∧ May (decQ l).1) → (∃ v Z, e = .returned (.tuple #[v, .bool true]) ∧ Z.map snapOf = (decQ l).1 ∧ SRow w.heap.size v Z w' ∧ Below w.heap.size w w') → GotQ l w e w') := fun e w' h1 h2 => .inl ⟨by rw [← hn]; exact h1, h2⟩
  have HDE : Hid (decQ l = snapsQ l (num l 65536 0 false).1 (num l 65536 0 false).2) := rfl
  generalize decQ l = D at *
  have hsm : n ≤ 1000000 := by omega
  have N0 : Hid (∀ J, num l 65536 0 false = J → Calls _ _ _ _ _) := fun J e => num_namedQ hR hsm 65536 (by omega) J e
  have hJ := num_le (l := l) (m := 65536) (p := 0) (f := false) (Nat.zero_le _)
  generalize eJ : num l 65536 0 false = J at *
  have N1 : Hid (Calls _ _ _ _ _) := N0.out J rfl
  have HJ2 : Hid (J.2.1 ≤ l.length) := hJ.2
  have hJ1 := hJ.1
  have hp := hR.lt
  clear hn hl ho hR hW1 N0 eJ hJ hm hc hcm
  go_enter Try.func15, Try.ntmps15
  go_wp2_with fail
  rw [← HW1.out]
  refine N1.out.mono ?_
  rintro e w1 ⟨rfl, hr⟩
  have HI : Hid (Snq W1 w1 w.heap.size a n cap l J.2.1 J.2.2 (.slice none 0 0) []) := ⟨hr.out.1, hr.out.2, SRow.nil _ _, hp⟩
  clear N1 hr
  go_wp2
  go_loopw [5, 7] (fun t5 t7 wr => ∃ (i : Nat) (v5 : Value), v5 = t5 ∧ t7 = .int .i64 (i : Int) ∧ i ≤ J.1 ∧ Hid (∃ (Z : List SZ) (x : Nat) (f : Bool) (s : St), Z.length = i ∧ Snq W1 wr w.heap.size a n cap l x f v5 Z ∧ Far l (snapsQ l J.1 J.2) (Z.map snapOf) (snapsQ l (J.1 - i) s) s x f)) (fun _ t7 _ => J.1 - (intOf t7).toNat)
  case atStart => exact ⟨0, _, rfl, rfl, Nat.zero_le _, [], J.2.1, J.2.2, J.2, rfl, HI.out, ⟨HJ2.out, Al.refl _, rfl, fun _ => rfl⟩⟩
  case round =>
    obtain ⟨i, v5, rfl, rfl, hi, HR⟩ := hrel
    clear HI
    obtain ⟨Z, x, f, s, hks, hS, hF⟩ := HR.out
    have HS : Hid (Snq _ _ _ _ _ _ _ _ _ _ _) := hS
    have HF : Hid (Far _ _ _ _ _ _ _) := hF
    have HK : Hid (Z.length = i) := hks
    obtain ⟨⟨b0, b1, b2⟩, hbf⟩ := cells3 hS.rd.box
    by_cases hgo : f = false ∧ i < J.1
    · obtain ⟨rfl, hlt⟩ := hgo
      have hal : Al s (x, false) := hF.al
      obtain ⟨A, eA⟩ : ∃ A, num l 65536 x false = A := ⟨_, rfl⟩
      obtain ⟨C, eC⟩ : ∃ C, tex2 l A.2.1 A.2.2 = C := ⟨_, rfl⟩
      obtain ⟨E, eE⟩ : ∃ E, num l 1 C.2.1 C.2.2 = E := ⟨_, rfl⟩
      obtain ⟨K, eK⟩ : ∃ K, num l 65536 E.2.1 E.2.2 = K := ⟨_, rfl⟩
      obtain ⟨q, hq1, hq2, hq3, hq4⟩ := snapQ_head hal hF.le eA eC eE eK
      have HQ : Hid (snapQ l s = (((A.1 : Int), C.1, decide (E.1 = 1), (entsQ l K.1 q).1), (entsQ l K.1 q).2)) := hq4
      have HQA : Hid (q.1 ≤ l.length ∧ Al q K.2) := ⟨hq1, hq2⟩
      have hK1 := hq3.1
      have HFl : Hid (((E.1 : Int) == 1) = decide (E.1 = 1)) := by have := hq3.2; show _ = _; rw [Bool.beq_eq_decide_eq]; exact decide_eq_decide.2 (by omega)
      have H0 : Hid (Sv 52 wr (wr.alloc (.cells zeroN 52)) w.heap.size wr.heap.size (wr.heap.size + 1) a n cap l x false zeroN) := Sv.start hS.rd zeroN _
      have N0 : Hid (Calls _ _ _ _ _) := num_namedQ H0.out.rd hsm 65536 (by omega) A eA
      have NC : Hid (tex2 l A.2.1 A.2.2 = C) := eC
      have NE : Hid (num l 1 C.2.1 C.2.2 = E) := eE
      have NK : Hid (num l 65536 E.2.1 E.2.2 = K) := eK
      clear hS hF hks HR eA eC eE eK hq1 hq2 hq3 hq4 hal hbf
      go_wp2_with fail
      refine N0.out.mono ?_
      rintro e w2 ⟨rfl, hr⟩
      have S1 := H0.out.step hr.out
      clear N0 hr H0 b0 b1 b2
      obtain ⟨⟨y0, y1, y2, y3⟩, hf⟩ := cells4 S1.box
      have z0 := hf 0
      have T1 : Hid (Sv 52 wr (w2.setCell ⟨wr.heap.size, 0, none⟩ (.int .i64 (A.1 : Int))) w.heap.size wr.heap.size (wr.heap.size + 1) a n cap l A.2.1 A.2.2 #[.int .i64 (A.1 : Int), .string ⟨#[]⟩, .bool false, .slice none 0 0]) := S1.set 0 _ rfl
      have N1 : Hid (Calls _ _ _ _ _) := text_namedQ T1.out.rd hsm C NC.out
      clear S1 hf
      go_wp2_with fail
      refine N1.out.mono ?_
      rintro e w3 ⟨rfl, hr⟩
      have S2 := T1.out.step hr.out
      clear N1 hr T1 y0 y1 y2 y3 z0
      obtain ⟨⟨y0, y1, y2, y3⟩, hf⟩ := cells4 S2.box
      have z1 := hf 1
      have T2 : Hid (Sv 52 wr (w3.setCell ⟨wr.heap.size, 1, none⟩ (.string C.1)) w.heap.size wr.heap.size (wr.heap.size + 1) a n cap l C.2.1 C.2.2 #[.int .i64 (A.1 : Int), .string C.1, .bool false, .slice none 0 0]) := S2.set 1 _ rfl
      have N2 : Hid (Calls _ _ _ _ _) := num_namedQ T2.out.rd hsm 1 (by omega) E NE.out
      clear S2 hf
      go_wp2_with fail
      refine N2.out.mono ?_
      rintro e w4 ⟨rfl, hr⟩
      have S3 := T2.out.step hr.out
      clear N2 hr T2 y0 y1 y2 y3 z1
      obtain ⟨⟨y0, y1, y2, y3⟩, hf⟩ := cells4 S3.box
      have z2 := hf 2
      have T3 : Hid (Sv 52 wr (w4.setCell ⟨wr.heap.size, 2, none⟩ (.bool (decide (E.1 = 1)))) w.heap.size wr.heap.size (wr.heap.size + 1) a n cap l E.2.1 E.2.2 #[.int .i64 (A.1 : Int), .string C.1, .bool (decide (E.1 = 1)), .slice none 0 0]) := S3.set 2 _ rfl
      have N3 : Hid (Calls _ _ _ _ _) := num_namedQ T3.out.rd hsm 65536 (by omega) K NK.out
      clear S3 hf
      go_wp2_with fail
      rw [HFl.out]
      generalize hdn : decide (E.1 = 1) = dn at *
      clear hdn HFl
      refine N3.out.mono ?_
      rintro e w5 ⟨rfl, hr⟩
      have HI : Hid (Sv 52 wr w5 w.heap.size wr.heap.size (wr.heap.size + 1) a n cap l K.2.1 K.2.2 #[.int .i64 (A.1 : Int), .string C.1, .bool dn, .slice none 0 0]) := T3.out.step hr.out
      clear N3 hr T3 y0 y1 y2 y3 z2 NC NE NK
      go_wp2
      go_loopw [11] (fun t11 wq => ∃ (k : Nat), t11 = .int .i64 (k : Int) ∧ k ≤ K.1 ∧ Hid (∃ (ea : Option Addr) (en ec : Nat) (Y : List (Ent × Value)) (x : Nat) (f : Bool) (s : St), Y.length = k ∧ Sv 52 wr wq w.heap.size wr.heap.size (wr.heap.size + 1) a n cap l x f #[.int .i64 (A.1 : Int), .string C.1, .bool dn, .slice ea en ec] ∧ ERw (wr.heap.size + 1) (.slice ea en ec) Y wq ∧ Far l (entsQ l K.1 q) (Y.map (·.1)) (entsQ l (K.1 - k) s) s x f)) (fun t11 _ => K.1 - (intOf t11).toNat)
      case atStart => exact ⟨0, rfl, Nat.zero_le _, none, 0, 0, [], K.2.1, K.2.2, q, rfl, HI.out, ERw.nil _ _, ⟨HQA.out.1, HQA.out.2, rfl, fun _ => rfl⟩⟩
      case round =>
        rename World => wq
        obtain ⟨k, rfl, hk, HR⟩ := hrel
        clear HI
        obtain ⟨ea, en, ec, Y, x1, f1, s1, hks, hS, hE, hF1⟩ := HR.out
        have HS1 : Hid (Sv _ _ _ _ _ _ _ _ _ _ _ _ _) := hS
        have HE1 : Hid (ERw _ _ _ _) := hE
        have HF1 : Hid (Far _ _ _ _ _ _ _) := hF1
        have HK1 : Hid (Y.length = k) := hks
        obtain ⟨⟨b0, b1, b2⟩, hbf⟩ := cells3 hS.rd.box
        by_cases hgo : f1 = false ∧ k < K.1
        · obtain ⟨rfl, hkl⟩ := hgo
          have hal : Al s1 (x1, false) := hF1.al
          obtain ⟨A1, eA⟩ : ∃ A1, tex2 l x1 false = A1 := ⟨_, rfl⟩
          obtain ⟨C1, eC⟩ : ∃ C1, num l 65536 A1.2.1 A1.2.2 = C1 := ⟨_, rfl⟩
          obtain ⟨K1, eK⟩ : ∃ K1, num l 65536 C1.2.1 C1.2.2 = K1 := ⟨_, rfl⟩
          obtain ⟨q1, hq1, hq2, hq3, hq4⟩ := entQ_head hal hF1.le eA eC eK
          have HQ1 : Hid (entQ l s1 = ((A1.1, (C1.1 : Int), (Order.texs l 4096 K1.1 q1.1 q1.2).1), (Order.texs l 4096 K1.1 q1.1 q1.2).2)) := hq4
          have HQA1 : Hid (q1.1 ≤ l.length ∧ Al q1 K1.2) := ⟨hq1, hq2⟩
          have H0 : Hid (Sv 57 wq (wq.alloc (.cells zeroE 57)) w.heap.size wq.heap.size (wq.heap.size + 1) a n cap l x1 false zeroE) := Sv.start hS.rd zeroE _
          have N0 : Hid (Calls _ _ _ _ _) := text_namedQ H0.out.rd hsm A1 eA
          have NC : Hid (num l 65536 A1.2.1 A1.2.2 = C1) := eC
          have NK : Hid (num l 65536 C1.2.1 C1.2.2 = K1) := eK
          clear hS hE hF1 hks HR eA eC eK hq1 hq2 hq4 hal hbf
          go_wp2_with fail
          refine N0.out.mono ?_
          rintro e w2 ⟨rfl, hr⟩
          have S1 := H0.out.step hr.out
          clear N0 hr H0 b0 b1 b2
          obtain ⟨⟨y0, y1, y2⟩, hf⟩ := cells3 S1.box
          have z0 := hf 0
          have T1 : Hid (Sv 57 wq (w2.setCell ⟨wq.heap.size, 0, none⟩ (.string A1.1)) w.heap.size wq.heap.size (wq.heap.size + 1) a n cap l A1.2.1 A1.2.2 #[.string A1.1, .int .i64 0, .slice none 0 0]) := S1.set 0 _ rfl
          have N1 : Hid (Calls _ _ _ _ _) := num_namedQ T1.out.rd hsm 65536 (by omega) C1 NC.out
          clear S1 hf
          go_wp2_with fail
          refine N1.out.mono ?_
          rintro e w3 ⟨rfl, hr⟩
          have S2 := T1.out.step hr.out
          clear N1 hr T1 y0 y1 y2 z0
          obtain ⟨⟨y0, y1, y2⟩, hf⟩ := cells3 S2.box
          have z1 := hf 1
          have T2 : Hid (Sv 57 wq (w3.setCell ⟨wq.heap.size, 1, none⟩ (.int .i64 (C1.1 : Int))) w.heap.size wq.heap.size (wq.heap.size + 1) a n cap l C1.2.1 C1.2.2 #[.string A1.1, .int .i64 (C1.1 : Int), .slice none 0 0]) := S2.set 1 _ rfl
          have N2 : Hid (Calls _ _ _ _ _) := num_namedQ T2.out.rd hsm 65536 (by omega) K1 NK.out
          clear S2 hf
          go_wp2_with fail
          refine N2.out.mono ?_
          rintro e w4 ⟨rfl, hr⟩
          have HI : Hid (Sv 57 wq w4 w.heap.size wq.heap.size (wq.heap.size + 1) a n cap l K1.2.1 K1.2.2 #[.string A1.1, .int .i64 (C1.1 : Int), .slice none 0 0]) := T2.out.step hr.out
          clear N2 hr T2 y0 y1 y2 z1 NC NK
          go_wp2
          go_loopw [14] (fun t14 wx => ∃ (j : Nat), t14 = .int .i64 (j : Int) ∧ j ≤ K1.1 ∧ Hid (∃ (ka : Option Addr) (kn kc : Nat) (ks : List ByteArray) (x : Nat) (f : Bool) (s : St), ks.length = j ∧ Sv 57 wq wx w.heap.size wq.heap.size (wq.heap.size + 1) a n cap l x f #[.string A1.1, .int .i64 (C1.1 : Int), .slice ka kn kc] ∧ wx.ownsRow (wq.heap.size + 1) 9 1 (.slice ka kn kc) ks.length (sv ks) ∧ Far l (Order.texs l 4096 K1.1 q1.1 q1.2) ks (Order.texs l 4096 (K1.1 - j) s.1 s.2) s x f)) (fun t14 _ => K1.1 - (intOf t14).toNat)
          case atStart => exact ⟨0, rfl, Nat.zero_le _, none, 0, 0, [], K1.2.1, K1.2.2, q1, rfl, HI.out, World.ownsRow_nil _ _ _ _, ⟨HQA1.out.1, HQA1.out.2, rfl, fun _ => rfl⟩⟩
          case round =>
            rename World => wx
            obtain ⟨j, rfl, hj, HR⟩ := hrel
            clear HI
            obtain ⟨ka, kn, kc, ks, x2, f2, s2, hks, hS, hrow, hF2⟩ := HR.out
            have HS2 : Hid (Sv _ _ _ _ _ _ _ _ _ _ _ _ _) := hS
            have HRow : Hid (wx.ownsRow (wq.heap.size + 1) 9 1 (.slice ka kn kc) ks.length (sv ks)) := hrow
            have HF2 : Hid (Far _ _ _ _ _ _ _) := hF2
            have HK2 : Hid (ks.length = j) := hks
            obtain ⟨⟨b0, b1, b2⟩, hbf⟩ := cells3 hS.rd.box
            obtain ⟨⟨y0, y1, y2⟩, hf⟩ := cells3 hS.box
            by_cases hgo : f2 = false ∧ j < K1.1
            · obtain ⟨rfl, hjl⟩ := hgo
              have HCL : Hid (∀ W', Sv 57 wq W' w.heap.size wq.heap.size (wq.heap.size + 1) a n cap l x2 false #[.string A1.1, .int .i64 (C1.1 : Int), .slice ka kn kc] ∧ W'.ownsRow (wq.heap.size + 1) 9 1 (.slice ka kn kc) ks.length (sv ks) → Calls Try.prog 31 #[.pointer (some ⟨w.heap.size, 0, none⟩)] W' _) := fun W' h => text_pushQ h.1 hsm h.2 (by have := HK2.out; omega)
              have HFN : Hid (Far _ _ _ _ _ _ _) := hF2.nextT hjl
              clear hS hrow hF2 hks hf HR y0 y1 HF2 hbf b0 b1
              go_wp2_with fail
              go_region_law
                (first
                  | (go_simp; go_at_call 31; refine (HCL.out _ ?_).mono ?_; first | exact ⟨HS2.out, HRow.out⟩ | exact ⟨HS2.out.drew, HRow.out⟩; rintro e w4 ⟨s4, rfl, c4, c4', a5, k5, c5, w5, hrun5, c5', f5, hF5⟩)
                  | (refine step_run (by rfl) _ _ _ (by rfl) _ _ _ (by rfl) (by rfl) hrun5 ?_))
              all_goals
                go_wp2
                go_roundw
                case rel => exact ⟨j + 1, by go_num, by omega, a5, k5, c5, _, _, _, _, by rw [List.length_append, HK2.out]; rfl, hF5.out.1, hF5.out.2, HFN.out⟩
                case measure => simp [intOf]; omega
            · have hx : f2 = true ∨ j = K1.1 := by
                cases f2 with
                | true => exact .inl rfl
                | false => right; have : ¬ (j < K1.1) := fun h => hgo ⟨rfl, h⟩; omega
              obtain ⟨g1, g2⟩ := hF2.texs hx
              have HA : Hid (Al (entQ l s1).2 (x2, f2)) := by show Al _ _; rw [HQ1.out]; exact g1
              have HZ : Hid (f2 = false → (entQ l s1).1 = (A1.1, (C1.1 : Int), ks)) := fun h => by rw [HQ1.out, g2 h]
              have HFN : Hid (Far _ _ _ _ _ _ _) := HF1.out.nextE hkl HA.out HZ.out
              have HS3 : Hid (Sv 52 wr wx w.heap.size wr.heap.size (wr.heap.size + 1) a n cap l x2 f2 #[.int .i64 (A.1 : Int), .string C.1, .bool dn, .slice ea en ec]) := HS1.out.step ⟨hS.rd, hS.tn⟩
              have hE3 : ERw (wr.heap.size + 1) (.slice ea en ec) Y wx := HE1.out.keep (HS1.out.rows hS.tn)
              have hKey : KeyRow (wr.heap.size + 1) wx ((A1.1, (C1.1 : Int), ks), .slice ka kn kc) := own_any hrow (by have := HS1.out.big; omega)
              obtain ⟨a5, k5, c5, w5, hrun5, q0, q1', hF5⟩ := ent_pushQ HS3.out hE3 hKey (by have := HK1.out; omega)
              obtain ⟨⟨x0, x1', x2', x3⟩, _⟩ := cells4 HS3.out.box
              have hcond : (decide ((j : Int) < (K1.1 : Int)) && !f2) = false := by
                rcases hx with h | h
                · rw [h]; simp
                · rw [h]; simp
              clear hS hrow hF2 hks hf HR HF2 hbf g1 g2 hE3 hKey
              try simp only at hrun5
              rcases hx with rfl | rfl
              · by_cases hjl : j < K1.1
                · go_wp2_with (at_builtin; refine wpList_known rfl (.tmp 86) (.tmp 88) _ rfl _ _ _ rfl rfl hrun5 ?_)
                  go_roundw
                  case rel => exact ⟨k + 1, by go_num, by omega, a5, k5, c5, _, _, _, _, by rw [List.length_append, HK1.out]; rfl, hF5.out.1, hF5.out.2, by rw [List.map_append]; exact HFN.out⟩
                  case measure => simp [intOf]; omega
                · go_wp2_with (at_builtin; refine wpList_known rfl (.tmp 86) (.tmp 88) _ rfl _ _ _ rfl rfl hrun5 ?_)
                  go_roundw
                  case rel => exact ⟨k + 1, by go_num, by omega, a5, k5, c5, _, _, _, _, by rw [List.length_append, HK1.out]; rfl, hF5.out.1, hF5.out.2, by rw [List.map_append]; exact HFN.out⟩
                  case measure => simp [intOf]; omega
              · go_wp2_with (at_builtin; refine wpList_known rfl (.tmp 86) (.tmp 88) _ rfl _ _ _ rfl rfl hrun5 ?_)
                go_roundw
                case rel => exact ⟨k + 1, by go_num, by omega, a5, k5, c5, _, _, _, _, by rw [List.length_append, HK1.out]; rfl, hF5.out.1, hF5.out.2, by rw [List.map_append]; exact HFN.out⟩
                case measure => simp [intOf]; omega
        · have hx : f1 = true ∨ k = K.1 := by
            cases f1 with
            | true => exact .inl rfl
            | false => right; have : ¬ (k < K.1) := fun h => hgo ⟨rfl, h⟩; omega
          obtain ⟨g1, g2⟩ := hF1.ents hx
          have HA : Hid (Al (snapQ l s).2 (x1, f1)) := by show Al _ _; rw [HQ.out]; exact g1
          have HZ : Hid (f1 = false → (snapQ l s).1 = snapOf ((A.1 : Int), C.1, dn, .slice ea en ec, Y)) := fun h => by rw [HQ.out, g2 h]; rfl
          have HFN : Hid (Far _ _ _ _ _ _ _) := HF.out.nextS hlt HA.out HZ.out
          have hER : ERow wr.heap.size wq ((A.1 : Int), C.1, dn, .slice ea en ec, Y) := hE.any (Nat.le_succ _)
          obtain ⟨P1, P2, P3⟩ := HS.out.next hS.rd hS.tn hER
          obtain ⟨⟨x0, x1', x2', x3⟩, _⟩ := cells4 hS.box
          clear hS hE hF1 hks HR HF1 hbf g1 g2 hER HS1 HE1
          rcases hx with rfl | rfl
          · by_cases hkl : k < K.1
            · go_wp2_with (at_builtin; refine wpList_snap rfl (.tmp 91) (.tmp 93) rfl W1.heap.size _ Z rfl wq ((A.1 : Int), C.1, dn, .slice ea en ec, Y) P1.row P1.tn.size P2 P3 rfl (by have := HK.out; omega) ?_; intro v' w6 hb6 hg6; have HNN : Hid (Snq _ _ _ _ _ _ _ _ _ _ _) := P1.grown ((Below.refl _ _).alloc (Nat.le_refl _) _) hb6.out hg6.out)
              go_roundw
              case rel => exact ⟨i + 1, v', rfl, by go_num, by omega, _, _, _, _, by rw [List.length_append, HK.out]; rfl, HNN.out, by rw [List.map_append]; exact HFN.out⟩
              case measure => simp [intOf]; omega
            · go_wp2_with (at_builtin; refine wpList_snap rfl (.tmp 91) (.tmp 93) rfl W1.heap.size _ Z rfl wq ((A.1 : Int), C.1, dn, .slice ea en ec, Y) P1.row P1.tn.size P2 P3 rfl (by have := HK.out; omega) ?_; intro v' w6 hb6 hg6; have HNN : Hid (Snq _ _ _ _ _ _ _ _ _ _ _) := P1.grown ((Below.refl _ _).alloc (Nat.le_refl _) _) hb6.out hg6.out)
              go_roundw
              case rel => exact ⟨i + 1, v', rfl, by go_num, by omega, _, _, _, _, by rw [List.length_append, HK.out]; rfl, HNN.out, by rw [List.map_append]; exact HFN.out⟩
              case measure => simp [intOf]; omega
          · go_wp2_with (at_builtin; refine wpList_snap rfl (.tmp 91) (.tmp 93) rfl W1.heap.size _ Z rfl wq ((A.1 : Int), C.1, dn, .slice ea en ec, Y) P1.row P1.tn.size P2 P3 rfl (by have := HK.out; omega) ?_; intro v' w6 hb6 hg6; have HNN : Hid (Snq _ _ _ _ _ _ _ _ _ _ _) := P1.grown ((Below.refl _ _).alloc (Nat.le_refl _) _) hb6.out hg6.out)
            go_roundw
            case rel => exact ⟨i + 1, v', rfl, by go_num, by omega, _, _, _, _, by rw [List.length_append, HK.out]; rfl, HNN.out, by rw [List.map_append]; exact HFN.out⟩
            case measure => simp [intOf]; omega
    · have hx : f = true ∨ i = J.1 := by
        cases f with
        | true => exact .inl rfl
        | false => right; have : ¬ (i < J.1) := fun h => hgo ⟨rfl, h⟩; omega
      obtain ⟨g1, g2⟩ := hF.snaps hx
      rw [← HDE.out] at g1 g2
      have HA : Hid (Al D.2 (x, f)) := g1
      have HZ : Hid (f = false → D.1 = Z.map snapOf) := g2
      obtain ⟨a0, c0, rfl, hlz⟩ := hS.row.sees
      obtain ⟨n0, hn0⟩ : ∃ n0, n0 = Z.length := ⟨_, rfl⟩
      rw [← hn0]
      have HZN : Hid (n0 = (Z.map snapOf).length) := by show _ = _; rw [hn0]; simp
      have HLZ : Hid (LiesN wr a0 (Z.map snapOf)) := hlz
      have HB2 : Hid (Below w.heap.size w wr) := HBW.out.trans (hS.tn.below (Nat.le_refl _) HBW.out.size)
      have hn0m : n0 ≤ 65536 := by rw [hn0, hks]; omega
      have HN0 : Hid (n0 = Z.length) := hn0
      clear hS hF hks HR hbf g1 g2 hlz hn0
      cases f with
      | true =>
        have HBad : Hid (D.2.2 = true) := HA.out.1.symm
        by_cases hil : i < J.1
        · go_wp2
          go_ret2
          exact HNo.out _ _ (fun h => by have h1 := h.1; rw [HBad.out] at h1; cases h1) rfl HB2.out
        · go_wp2
          go_ret2
          exact HNo.out _ _ (fun h => by have h1 := h.1; rw [HBad.out] at h1; cases h1) rfl HB2.out
      | false =>
        have hiJ : i = J.1 := by rcases hx with h | h; cases h; exact h
        subst hiJ
        have HFi : Hid (D.2.2 = false ∧ x = D.2.1) := ⟨HA.out.1.symm, HA.out.2 HA.out.1.symm⟩
        by_cases hxl : x < n
        · go_wp2
          go_ret2
          exact HNo.out _ _ (fun h => by have h1 := h.2.1; rw [← HFi.out.2] at h1; omega) rfl HB2.out
        · have HWD : Hid (∀ s ∈ Z.map snapOf, SWide s) := by
            have := (HWI.out HFi.out.1 (by rw [← HFi.out.2, ← HN.out]; omega)).2
            rw [HZ.out rfl] at this
            exact this
          have HCM : Hid (Calls _ _ _ _ _) := may_any a0 n0 c0 (Z.map snapOf) wr HZN.out HLZ.out (by omega) HWD.out
          go_wp2_with fail
          refine HCM.out.mono ?_
          rintro e w3 ⟨b, rfl, hb⟩
          have HB3 : Hid (Below w.heap.size w w3) := HB2.out.trans (hb.out.2.mono HB2.out.size)
          have HBI : Hid (b = true ↔ May D.1) := by show _ ↔ _; rw [HZ.out (by first | rfl | trivial)]; exact hb.out.1
          have HRW : Hid (SRow w.heap.size (.slice a0 n0 c0) Z w3) := by
            show SRow _ _ _ _
            rw [HN0.out]
            exact SRow.any (HS.out.row.below hb.out.2) HBW.out.size
          clear hb HCM
          cases b with
          | true =>
            go_wp2
            go_ret2
            exact HYes.out _ _ ⟨HFi.out.1, by rw [← HFi.out.2]; omega, HBI.out.1 (by first | rfl | trivial)⟩ ⟨_, Z, rfl, (HZ.out (by first | rfl | trivial)).symm, HRW.out, HB3.out⟩
          | false =>
            go_wp2
            go_ret2
            exact HNo.out _ _ (fun h => by have := HBI.out.2 h.2.2; cases this) rfl HB3.out
end Go.Proofs.Ytlpgdfdadkljfaa.Img
