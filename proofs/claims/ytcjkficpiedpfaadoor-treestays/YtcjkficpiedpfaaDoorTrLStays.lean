/-
  TreeStays, walked: whatever entries, files, cut and text, the call returns true, and makes memory of its own alone.
-/
import Derived.Test.YtcjkficpiedpfaaDoorTrStay2
namespace Go.Proofs.YtcjkficpiedpfaaDoor.Tree
open Go.RowKit Route Chunk

set_option maxHeartbeats 4000000 in
set_option maxRecDepth 100000 in
theorem stays_some (a : Option Addr) (n cap : Nat) (l : List (ByteArray × Int × List ByteArray)) (fa : Option Addr) (fn fcap : Nat) (fl : List (ByteArray × ByteArray)) (mn mx mk : Int) (path : ByteArray) (w : World) (hg : Known w) (hl : EntsIn w a n cap l) (hfl : LiesF w fa fl) (hfn : fa = none → fcap = 0)
    (hok : EntsOk n l) (hfok : FilesOk fn fl) (hp : path.size ≤ 2000) :
    Calls Tryd.prog 7 #[.slice a n cap, .slice fa fn fcap, cutV mn mx mk, .string path] w fun e w' => e = .returned (.bool true) ∧ Below w.heap.size w w' := by
  have HUP : Hid (Calls Tryd.prog 9 #[] (w.alloc (.cells #[.int .i64 mn, .int .i64 mx, .int .i64 mk] 43)) fun e w' => e = .returned (.bool true) ∧ Below (w.alloc (.cells #[.int .i64 mn, .int .i64 mx, .int .i64 mk] 43)).heap.size (w.alloc (.cells #[.int .i64 mn, .int .i64 mx, .int .i64 mk] 43)) w') := up_any _ (hg.below ((Below.refl _ _).alloc (Nat.le_refl _) _) (Nat.le_refl _))
  have HSH : Hid (∀ W, Below w.heap.size w W → Calls Tryd.prog 10 #[.slice a n cap] W fun e w' => Shorts e n l ∧ w' = W) := fun W hb => short_any a n cap l W hl.1 (hl.2.1.below hb (Nat.le_refl _))
  have HFW : Hid (∀ W, Below w.heap.size w W → Calls Tryd.prog 18 #[.slice fa fn fcap] W fun e w' => Fews e fn fl ∧ w' = W) := fun W hb => few_any fa fn fcap fl W hfok.1 (hfl.below hb (Nat.le_refl _))
  have hks : ∀ j, j < n → (entOf l j).2.2.length ≤ 1000000 := fun j hj => Nat.le_trans (hok.2.2 j hj).2.1 (by omega)
  have HN : Hid (n = l.length) := hl.1
  have HFN : Hid (fn = fl.length) := hfok.1
  have HLE : Hid (LiesE w a l) := hl.2.1
  have HLF : Hid (LiesF w fa fl) := hfl
  have HNIL : Hid (fa = none → fcap = 0) := hfn
  have HCP : Hid (∀ W, Below w.heap.size w W → Calls Tryd.prog 25 #[.slice a n cap] W fun e w' => ∃ v Z, e = .returned v ∧ Ents W.heap.size v Z W w' ∧ Z.map (·.1) = l) := fun W hb => copy_any a n cap l W hl.1 (hl.2.1.below hb (Nat.le_refl _)) (by have := hok.2.1; omega) hks
  have HSA : Hid (∀ (a a' : Option Addr) (cap cap' : Nat) W, LiesE W a l → LiesE W a' l → Calls Tryd.prog 21 #[.slice a n cap, .slice a' n cap'] W fun e w' => e = .returned (.bool true) ∧ Below W.heap.size W w') := fun a a' cap cap' W h1 h2 => sameAll_yes a a' n cap cap' l W hl.1 h1 h2 (by have := hok.2.1; omega) hks
  have HFF : Hid (∀ (a a' : Option Addr) (cap cap' : Nat) W, LiesF W a fl → LiesF W a' fl → Calls Tryd.prog 24 #[.slice a fn cap, .slice a' fn cap'] W fun e w' => e = .returned (.bool true) ∧ Below W.heap.size W w') := fun a a' cap cap' W h1 h2 => files_yes a a' fn cap cap' fl W hfok.1 h1 h2 (by have := hfok.2.1; omega)
  have HFD : Hid (∀ (a : Option Addr) (cap : Nat) W, LiesE W a l → n ≤ cap → Calls Tryd.prog 12 #[.slice a n cap, .string path] W fun e w' => ∃ p sz v ks E, e = .returned (.tuple #[.agg #[.string p, .int .i64 sz, v], E]) ∧ Strs W.heap.size v ks W w' ∧ ks.length ≤ 1200) := fun a cap W h1 h2 => find_some a n cap l path W hok h1 h2
  have HRS : Hid (∀ (a : Option Addr) (cap : Nat) W, LiesE W a l → n ≤ cap → Calls Tryd.prog 22 #[.slice a n cap, .slice none 0 0] W fun e w' => (∃ v E, e = .returned (.tuple #[v, E])) ∧ Below W.heap.size W w') := fun a cap W h1 h2 => restore_some a n cap l W hok h1 h2
  obtain ⟨L, hL1, hL2⟩ := build_one fn fl mn mx mk
  obtain ⟨hL3, hL4⟩ := hL1 hfok
  obtain ⟨m6, hm6⟩ : ∃ m6, m6 = L.length := ⟨_, rfl⟩
  have HM : Hid (m6 = L.length) := hm6
  rw [← hm6] at hL3 hL4
  have HBD : Hid (∀ (a : Option Addr) (cap : Nat) W, LiesF W a fl → fn ≤ cap → Calls Tryd.prog 19 #[.slice a fn cap, .agg #[.int .i64 mn, .int .i64 mx, .int .i64 mk]] W fun e w' => ∃ v Y E, e = .returned (.tuple #[v, E]) ∧ Ents W.heap.size v Y W w' ∧ Y.map (·.1) = L) := fun a cap W h1 h2 => hL2 a cap W h1 h2 hfok
  have HSL : Hid (∀ (a a' : Option Addr) (cap cap' : Nat) W, LiesE W a L → LiesE W a' L → Calls Tryd.prog 21 #[.slice a m6 cap, .slice a' m6 cap'] W fun e w' => e = .returned (.bool true) ∧ Below W.heap.size W w') := fun a a' cap cap' W h1 h2 => sameAll_yes a a' m6 cap cap' L W hm6 h1 h2 (by omega) hL4
  have HCL : Hid (∀ (a : Option Addr) (cap : Nat) W, LiesE W a L → Calls Tryd.prog 25 #[.slice a m6 cap] W fun e w' => ∃ v Z, e = .returned v ∧ Ents W.heap.size v Z W w' ∧ Z.map (·.1) = L) := fun a cap W h1 => copy_any a m6 cap L W hm6 h1 (by omega) hL4
  obtain ⟨z, hz⟩ : ∃ z, z = path.size := ⟨_, rfl⟩
  have hlen := Tree.len_text path z hz
  rw [← hz] at hp
  have hnm : n ≤ 100 := hok.2.1
  have hfm : fn ≤ 101 := hfok.2.1
  clear hg hl hfl hfn hok hfok hz hks hL1 hL2 hL4 hm6
  unfold cutV
  go_enter Tryd.func7, Tryd.ntmps7
  go_wp2_with fail
  refine HUP.out.mono ?_
  rintro e w1 ⟨rfl, hb1⟩
  obtain ⟨c0, c1, c2, hbw, _⟩ := cut_box hb1
  have HBW : Hid (Below w.heap.size w w1) := hbw
  clear hb1 hbw
  go_wp2_with fail
  refine (HSH.out _ HBW.out).mono ?_
  rintro e w2 ⟨⟨b, rfl, _⟩, rfl⟩
  go_wp2_with fail
  refine (HFW.out _ HBW.out).mono ?_
  rintro e w3 ⟨⟨b', rfl, _⟩, rfl⟩
  cases b with
  | false =>
    go_wp2
    go_ret
    exact ⟨rfl, HBW.out⟩
  | true =>
    cases b' with
    | false =>
      go_wp2
      go_ret
      exact ⟨rfl, HBW.out⟩
    | true =>
      go_wp2_with fail
      refine (HCP.out _ HBW.out).mono ?_
      rintro e w4 ⟨v4, Z4, rfl, hen4, hz4⟩
      obtain ⟨a4, cap4, rfl, hc4, hl4⟩ := hen4.liesN (n := n) (by rw [HN.out, ← hz4, List.length_map])
      rw [hz4] at hl4
      have HL4 : Hid (LiesE w4 a4 l) := hl4
      have HB4 : Hid (Below w.heap.size w w4) := HBW.out.trans (hen4.2.1.mono HBW.out.size)
      have d0 := cell_kept hen4.2.1 c0
      have d1 := cell_kept hen4.2.1 c1
      have d2 := cell_kept hen4.2.1 c2
      have HLF4 : Hid (LiesF (w4.alloc (.cells #[] 58)) fa fl) := HLF.out.below (HB4.out.alloc HB4.out.size _) (Nat.le_refl _)
      clear hen4 hz4 hl4 c0 c1 c2
      go_wp2_with (at_builtin; refine wpList_files rfl (.tmp 42) (.tmp 43) rfl w4.heap.size _ [] rfl w4 _ (FRow.fresh w4) fl fa fn fcap rfl HFN.out HLF4.out HNIL.out (by rw [List.length_nil]; omega) ?_; rw [List.nil_append]; intro v5 w5 hf5; obtain ⟨a5, cap5, rfl, hc5, hl5⟩ := hf5.liesN HFN.out; have e0 := cell_kept hf5.2.1 d0; have e1 := cell_kept hf5.2.1 d1; have e2 := cell_kept hf5.2.1 d2)
      have HL5 : Hid (LiesF w5 a5 fl) := hl5
      have HB45 : Hid (Below w4.heap.size w4 w5) := hf5.2.1
      clear hf5 hl5 d0 d1 d2 HLF4
      refine (HBD.out a5 cap5 w5 HL5.out hc5).mono ?_
      rintro e w6 ⟨v6, Y6, E6, rfl, hen6, hY6⟩
      obtain ⟨a6, cap6, rfl, hc6, hl6⟩ := hen6.liesN (n := m6) (by rw [HM.out, ← hY6, List.length_map])
      rw [hY6] at hl6
      have HO6 : Hid (∃ xs, w6.ownsRow w5.heap.size 30 3 (.slice a6 m6 cap6) m6 xs) := ⟨_, by rw [HM.out, ← hY6, List.length_map]; have := hen6.1; rw [HM.out, ← hY6, List.length_map] at this; exact this⟩
      have HL6 : Hid (LiesE w6 a6 L) := hl6
      have HB56 : Hid (Below w5.heap.size w5 w6) := hen6.2.1
      have HL46 : Hid (LiesE w6 a4 l) := (HL4.out.below HB45.out (Nat.le_refl _)).below HB56.out (Nat.le_refl _)
      have HC5 : Hid (w5.cell? ⟨w.heap.size, 0, none⟩ = some (.int .i64 mn) ∧ w5.cell? ⟨w.heap.size, 1, none⟩ = some (.int .i64 mx) ∧ w5.cell? ⟨w.heap.size, 2, none⟩ = some (.int .i64 mk)) := ⟨e0, e1, e2⟩
      clear hen6 hY6 hl6 e0 e1 e2
      go_wp2_with fail
      refine (HFD.out a4 cap4 w6 HL46.out hc4).mono ?_
      rintro e w7 ⟨p7, z7, v7, ks7, E7, rfl, hs7, hk7⟩
      obtain ⟨kn, hkn⟩ : ∃ kn, kn = ks7.length := ⟨_, rfl⟩
      obtain ⟨a7, cap7, rfl, _, _, _⟩ := hs7.liesN hkn
      have HO7 : Hid (∃ xs, w7.ownsRow w6.heap.size 9 1 (.slice a7 kn cap7) kn xs) := ⟨_, by have := hs7.1; rw [← hkn] at this; exact this⟩
      have HB67 : Hid (Below w6.heap.size w6 w7) := hs7.2.1
      rw [← hkn] at hk7
      clear hs7 hkn
      go_wp2_with fail
      refine (HRS.out a4 cap4 _ ((HL46.out.below HB67.out (Nat.le_refl _)).below ((Below.refl _ _).alloc (Nat.le_refl _) _) (Nat.le_refl _)) hc4).mono ?_
      rintro e w9 ⟨⟨v9, E9, rfl⟩, hb9⟩
      obtain ⟨y0, y1, y2, hb79, hlt79⟩ := ent_box hb9
      have HY9 : Hid (w9.cell? ⟨w7.heap.size, 2, none⟩ = some (.slice a7 kn cap7)) := y2
      have HB79 : Hid (Below w7.heap.size w7 w9) := hb79
      have HT79 : Hid (w7.heap.size < w9.heap.size) := hlt79
      have HB69 : Hid (Below w6.heap.size w6 w9) := HB67.out.trans (HB79.out.mono HB67.out.size)
      have HB59 : Hid (Below w5.heap.size w5 w9) := HB56.out.trans (HB69.out.mono HB56.out.size)
      have HB49 : Hid (Below w4.heap.size w4 w9) := HB45.out.trans (HB59.out.mono HB45.out.size)
      have HB09 : Hid (Below w.heap.size w w9) := HB4.out.trans (HB49.out.mono HB4.out.size)
      clear y0 y1 y2 hb79 hlt79 hb9
      go_wp2_with fail
      refine (HSA.out a4 a cap4 cap w9 (HL4.out.below HB49.out (Nat.le_refl _)) (HLE.out.below HB09.out (Nat.le_refl _))).mono ?_
      rintro e w10 ⟨rfl, hb10⟩
      have HB910 : Hid (Below w9.heap.size w9 w10) := hb10
      clear hb10
      go_wp2_with fail
      refine (HFF.out a5 fa cap5 fcap w10 ((HL5.out.below HB59.out (Nat.le_refl _)).below HB910.out (Nat.le_refl _)) ((HLF.out.below HB09.out (Nat.le_refl _)).below HB910.out (Nat.le_refl _))).mono ?_
      rintro e w11 ⟨rfl, hb11⟩
      have HB911 : Hid (Below w9.heap.size w9 w11) := HB910.out.trans (hb11.mono HB910.out.size)
      clear hb11
      go_wp2_with fail
      refine (HCL.out a6 cap6 w11 ((HL6.out.below HB69.out (Nat.le_refl _)).below HB911.out (Nat.le_refl _))).mono ?_
      rintro e w12 ⟨v12, Z12, rfl, hen12, hZ12⟩
      obtain ⟨a12, cap12, rfl, hc12, _⟩ := hen12.liesN (n := m6) (by rw [HM.out, ← hZ12, List.length_map])
      have HB912 : Hid (Below w9.heap.size w9 w12) := HB911.out.trans (hen12.2.1.mono HB911.out.size)
      have HZ12 : Hid (Z12.map (·.1) = L) := hZ12
      have HS12 : Hid (St w5 a6 m6 cap6 w6.heap.size w7.heap.size a7 kn cap7 w11.heap.size (.slice a12 m6 cap12) Z12 w12) := by
        obtain ⟨x6, ho6⟩ := HO6.out
        obtain ⟨x7, ho7⟩ := HO7.out
        exact ⟨HB59.out.trans (HB912.out.mono HB59.out.size), RowIn.of ho6 (HB69.out.trans (HB912.out.mono HB69.out.size)), cell_kept HB912.out HY9.out, RowIn.of ho7 (HB79.out.trans (HB912.out.mono HB79.out.size)), ⟨hen12.1, hen12.2.2.2⟩, hen12.2.2.1, HB56.out.size, HB67.out.size, Nat.lt_of_lt_of_le HT79.out HB911.out.size⟩
      clear hen12 hZ12 HO6 HO7
      go_wp2
      go_loopw [19] (fun t19 wr => ∃ i : Nat, t19 = .int .i64 (i : Int) ∧ i ≤ m6 ∧ Hid (St w5 a6 m6 cap6 w6.heap.size w7.heap.size a7 kn cap7 w11.heap.size (.slice a12 m6 cap12) Z12 wr)) (fun t19 _ => m6 - (intOf t19).toNat)
      case atStart => exact ⟨0, rfl, Nat.zero_le _, HS12⟩
      case round =>
        obtain ⟨i, rfl, hi, HSR⟩ := hrel
        by_cases hin : i < m6
        · obtain ⟨j, hj⟩ : ∃ j, j = i * 3 := ⟨_, rfl⟩
          obtain ⟨g, rfl, ⟨x, hx⟩, hfz, hst⟩ := HSR.out.one j (by omega) (.string ⟨#[]⟩)
          have hix := index_ent0 g m6 cap6 i j hj hin
          have HST : Hid (St w5 (some ⟨g, 0, none⟩) m6 cap6 w6.heap.size w7.heap.size a7 kn cap7 w11.heap.size (.slice a12 m6 cap12) Z12 (wr.setCell ⟨g, j, none⟩ (.string ⟨#[]⟩))) := hst
          clear hst hj HSR
          go_wp2
          go_roundw
          case rel => exact ⟨i + 1, by go_num, by omega, HST⟩
          case measure => simp [intOf]; omega
        · go_wp2
          go_loopw [20] (fun t20 wq => ∃ i : Nat, t20 = .int .i64 (i : Int) ∧ i ≤ kn ∧ Hid (St w5 a6 m6 cap6 w6.heap.size w7.heap.size a7 kn cap7 w11.heap.size (.slice a12 m6 cap12) Z12 wq)) (fun t20 _ => kn - (intOf t20).toNat)
          case atStart => exact ⟨0, rfl, Nat.zero_le _, HSR⟩
          case round =>
            obtain ⟨j, rfl, hj, HSQ⟩ := hrel
            have hcy := HSQ.out.2.2.1
            by_cases hjn : j < kn
            · obtain ⟨g, rfl, ⟨x, hx⟩, hfz, hst⟩ := HSQ.out.two j hjn (.string ⟨#[]⟩)
              have HST : Hid (St w5 a6 m6 cap6 w6.heap.size w7.heap.size (some ⟨g, 0, none⟩) kn cap7 w11.heap.size (.slice a12 m6 cap12) Z12 (wr.setCell ⟨g, j, none⟩ (.string ⟨#[]⟩))) := hst
              clear hst HSQ HSR
              go_wp2
              go_roundw
              case rel => exact ⟨j + 1, by go_num, by omega, HST⟩
              case measure => simp [intOf]; omega
            · have hb5 := HSQ.out.1
              obtain ⟨f0, f1, f2⟩ := HC5.out
              have e0 := cell_kept hb5 f0
              have e1 := cell_kept hb5 f1
              have e2 := cell_kept hb5 f2
              have HB5r : Hid (Below w5.heap.size w5 wr) := hb5
              have HB4r : Hid (Below w4.heap.size w4 wr) := HB45.out.trans (hb5.mono HB45.out.size)
              have HB0r : Hid (Below w.heap.size w wr) := HB4.out.trans (HB4r.out.mono HB4.out.size)
              have HLW : Hid (LiesE wr a12 L) := by
                have := HSQ.out.2.2.2.2.1.lies HSQ.out.2.2.2.2.2.1
                rw [HZ12.out] at this
                exact this
              clear hb5 f0 f1 f2 HSQ HSR
              go_wp2_with fail
              refine (HBD.out a5 cap5 wr (HL5.out.below HB5r.out (Nat.le_refl _)) hc5).mono ?_
              rintro e w14 ⟨v14, Y14, E14, rfl, hen14, hY14⟩
              obtain ⟨a14, cap14, rfl, hc14, hl14⟩ := hen14.liesN (n := m6) (by rw [HM.out, ← hY14, List.length_map])
              rw [hY14] at hl14
              have HL14 : Hid (LiesE w14 a14 L) := hl14
              have HBr14 : Hid (Below wr.heap.size wr w14) := hen14.2.1
              clear hen14 hY14 hl14 e0 e1 e2 hcy
              go_wp2_with fail
              refine (HSL.out a14 a12 cap14 cap12 w14 HL14.out (HLW.out.below HBr14.out (Nat.le_refl _))).mono ?_
              rintro e w15 ⟨rfl, hb15⟩
              have HBr15 : Hid (Below wr.heap.size wr w15) := HBr14.out.trans (hb15.mono HBr14.out.size)
              clear hb15
              go_wp2_with fail
              refine (HSA.out a4 a cap4 cap w15 ((HL4.out.below HB4r.out (Nat.le_refl _)).below HBr15.out (Nat.le_refl _)) ((HLE.out.below HB0r.out (Nat.le_refl _)).below HBr15.out (Nat.le_refl _))).mono ?_
              rintro e w16 ⟨rfl, hb16⟩
              go_wp2
              go_ret
              exact ⟨rfl, HB0r.out.trans ((HBr15.out.trans (hb16.mono HBr15.out.size)).mono HB0r.out.size)⟩

theorem treeStays_walk (a : Option Addr) (l : List (ByteArray × Int × List ByteArray)) (n cap : Nat) (fa : Option Addr) (fl : List (ByteArray × ByteArray)) (fn fcap : Nat) (mn mx mk : Int) (path : ByteArray) (w : World) (hg : Known w) (hl : EntsIn w a n cap l) (hfl : fn = fl.length ∧ LiesF w fa fl ∧ fn ≤ fcap ∧ (fa = none → fcap = 0)) (hp : path.size ≤ maxLen) :
    Calls Tryd.prog 7 #[.slice a n cap, .slice fa fn fcap, cutV mn mx mk, .string path] w fun e w' => e = .returned (.bool true) ∧ Below w.heap.size w w' := by
  by_cases h : EntsOk n l ∧ FilesOk fn fl ∧ path.size ≤ 2000
  · exact stays_some a n cap l fa fn fcap fl mn mx mk path w hg hl hfl.2.1 hfl.2.2.2 h.1 h.2.1 h.2.2
  · exact stays_none a n cap l fa fn fcap fl mn mx mk path w hg hl ⟨hfl.1, hfl.2.1⟩ hp h
end Go.Proofs.YtcjkficpiedpfaaDoor.Tree
