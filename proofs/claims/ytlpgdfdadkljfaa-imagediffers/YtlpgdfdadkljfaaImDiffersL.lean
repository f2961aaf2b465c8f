/-
  The walk of ImageDiffers.
-/
import Derived.Test.YtlpgdfdadkljfaaImSame
import Derived.Test.YtlpgdfdadkljfaaImDiff
import Derived.Test.YtlpgdfdadkljfaaImOwnL
namespace Go.Proofs.Ytlpgdfdadkljfaa.Img
open Go.RowKit Route Tree Order Cat

theorem differ_nil (p : Nat) (w : World) : Calls Try.prog 18 #[.pointer (some ⟨p, 0, none⟩), .pointer none] w fun e w' => e = .returned (.tuple #[.slice none 0 0, .iface 36 (.int .i64 1)]) ∧ w' = w := by
  go_enter Try.func18, Try.ntmps18
  go_wp2
  go_ret2
  exact ⟨rfl, rfl⟩
theorem neArg2 (w : World) : (binOp .neq 27 (.iface 36 (.int .i64 1)) (.iface 36 (.int .i64 1))).run Try.prog w = .ok (.bool false) w := by kernel_rfl

theorem few_own {S : List Snap} {k : Nat} (h : ∀ s ∈ S, SGiven s) : FewL (ownS k S) := fun s hs => by
  have h1 := h s (List.mem_filter.1 hs).1
  exact ⟨by have := h1.2.2.1; omega, fun j hj => by have := (h1.2.2.2 j hj).2.1; omega⟩

set_option maxRecDepth 100000 in
theorem index_num (g n cap i : Nat) (hi : i < n) (w : World) : (Instr.indexAt 45 (.slice (some ⟨g, 0, none⟩) n cap) (.int .i64 (i : Int))).run Try.prog w = .ok (.pointer (some ⟨g, i, none⟩)) w := by
  rw [run_indexAt_slice w 45 ⟨g, 0, none⟩ n cap .i64 i (by kernel_rfl), if_pos (by omega)]
  have e : (⟨g, 0, none⟩ : Addr).add (i * 1) = ⟨g, i, none⟩ := by unfold Addr.add; split <;> simp_all
  rw [← e]
  rfl

set_option maxHeartbeats 16000000 in
set_option maxRecDepth 100000 in
theorem imageDiffers_main (a : Option Addr) (n cap : Nat) (S : List Snap) (a' : Option Addr) (n' cap' : Nat) (S' : List Snap) (w : World) (hn : n = S.length) (hl : LiesN w a S) (hn' : n' = S'.length) (hl' : LiesN w a' S') (hm : n ≤ 9223372036854775807) (hm' : n' ≤ 9223372036854775807) :
    Calls Try.prog 5 #[.slice a n cap, .slice a' n' cap'] w fun e w' => e = .returned (.bool true) ∧ Below w.heap.size w w' := by
  have HN : Hid (n = S.length ∧ n' = S'.length) := ⟨hn, hn'⟩
  have HL : Hid (∀ W, Below w.heap.size w W → LiesN W a S ∧ LiesN W a' S') := fun W hb => ⟨hl.below hb (Nat.le_refl _), hl'.below hb (Nat.le_refl _)⟩
  have HU : Hid (Calls _ _ _ _ _) := up_any w
  have q1 := eqNil0
  have q3 := neArg2
  clear hn hl hn' hl'
  go_enter Try.func5, Try.ntmps5
  go_wp2_with fail
  refine HU.out.mono ?_
  rintro e w1 ⟨rfl, hb1⟩
  have HB1 : Hid (Below w.heap.size w w1) := hb1
  have HS : Hid (Calls _ _ _ _ _) := shortS_any a n cap S w1 HN.out.1 (HL.out _ hb1).1
  have HS2 : Hid (Calls _ _ _ _ _) := shortS_any a' n' cap' S' w1 HN.out.2 (HL.out _ hb1).2
  clear HU hb1
  go_wp2_with fail
  refine HS.out.mono ?_
  rintro e w2 ⟨b, rfl, rfl, H2⟩
  clear HS
  cases b with
  | false =>
    go_wp2
    go_ret
    exact ⟨by rfl, HB1.out⟩
  | true =>
  have HG : Hid (n ≤ 100 ∧ ∀ s ∈ S, SGiven s) := H2.out rfl
  clear H2
  go_wp2_with fail
  refine HS2.out.mono ?_
  rintro e w3 ⟨b, rfl, rfl, H3⟩
  clear HS2
  cases b with
  | false =>
    go_wp2
    go_ret
    exact ⟨by rfl, HB1.out⟩
  | true =>
  have HG2 : Hid (n' ≤ 100 ∧ ∀ s ∈ S', SGiven s) := H3.out rfl
  have HM : Hid (Calls _ _ _ _ _) := may_true a n cap S w3 HN.out.1 (HL.out _ HB1.out).1 HG.out.1 HG.out.2
  clear H3
  go_wp2_with fail
  refine HM.out.mono ?_
  rintro e w4 ⟨b, rfl, H4⟩
  have HB4 : Hid (Below w.heap.size w w4) := HB1.out.trans (H4.out.2.mono HB1.out.size)
  clear HM HB1
  cases b with
  | false =>
    go_wp2
    go_ret
    exact ⟨by rfl, HB4.out⟩
  | true =>
  have HMY : Hid (May S) := H4.out.1 rfl
  have HM2 : Hid (Calls _ _ _ _ _) := may_true a' n' cap' S' w4 HN.out.2 (HL.out _ HB4.out).2 HG2.out.1 HG2.out.2
  clear H4
  go_wp2_with fail
  refine HM2.out.mono ?_
  rintro e w5 ⟨b, rfl, H5⟩
  have HB5 : Hid (Below w.heap.size w w5) := HB4.out.trans (H5.out.2.mono HB4.out.size)
  clear HM2 HB4
  cases b with
  | false =>
    go_wp2
    go_ret
    exact ⟨by rfl, HB5.out⟩
  | true =>
  have HMY2 : Hid (May S') := H5.out.1 rfl
  have HI : Hid (Inv S ∧ Inv S') := ⟨May.inv HMY.out, May.inv HMY2.out⟩
  have hn64 : n ≤ 64 := by rw [HN.out.1]; exact inv_len HI.out.1
  have hn64' : n' ≤ 64 := by rw [HN.out.2]; exact inv_len HI.out.2
  have HFR : Hid (Calls _ _ _ _ _) := from_any a n cap S w5 HN.out.1 (HL.out _ HB5.out).1 (by omega) HG.out.2
  clear H5
  go_wp2_with fail
  refine HFR.out.mono ?_
  rintro e w6 hfr
  obtain ⟨p, v, Z, rfl, H6⟩ : ∃ p v Z, e = .returned (.tuple #[.pointer (some ⟨p, 0, none⟩), .nilIface]) ∧ Hid (Z.map snapOf = S ∧ Cat p p v Z w6 ∧ Below w5.heap.size w5 w6) := by
    rcases hfr with ⟨_, v, Z, h1, h2, h3, h4⟩ | ⟨h, _⟩
    · exact ⟨_, v, Z, h1, h2, h3, h4⟩
    · exact absurd HMY.out h
  have HB6 : Hid (Below w.heap.size w w6) := HB5.out.trans (H6.out.2.2.mono HB5.out.size)
  have HFR2 : Hid (Calls _ _ _ _ _) := from_any a' n' cap' S' w6 HN.out.2 (HL.out _ HB6.out).2 (by omega) HG2.out.2
  clear hfr HFR HB5 HMY
  go_wp2_with fail
  refine HFR2.out.mono ?_
  rintro e w7 hfr
  obtain ⟨p2, v2, Z2, rfl, H7⟩ : ∃ p v Z, e = .returned (.tuple #[.pointer (some ⟨p, 0, none⟩), .nilIface]) ∧ Hid (Z.map snapOf = S' ∧ Cat p p v Z w7 ∧ Below w6.heap.size w6 w7) := by
    rcases hfr with ⟨_, v, Z, h1, h2, h3, h4⟩ | ⟨h, _⟩
    · exact ⟨_, v, Z, h1, h2, h3, h4⟩
    · exact absurd HMY2.out h
  have HB7 : Hid (Below w.heap.size w w7) := HB6.out.trans (H7.out.2.2.mono HB6.out.size)
  have HDF : Hid (Calls _ _ _ _ _) := differ_told (H6.out.2.1.below H7.out.2.2) H7.out.2.1 H6.out.1 H7.out.1 HI.out.1 HI.out.2
  clear hfr HFR2 HB6 HMY2 H6 H7
  go_wp2_with fail
  refine HDF.out.mono ?_
  rintro e w8 ⟨v8, rfl, H8⟩
  obtain ⟨ad, cd, rfl, HDA⟩ : ∃ ad cd, v8 = .slice ad (difL S S' 8).length cd ∧ Hid (∀ j, j < (difL S S' 8).length → ∃ g, ad = some ⟨g, 0, none⟩ ∧ w8.cell? ⟨g, j, none⟩ = some (.int .i64 (((difL S S' 8).getD j 0 : Nat) : Int))) := by
    obtain ⟨w0, h, _⟩ := H8.out
    exact h.tell
  have HB8 : Hid (Below w.heap.size w w8) := by
    obtain ⟨w0, h, h2⟩ := H8.out
    have h3 := HB7.out.trans (h2.mono HB7.out.size)
    exact h3.trans (h.bel.mono h3.size)
  have HDN : Hid (Calls _ _ _ _ _) := differ_nil p w8
  obtain ⟨nd, hnd⟩ : ∃ nd, nd = (difL S S' 8).length := ⟨_, rfl⟩
  have HND : Hid (nd = (difL S S' 8).length) := hnd
  have hnd8 : nd ≤ 8 := by rw [hnd]; exact difL_len S S' 8
  rw [← hnd]
  rw [← hnd] at HDA
  clear H8 HDF HB7 hnd
  go_wp2_with fail
  refine HDN.out.mono ?_
  rintro e w9 ⟨rfl, rfl⟩
  clear HDN
  go_wp2
  go_loopw [15, 16] (fun t15 t16 wr => ∃ (i m : Nat), t16 = .int .i64 (i : Int) ∧ t15 = .int .i64 (m : Int) ∧ i ≤ 8 ∧ m ≤ i ∧ Hid (m = (difL S S' i).length ∧ Below w9.heap.size w9 wr)) (fun _ t16 _ => 8 - (intOf t16).toNat)
  case atStart => exact ⟨0, 0, rfl, rfl, Nat.zero_le _, Nat.le_refl _, rfl, Below.refl _ _⟩
  case round =>
    rename World => W
    obtain ⟨i, m, rfl, rfl, hi, hmi, HQ⟩ := hrel
    by_cases hi8 : i < 8
    · have HBW : Hid (Below w.heap.size w W) := HB8.out.trans (HQ.out.2.mono HB8.out.size)
      have HO1 : Hid (Calls _ _ _ _ _) := own_lies (cap := cap) i (HL.out _ HBW.out).1 HN.out.1 (by omega)
      go_wp2_with fail
      refine HO1.out.mono ?_
      rintro e w10 ⟨a10, n10, c10, rfl, H10⟩
      have HB10 : Hid (Below w.heap.size w w10 ∧ Below w9.heap.size w9 w10) := ⟨HBW.out.trans (H10.out.2.2.mono HBW.out.size), HQ.out.2.trans (H10.out.2.2.mono HQ.out.2.size)⟩
      have HO2 : Hid (Calls _ _ _ _ _) := own_lies (cap := cap') i (HL.out _ HB10.out.1).2 HN.out.2 (by omega)
      clear HO1 HBW
      go_wp2_with fail
      refine HO2.out.mono ?_
      rintro e w11 ⟨a11, n11, c11, rfl, H11⟩
      have HB11 : Hid (Below w.heap.size w w11 ∧ Below w9.heap.size w9 w11) := ⟨HB10.out.1.trans (H11.out.2.2.mono HB10.out.1.size), HB10.out.2.trans (H11.out.2.2.mono HB10.out.2.size)⟩
      have hn10 : n10 ≤ 1000 := by
        have h5 := List.length_filter_le (fun s : Snap => decide (s.1 = (i : Int))) S
        have h6 := H10.out.1
        have h7 := HN.out.1
        omega
      have HSM : Hid (Calls _ _ _ _ _) := sameS_dec a10 a11 n10 n11 c10 c11 (ownS i S) (ownS i S') w11 H10.out.1 H11.out.1 (H10.out.2.1.below H11.out.2.2 (Nat.le_refl _)) H11.out.2.1 hn10 (few_own HG.out.2) (few_own HG2.out.2)
      clear HO2 HB10 H10 H11
      go_wp2_with fail
      refine HSM.out.mono ?_
      rintro e w12 ⟨b, rfl, H12⟩
      have HB12 : Hid (Below w9.heap.size w9 w12) := HB11.out.2.trans (H12.out.2.mono HB11.out.2.size)
      clear HSM HB11
      cases b with
      | true =>
        have HM : Hid (m = (difL S S' (i + 1)).length ∧ Below w9.heap.size w9 w12) := ⟨by rw [difL_same (congrArg encI (H12.out.1.1 rfl))]; exact HQ.out.1, HB12.out⟩
        clear H12 HQ HB12
        go_wp2
        go_roundw
        case rel => exact ⟨i + 1, m, by go_num, rfl, by omega, by omega, HM⟩
        case measure => simp [intOf]; omega
      | false =>
        have hne : encI (ownS i S) ≠ encI (ownS i S') := fun h => by
          have := H12.out.1.2 (enc_inj HI.out.1 HI.out.2 h)
          cases this
        have hat := difL_at hi8 hne
        have hmd : m < nd := by rw [HQ.out.1, HND.out]; exact hat.1
        obtain ⟨g, hg, hc⟩ := HDA.out m hmd
        subst hg
        rw [HQ.out.1, hat.2] at hc
        rw [← HQ.out.1] at hc
        have hc2 := cell_below HB12.out (Nat.le_refl _) hc
        have hix := index_num g nd cd m hmd
        have HM : Hid (m + 1 = (difL S S' (i + 1)).length ∧ Below w9.heap.size w9 w12) := ⟨by rw [difL_not hne, List.length_append, HQ.out.1]; rfl, HB12.out⟩
        clear H12 HQ HB12 hne hat hc
        go_wp2
        go_roundw
        case rel => exact ⟨i + 1, m + 1, by go_num, by go_num, by omega, by omega, HM⟩
        case measure => simp [intOf]; omega
    · have hi9 : i = 8 := by omega
      subst hi9
      have hmn : m = nd := by rw [HQ.out.1, HND.out]
      subst hmn
      go_wp2
      go_ret
      exact ⟨by first | rfl | simp, HB8.out.trans (HQ.out.2.mono HB8.out.size)⟩

theorem imageDiffers_walk (a : Option Addr) (len cap : Nat) (a' : Option Addr) (len' cap' : Nat) (w : World) (h : ∃ S : List Snap, len = S.length ∧ LiesN w a S ∧ len ≤ 9223372036854775807) (h' : ∃ S : List Snap, len' = S.length ∧ LiesN w a' S ∧ len' ≤ 9223372036854775807) :
    Calls Try.prog 5 #[.slice a len cap, .slice a' len' cap'] w fun e w' => e = .returned (.bool true) ∧ Below w.heap.size w w' := by
  obtain ⟨S, h1, h2, h3⟩ := h
  obtain ⟨S', h1', h2', h3'⟩ := h'
  exact imageDiffers_main a len cap S a' len' cap' S' w h1 h2 h1' h2' h3 h3'
end Go.Proofs.Ytlpgdfdadkljfaa.Img
