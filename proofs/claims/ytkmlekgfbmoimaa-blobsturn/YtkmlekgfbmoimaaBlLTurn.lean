/-
  The walk of BlobsTurn.
-/
import Derived.Test.YtkmlekgfbmoimaaBlPick
namespace Go.Proofs.Ytkmlekgfbmoimaa.Blobs
open Go.RowKit Route

set_option maxHeartbeats 4000000 in
theorem turn_main (a : Option Addr) (l : List ByteArray) (len cap : Nat) (c : Int) (w : World) (hn : len = l.length) (hl : Lies w a l) (hs : ∀ s ∈ l, s.size ≤ maxLen) (h0 : 0 < len) (h1 : len ≤ 100) (hc1 : -9223372036854775808 ≤ c) (hc2 : c ≤ 9223372036854775807) :
    Calls Try.prog 4 #[.slice a len cap, .int .i64 c] w fun e w' => e = .returned (.bool true) ∧ Below w.heap.size w w' := by
  have HU : Hid (Calls _ _ _ _ _) := up_any w
  have HN : Hid (len = l.length) := hn
  have HL : Hid (Lies w a l) := hl
  have HS : Hid (∀ s ∈ l, s.size ≤ maxLen) := hs
  have HPK : Hid (∀ w, Calls Try.prog 9 #[.int .i64 c, .int .i64 (len : Int)] w fun e w' => (∃ q : Nat, q < len ∧ e = .returned (.int .i64 (q : Int))) ∧ w' = w) := fun w => pick_any c len w hc1 hc2 h0 (by omega)
  have hne := neNil
  have hlz : ((len : Int) == 0) = false := by simp; omega
  clear hn hl hs hc1 hc2
  go_enter Try.func4, Try.ntmps4
  go_wp2_with fail
  refine HU.out.mono ?_
  rintro e w1 ⟨rfl, hb1⟩
  have HW : Hid (Calls _ _ _ _ _) := new_ok 65536 w1 (by decide)
  have HB1 : Hid (Below w.heap.size w w1) := hb1
  have hz1 := hb1.size
  clear HU hb1
  go_wp2_with fail
  refine HW.out.mono ?_
  rintro e w2 ⟨rfl, hs2, hb2, hz2⟩
  have HS2 : Hid (StoreIn w2 (w1.heap.size + 1) w1.heap.size 65536 0 []) := hs2
  have HB2 : Hid (Below w.heap.size w w2) := HB1.out.trans (hb2.mono HB1.out.size)
  have HW2 : Hid (Calls _ _ _ _ _) := new_ok 65536 w2 (by decide)
  clear HW hs2 hb2
  go_wp2_with fail
  refine HW2.out.mono ?_
  rintro e w3 ⟨rfl, hs3, hb3, hz3⟩
  have HS3 : Hid (StoreIn w3 (w1.heap.size + 3) (w1.heap.size + 2) 65536 0 []) := by rw [hz2] at hs3; exact hs3
  have HS3' : Hid (StoreIn w3 (w1.heap.size + 1) w1.heap.size 65536 0 []) := HS2.out.below hb3
  have HB3 : Hid (Below w.heap.size w w3) := HB2.out.trans (hb3.mono HB2.out.size)
  have hz3' : w3.heap.size = w1.heap.size + 4 := by omega
  clear HW2 hs3 hb3 hz3 HS2
  generalize w1.heap.size = u at *
  rw [hz2]
  clear hz2 HB1 HB2
  go_wp2_with fail
  refine (HPK.out _).mono ?_
  rintro e w4 ⟨⟨k, hk, rfl⟩, rfl⟩
  go_wp2_with fail
  go_loopw [11] (fun t11 wr => ∃ i : Nat, t11 = .int .i64 (i : Int) ∧ i ≤ len ∧ u + 4 ≤ wr.heap.size ∧ Hid (Below w.heap.size w wr ∧ (∃ S, StoreIn wr (u + 1) u 65536 i S ∧ Fed (l.take i) S) ∧ ∃ T, StoreIn wr (u + 3) (u + 2) 65536 i T ∧ Fed (turned l len k i) T)) (fun t11 _ => len - (intOf t11).toNat)
  case atStart => exact ⟨0, rfl, Nat.zero_le _, by omega, HB3.out, ⟨[], HS3'.out, Fed.nil⟩, [], HS3.out, Fed.nil⟩
  case round =>
    obtain ⟨i, rfl, hi, hzr, HI⟩ := hrel
    by_cases hin : i < len
    · obtain ⟨hbr, ⟨S, hS, hF⟩, T, hT, hG⟩ := HI.out
      have hil : i < l.length := by rw [← HN.out]; exact hin
      obtain ⟨j, hj⟩ : ∃ j, j = (i + k) % len := ⟨_, rfl⟩
      have hjl : j < len := by rw [hj]; exact Nat.mod_lt _ h0
      have hjm : ((i : Int) + (k : Int)) % (len : Int) = (j : Int) := by rw [hj]; push_cast; rfl
      obtain ⟨x, hx, hc⟩ := (HL.out.below hbr (Nat.le_refl _)).cellAt (j := i) hil
      subst hx
      have HT : Hid (l.take (i + 1) = l.take i ++ [l.getD i ByteArray.empty]) := take_text hil
      have HT2 : Hid (turned l len k (i + 1) = turned l len k i ++ [l.getD j ByteArray.empty]) := by show _ = _; rw [turned_succ, hj]
      have hksz := HS.out _ (mem_getD.2 ⟨i, hil, rfl⟩)
      have hjsz := HS.out _ (mem_getD.2 ⟨j, by rw [← HN.out]; exact hjl, rfl⟩)
      have HLJ : Hid (∀ wr, Below w.heap.size w wr → wr.cell? (x.add j) = some (.string (l.getD j ByteArray.empty))) := fun wr hb => by
        obtain ⟨y, hy, hc⟩ := (HL.out.below hb (Nat.le_refl _)).cellAt (j := j) (by rw [← HN.out]; exact hjl)
        cases hy
        exact hc
      generalize l.getD i ByteArray.empty = s1 at hc HT hksz
      generalize l.getD j ByteArray.empty = s2 at HLJ HT2 hjsz
      have HP : Hid (Calls _ _ _ _ _) := put_go hS s1 hksz (by omega)
      have HF : Hid (Fed (l.take (i + 1)) (putS 65536 s1 S)) := by show Fed _ _; rw [HT.out]; exact hF.put s1 (by rw [List.length_take]; omega)
      have HG : Hid (Fed (turned l len k (i + 1)) (putS 65536 s2 T)) := by show Fed _ _; rw [HT2.out]; exact hG.put s2 (by rw [turned_len]; omega)
      have HBR : Hid (Below w.heap.size w wr) := hbr
      have HST : Hid (StoreIn wr (u + 3) (u + 2) 65536 i T) := hT
      have HJS : Hid (s2.size ≤ maxLen) := hjsz
      clear hS hF hbr HI hksz hT hG hj hjsz HT HT2
      go_wp2_with fail
      refine HP.out.mono ?_
      rintro e w5 ⟨v5, rfl, hs5, ht5⟩
      have HB5 : Hid (Below w.heap.size w w5) := Trn.later HBR.out ht5 (by omega) hz1
      have HS5 : Hid (StoreIn w5 (u + 1) u 65536 (i + 1) (putS 65536 s1 S)) := hs5
      have hT5 := HST.out.trn ht5 (by omega) (by omega) (by omega) (by omega)
      have HP5 : Hid (Calls _ _ _ _ _) := put_go hT5 s2 HJS.out (by omega)
      have hz5 : u + 4 ≤ w5.heap.size := Nat.le_trans hzr ht5.size
      have hc5 := HLJ.out w5 HB5.out
      clear hs5 ht5 HP hT5 HST
      go_wp2_with fail
      refine HP5.out.mono ?_
      rintro e w6 ⟨v6, rfl, hs6, ht6⟩
      have HR : Hid (Below w.heap.size w w6 ∧ (∃ S, StoreIn w6 (u + 1) u 65536 (i + 1) S ∧ Fed (l.take (i + 1)) S) ∧ ∃ T, StoreIn w6 (u + 3) (u + 2) 65536 (i + 1) T ∧ Fed (turned l len k (i + 1)) T) :=
        ⟨Trn.later HB5.out ht6 (by omega) (by omega), ⟨_, HS5.out.trn ht6 (by omega) (by omega) (by omega) (by omega), HF.out⟩, _, hs6, HG.out⟩
      have hz6 : u + 4 ≤ w6.heap.size := Nat.le_trans hz5 ht6.size
      clear hs6 ht6 HP5 hc5 HLJ
      go_wp2
      go_roundw
      case rel => exact ⟨i + 1, by go_num, by omega, hz6, HR⟩
      case measure => simp [intOf]; omega
    · obtain ⟨hbr, ⟨S, hS, hF⟩, T, hT, hG⟩ := HI.out
      obtain rfl : i = len := by omega
      obtain rfl : S = T := by
        rw [List.take_of_length_le (by rw [← HN.out]; exact Nat.le_refl _)] at hF
        exact fed_same hF hG hS.asc hT.asc fun s => (turned_mem HN.out h0 hk s).symm
      have hfew := hS.few
      obtain ⟨z, hz⟩ : ∃ z, z = S.length := ⟨_, rfl⟩
      obtain ⟨tz, htz⟩ : ∃ tz, tz = total S := ⟨_, rfl⟩
      rw [← hz] at hfew
      have HZ : Hid (z = S.length) := hz
      have HTW : Hid (Two w wr u i i S) := ⟨hS, hT, hbr, hz1, hzr⟩
      have HZZ : Hid (∀ wr, Two w wr u i i S → (Calls Try.prog 18 #[.pointer (some ⟨u + 1, 0, none⟩)] wr fun e w' => e = .returned (.int .i64 (tz : Int)) ∧ w' = wr) ∧ Calls Try.prog 18 #[.pointer (some ⟨u + 3, 0, none⟩)] wr fun e w' => e = .returned (.int .i64 (tz : Int)) ∧ w' = wr) := fun wr h => by
        rw [htz]; exact ⟨size_any h.one, size_any h.two⟩
      have htl : tz ≤ 65536 := by rw [htz]; exact Nat.le_trans hS.room hS.lim
      have HKY : Hid (∀ wr b, Two w wr u i i S → (b = u + 1 ∨ b = u + 3) → Calls Try.prog 17 #[.pointer (some ⟨b, 0, none⟩)] wr fun e w' => ∃ a c, e = .returned (.slice a z c) ∧ c ≤ maxLen ∧ Row wr.heap.size w' (.slice a z c) S ∧ Hid (Below wr.heap.size wr w') ∧ Two w w' u i i S) := fun wr b h hb => keys_two h (by omega) (by omega) HZ.out b hb
      clear hS hF hT hG hbr HI hz htz HS3 HS3' HB3 HPK
      go_wp2_with fail
      refine (HKY.out wr (u + 1) HTW.out (.inl rfl)).mono ?_
      rintro e w5 ⟨a5, c5, rfl, hcm5, hr5, HB5, ht5⟩
      have HR5 : Hid (Row wr.heap.size w5 (.slice a5 z c5) S) := hr5
      have HT5 : Hid (Two w w5 u i i S) := ht5
      clear hr5 ht5
      go_wp2_with fail
      refine (HKY.out w5 (u + 3) HT5.out (.inr rfl)).mono ?_
      rintro e w6 ⟨a6, c6, rfl, hcm6, hr6, HB6, ht6⟩
      have HR6 : Hid (Row wr.heap.size w6 (.slice a5 z c5) S) := HR5.out.below HB6.out
      have HT6 : Hid (Two w w6 u i i S) := ht6
      have HSM : Hid (Calls _ _ _ _ _) := same_rows (by omega) HR6.out hr6
      clear hr6 ht6 HT5 HR5
      go_wp2_with fail
      refine HSM.out.mono ?_
      rintro e w7 ⟨rfl, hb7⟩
      have HT7 : Hid (Two w w7 u i i S) := HT6.out.below hb7
      have HR7 : Hid (Row wr.heap.size w7 (.slice a5 z c5) S) := HR6.out.below hb7
      have HZ7 : Hid (_ ∧ _) := HZZ.out w7 HT7.out
      clear hb7 HSM HT6 HR6
      go_wp2_with fail
      refine HZ7.out.1.mono ?_
      rintro e w8 ⟨rfl, rfl⟩
      go_wp2_with fail
      refine HZ7.out.2.mono ?_
      rintro e w9 ⟨rfl, rfl⟩
      obtain ⟨HFM⟩ : Nonempty (Hid (z = 0 ∨ ∃ g, a5 = some ⟨g, 0, none⟩)) := ⟨by
        rcases HR7.out.2 with ⟨e, h⟩ | ⟨g, _, _, e, _⟩
        · simp only [Value.slice.injEq] at e; exact .inl e.2.1
        · simp only [Value.slice.injEq] at e; exact .inr ⟨g, e.1⟩⟩
      have hB : u + 4 ≤ wr.heap.size := HTW.out.new
      obtain ⟨B, hBe⟩ : ∃ B, B = wr.heap.size := ⟨_, rfl⟩
      rw [← hBe] at HR7 hB
      have HWB : Hid (w.heap.size ≤ u) := hz1
      clear HTW HB5 HB6 HZ7 hBe hzr
      go_wp2_with fail
      go_loopw [13] (fun t13 wq => ∃ j : Nat, t13 = .int .i64 (j : Int) ∧ j ≤ z ∧ Hid (Two w wq u i i S ∧ ∃ L, L.length = z ∧ Row B wq (.slice a5 z c5) L)) (fun t13 _ => z - (intOf t13).toNat)
      case atStart => exact ⟨0, rfl, Nat.zero_le _, HT7.out, S, HZ.out.symm, HR7.out⟩
      case round =>
        rename_i wr
        obtain ⟨j, rfl, hj, HI⟩ := hrel
        by_cases hjn : j < z
        · obtain ⟨g, rfl⟩ := HFM.out.resolve_left (by omega)
          obtain ⟨htq, L, hL, hR⟩ := HI.out
          obtain ⟨hcell, hfz, hBg, hgl, hR'⟩ := hR.put hL.symm j hjn
          have HR' : Hid (Two w (wr.setCell ⟨g, j, none⟩ (.string ByteArray.empty)) u i i S ∧ ∃ L, L.length = z ∧ Row B (wr.setCell ⟨g, j, none⟩ (.string ByteArray.empty)) (.slice (some ⟨g, 0, none⟩) z c5) L) := ⟨htq.set (by omega) _, _, by rw [List.length_set]; exact hL, hR'⟩
          generalize L.getD j ByteArray.empty = y at hcell
          clear htq hR hR' hL HI
          go_wp2
          go_roundw
          case rel => exact ⟨j + 1, by go_num, by omega, HR'⟩
          case measure => simp [intOf]; omega
        · have HTQ : Hid (Two w wr u i i S) := HI.out.1
          clear HI
          go_wp2_with fail
          refine (HKY.out wr (u + 1) HTQ.out (.inl rfl)).mono ?_
          rintro e w10 ⟨a10, c10, rfl, hcm10, hr10, HB10, ht10⟩
          have HR10 : Hid (Row wr.heap.size w10 (.slice a10 z c10) S) := hr10
          have HT10 : Hid (Two w w10 u i i S) := ht10
          clear hr10 ht10
          go_wp2_with fail
          refine (HKY.out w10 (u + 3) HT10.out (.inr rfl)).mono ?_
          rintro e w11 ⟨a11, c11, rfl, hcm11, hr11, HB11, ht11⟩
          have HSM : Hid (Calls _ _ _ _ _) := same_rows (by omega) (HR10.out.below HB11.out) hr11
          have HT11 : Hid (Two w w11 u i i S) := ht11
          clear hr11 ht11
          go_wp2_with fail
          refine HSM.out.mono ?_
          rintro e w12 ⟨rfl, hb12⟩
          go_wp2
          go_ret
          exact ⟨rfl, HT11.out.bel.trans (hb12.mono HT11.out.bel.size)⟩

theorem blobsTurn_walk (a : Option Addr) (l : List ByteArray) (len cap : Nat) (c : Int) (w : World) (hn : len = l.length) (hl : Lies w a l) (hc : len ≤ cap) (hm : cap ≤ maxLen) (_ : a = none → cap = 0) (hs : ∀ s ∈ l, s.size ≤ maxLen) (hw : (Lit.int .i64 c).wf = true) :
    Calls Try.prog 4 #[.slice a len cap, .int .i64 c] w fun e w' => e = .returned (.bool true) ∧ Below w.heap.size w w' := by
  by_cases h : 100 < len ∨ len = 0
  · unfold maxLen at hm
    exact turn_head a len cap c w (by omega) h
  · exact turn_main a l len cap c w hn hl hs (by omega) (by omega) (wf_in hw).1 (wf_in hw).2
end Go.Proofs.Ytkmlekgfbmoimaa.Blobs
