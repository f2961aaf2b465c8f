/-
  The walk of BlobsKeep.
-/
import Derived.Test.YtkmlekgfbmoimaaBlUp
namespace Go.Proofs.Ytkmlekgfbmoimaa.Blobs
open Go.RowKit Route

theorem only_twice (K S : List ByteArray) : only K true (only K true S) = only K true S := by
  unfold only
  rw [List.filter_filter]
  congr 1
  funext s
  cases inB K s <;> rfl

theorem keep_head (a : Option Addr) (len cap : Nat) (a2 : Option Addr) (len2 cap2 : Nat) (w : World) (hm : len ≤ 9223372036854775807) (hm2 : len2 ≤ 9223372036854775807) (h : 100 < len ∨ 100 < len2) :
    Calls Try.prog 5 #[.slice a len cap, .slice a2 len2 cap2] w fun e w' => e = .returned (.bool true) ∧ Below w.heap.size w w' := by
  have HU : Hid (Calls _ _ _ _ _) := up_any w
  by_cases h1 : 100 < len
  · clear h
    go_enter Try.func5, Try.ntmps5
    go_wp2_with fail
    refine HU.out.mono ?_
    rintro e w1 ⟨rfl, hb1⟩
    go_wp2
    go_ret
    exact ⟨rfl, hb1⟩
  · have h2 : 100 < len2 := by omega
    have h1' : len ≤ 100 := by omega
    clear h h1
    go_enter Try.func5, Try.ntmps5
    go_wp2_with fail
    refine HU.out.mono ?_
    rintro e w1 ⟨rfl, hb1⟩
    go_wp2
    go_ret
    exact ⟨rfl, hb1⟩

set_option maxHeartbeats 4000000 in
theorem keep_main (a : Option Addr) (l : List ByteArray) (len cap : Nat) (a2 : Option Addr) (l2 : List ByteArray) (len2 cap2 : Nat) (w : World) (hn : len = l.length) (hl : Lies w a l) (hs : ∀ s ∈ l, s.size ≤ maxLen) (hn2 : len2 = l2.length) (hl2 : Lies w a2 l2) (hs2 : ∀ s ∈ l2, s.size ≤ maxLen) (h1 : len ≤ 100) (h2 : len2 ≤ 100) :
    Calls Try.prog 5 #[.slice a len cap, .slice a2 len2 cap2] w fun e w' => e = .returned (.bool true) ∧ Below w.heap.size w w' := by
  have HU : Hid (Calls _ _ _ _ _) := up_any w
  have HN : Hid (len = l.length) := hn
  have HL : Hid (Lies w a l) := hl
  have HS : Hid (∀ s ∈ l, s.size ≤ maxLen) := hs
  have HN2 : Hid (len2 = l2.length) := hn2
  have HL2 : Hid (Lies w a2 l2) := hl2
  have HS2 : Hid (∀ j, j < len2 → (l2.getD j ByteArray.empty).size ≤ maxLen) := fun j hj => hs2 _ (mem_getD.2 ⟨j, by omega, rfl⟩)
  have hne := neNil
  clear hn hl hs hn2 hl2 hs2
  go_enter Try.func5, Try.ntmps5
  go_wp2_with fail
  refine HU.out.mono ?_
  rintro e w1 ⟨rfl, hb1⟩
  have HW : Hid (Calls _ _ _ _ _) := new_ok 65536 w1 (by decide)
  have HB1 : Hid (Below w.heap.size w w1) := hb1
  have hz1 := hb1.size
  clear HU hb1
  go_wp2_with fail
  refine HW.out.mono ?_
  rintro e w2 ⟨rfl, hs2, hb2, hz2⟩
  have HS2' : Hid (StoreIn w2 (w1.heap.size + 1) w1.heap.size 65536 0 []) := hs2
  have HB2 : Hid (Below w.heap.size w w2) := HB1.out.trans (hb2.mono HB1.out.size)
  clear HW hs2 hb2
  go_wp2
  go_loopw [8] (fun t8 wr => ∃ i : Nat, t8 = .int .i64 (i : Int) ∧ i ≤ len ∧ w2.heap.size ≤ wr.heap.size ∧ Hid (Below w.heap.size w wr ∧ ∃ S, StoreIn wr (w1.heap.size + 1) w1.heap.size 65536 i S ∧ Fed (l.take i) S)) (fun t8 _ => len - (intOf t8).toNat)
  case atStart => exact ⟨0, rfl, Nat.zero_le _, Nat.le_refl _, HB2.out, [], HS2'.out, Fed.nil⟩
  case round =>
    obtain ⟨i, rfl, hi, hzr, HI⟩ := hrel
    by_cases hin : i < len
    · obtain ⟨hbr, S, hS, hF⟩ := HI.out
      have hil : i < l.length := by rw [← HN.out]; exact hin
      obtain ⟨x, hx, hc⟩ := (HL.out.below hbr (Nat.le_refl _)).cellAt (j := i) hil
      subst hx
      have HT : Hid (l.take (i + 1) = l.take i ++ [l.getD i ByteArray.empty]) := take_text hil
      have hksz := HS.out _ (mem_getD.2 ⟨i, hil, rfl⟩)
      generalize l.getD i ByteArray.empty = k at hc HT hksz
      have HP : Hid (Calls _ _ _ _ _) := put_go hS k hksz (by omega)
      have HF : Hid (Fed (l.take (i + 1)) (putS 65536 k S)) := by show Fed _ _; rw [HT.out]; exact hF.put k (by rw [List.length_take]; omega)
      have HBR : Hid (Below w.heap.size w wr) := hbr
      clear hS hF hbr HI hksz
      go_wp2_with fail
      refine HP.out.mono ?_
      rintro e w3 ⟨v, rfl, hs3, ht3⟩
      have HR : Hid (Below w.heap.size w w3 ∧ ∃ S, StoreIn w3 (w1.heap.size + 1) w1.heap.size 65536 (i + 1) S ∧ Fed (l.take (i + 1)) S) := ⟨Trn.later HBR.out ht3 (by omega) hz1, _, hs3, HF.out⟩
      have hz3 : w2.heap.size ≤ w3.heap.size := Nat.le_trans hzr ht3.size
      clear hs3 ht3 HP
      go_wp2
      go_roundw
      case rel => exact ⟨i + 1, by go_num, by omega, hz3, HR⟩
      case measure => simp [intOf]; omega
    · obtain ⟨hbr, S, hS, _⟩ := HI.out
      have hfew := hS.few
      have HK1 : Hid (Calls _ _ _ _ _) := keys_any hS (by omega)
      have HST : Hid (StoreIn wr (w1.heap.size + 1) w1.heap.size 65536 i S) := hS
      have HBR : Hid (Below w.heap.size w wr) := hbr
      obtain ⟨z1, hz1'⟩ : ∃ z, z = S.length := ⟨_, rfl⟩
      obtain ⟨z2, hz2'⟩ : ∃ z, z = (only l2 true S).length := ⟨_, rfl⟩
      have hle : z2 ≤ z1 := by rw [hz1', hz2']; exact List.length_filter_le _ _
      rw [← hz1'] at hfew
      have HZ1 : Hid (z1 = S.length) := hz1'
      have HZ2 : Hid (z2 = (only l2 true S).length) := hz2'
      clear hS hbr HI hz1' hz2'
      go_wp2_with fail
      refine HK1.out.mono ?_
      rintro e w4 ⟨v9, rfl, hr9, hb4⟩
      obtain ⟨a9, k9, c9, rfl, hk9, hkc9, hcm9, _⟩ := hr9.lies
      have HR9 : Hid (Row wr.heap.size w4 (.slice a9 k9 c9) S) := hr9
      have HS4 : Hid (StoreIn w4 (w1.heap.size + 1) w1.heap.size 65536 i S) := HST.out.below hb4
      have HB4 : Hid (Below w.heap.size w w4) := HBR.out.trans (hb4.mono HBR.out.size)
      have hz4 := hb4.size
      obtain rfl : k9 = z1 := hk9.trans HZ1.out.symm
      have HP5 : Hid (Calls _ _ _ _ _) := keep_any HS4.out a2 len2 cap2 l2 HN2.out (HL2.out.below HB4.out (Nat.le_refl _)) (by omega) HS2.out
      have hp5 := HP5.out
      rw [← HZ1.out, ← HZ2.out] at hp5
      have HP5' : Hid (Calls _ _ _ _ _) := hp5
      clear hr9 hb4 HK1 HST hp5 HP5 hk9
      go_wp2_with fail
      refine HP5'.out.mono ?_
      rintro e w5 ⟨rfl, hs5, ht5⟩
      have HS5 : Hid (StoreIn w5 (w1.heap.size + 1) w1.heap.size 65536 i (only l2 true S)) := hs5
      have HB5 : Hid (Below w.heap.size w w5) := Trn.later HB4.out ht5 (by omega) hz1
      have HR5 : Hid (Row wr.heap.size w5 (.slice a9 k9 c9) S) := HR9.out.trn ht5 (by omega) (by omega)
      have hz5 := ht5.size
      have HK6 : Hid (Calls _ _ _ _ _) := keys_any hs5 (by omega)
      clear hs5 ht5 HP5'
      go_wp2_with fail
      refine HK6.out.mono ?_
      rintro e w6 ⟨v11, rfl, hr11, hb6⟩
      obtain ⟨a11, k11, c11, rfl, hk11, hkc11, hcm11, _⟩ := hr11.lies
      have HR11 : Hid (Row w5.heap.size w6 (.slice a11 k11 c11) (only l2 true S)) := hr11
      have HR6 : Hid (Row wr.heap.size w6 (.slice a9 k9 c9) S) := HR5.out.below hb6
      have HS6 : Hid (StoreIn w6 (w1.heap.size + 1) w1.heap.size 65536 i (only l2 true S)) := HS5.out.below hb6
      have HB6 : Hid (Below w.heap.size w w6) := HB5.out.trans (hb6.mono HB5.out.size)
      have hz6 := hb6.size
      obtain rfl : k11 = z2 := hk11.trans HZ2.out.symm
      have hp7 := keep_any HS6.out a2 len2 cap2 l2 HN2.out (HL2.out.below HB6.out (Nat.le_refl _)) (by omega) HS2.out
      rw [only_twice, Int.sub_self] at hp7
      have HP7 : Hid (Calls _ _ _ _ _) := hp7
      clear hr11 hb6 HK6 hp7 hk11
      go_wp2_with fail
      refine HP7.out.mono ?_
      rintro e w7 ⟨rfl, hs7, ht7⟩
      have hB7 : Below w.heap.size w w7 := Trn.later HB6.out ht7 (by omega) hz1
      have hr7 : Row wr.heap.size w7 (.slice a9 k9 c9) S := HR6.out.trn ht7 (by omega) (by omega)
      have hr7' : Row w5.heap.size w7 (.slice a11 k11 c11) (only l2 true S) := HR11.out.trn ht7 (by omega) (by omega)
      obtain ⟨_, _, _, e9, hk9, _, _, hl9⟩ := hr7.lies
      obtain ⟨_, _, _, e11, hk11, _, _, hl11⟩ := hr7'.lies
      simp only [Value.slice.injEq] at e9 e11
      obtain ⟨rfl, rfl, rfl⟩ := e9
      obtain ⟨rfl, rfl, rfl⟩ := e11
      have HO : Hid (Calls _ _ _ _ _) := only_any a9 k9 c9 S a2 len2 cap2 l2 true w7 hk9 hl9 (by omega) HN2.out (HL2.out.below hB7 (Nat.le_refl _)) (by omega)
      have HL11 : Hid (Lies w7 a11 (only l2 true S)) := hl11
      have HB7 : Hid (Below w.heap.size w w7) := hB7
      have hd : decide ((k9 : Int) - (k11 : Int) = (k9 : Int) - (k11 : Int)) = true := decide_eq_true rfl
      clear hs7 ht7 hB7 hr7 hr7' hk9 hk11 hl9 hl11 HP7
      unfold maxLen at *
      go_wp2_with fail
      refine HO.out.mono ?_
      rintro e w8 ⟨v8, rfl, hs8⟩
      obtain ⟨a8, c8, rfl, _, hcm8, hl8⟩ := hs8.lies
      have hb8 : Below w7.heap.size w7 w8 := hs8.2.1
      have hm := same_any a11 (only l2 true S) k11 c11 a8 (only l2 true S) _ c8 w8 HZ2.out (HL11.out.below hb8 (Nat.le_refl _)) rfl hl8 (by omega) (by have := HZ2.out; omega)
      rw [decide_eq_true rfl] at hm
      have HM : Hid (Calls _ _ _ _ _) := hm
      have HB8 : Hid (Below w.heap.size w w8) := HB7.out.trans (hb8.mono HB7.out.size)
      clear hm hb8 hs8 hl8 HO
      go_wp2_with fail
      refine HM.out.mono ?_
      rintro e w9 ⟨rfl, hb9⟩
      go_wp2
      go_ret
      exact ⟨rfl, HB8.out.trans (hb9.mono HB8.out.size)⟩

theorem blobsKeep_walk (a : Option Addr) (l : List ByteArray) (len cap : Nat) (a2 : Option Addr) (l2 : List ByteArray) (len2 cap2 : Nat) (w : World) (hn : len = l.length) (hl : Lies w a l) (hc : len ≤ cap) (hm : cap ≤ maxLen) (_ : a = none → cap = 0) (hs : ∀ s ∈ l, s.size ≤ maxLen) (hn2 : len2 = l2.length) (hl2 : Lies w a2 l2) (hc2 : len2 ≤ cap2) (hm2 : cap2 ≤ maxLen) (_ : a2 = none → cap2 = 0) (hs2 : ∀ s ∈ l2, s.size ≤ maxLen) :
    Calls Try.prog 5 #[.slice a len cap, .slice a2 len2 cap2] w fun e w' => e = .returned (.bool true) ∧ Below w.heap.size w w' := by
  by_cases h : 100 < len ∨ 100 < len2
  · unfold maxLen at hm hm2
    exact keep_head a len cap a2 len2 cap2 w (by omega) (by omega) h
  · exact keep_main a l len cap a2 l2 len2 cap2 w hn hl hs hn2 hl2 hs2 (by omega) (by omega)
end Go.Proofs.Ytkmlekgfbmoimaa.Blobs
