/-
  What BlobsPlays is walked by: the law's size and put, and what stands while the script is played.
-/
import Derived.Test.YtkmlekgfbmoimaaBlPick
namespace Go.Proofs.Ytkmlekgfbmoimaa.Blobs
open Go.RowKit Route

theorem total_take {l : List ByteArray} {i : Nat} (h : i < l.length) : total (l.take (i + 1)) = total (l.take i) + (l.getD i ByteArray.empty).size := by
  rw [take_text h, total_app]; rfl
theorem total_le_take (l : List ByteArray) (i : Nat) : total (l.take i) ≤ total l := by
  have := total_app (l.take i) (l.drop i)
  rw [List.take_append_drop] at this
  omega

set_option maxHeartbeats 1000000 in
theorem sizeL_any (a : Option Addr) (n cap : Nat) (l : List ByteArray) (tz : Nat) (w : World) (hn0 : n = l.length) (hl0 : Lies w a l) (hnm : n ≤ 1000000) (ht : tz = total l) (htm : tz ≤ 65536) :
    Calls Try.prog 14 #[.slice a n cap] w fun e w' => e = .returned (.int .i64 (tz : Int)) ∧ w' = w := by
  have HN : Hid (n = l.length) := hn0
  have HL : Hid (Lies w a l) := hl0
  have HT : Hid (tz = total l) := ht
  clear hn0 hl0 ht
  go_enter Try.func14, Try.ntmps14
  go_wp2
  go_loop [3, 4] (fun t3 t4 => ∃ i s : Nat, t4 = .int .i64 (i : Int) ∧ i ≤ n ∧ t3 = .int .i64 (s : Int) ∧ s ≤ tz ∧ Hid (s = total (l.take i))) (fun _ t4 => n - (intOf t4).toNat)
  case atStart => exact ⟨0, 0, rfl, Nat.zero_le _, rfl, Nat.zero_le _, rfl⟩
  case round =>
    obtain ⟨i, s, rfl, hi, rfl, hs, HI⟩ := hrel
    by_cases hin : i < n
    · have hil : i < l.length := by rw [← HN.out]; exact hin
      obtain ⟨x, hx, hc⟩ := HL.out.cellAt (j := i) hil
      subst hx
      have h1 := total_take hil
      have h2 := total_le_take l (i + 1)
      rw [← HT.out, h1, ← HI.out] at h2
      have HE : Hid (s + (l.getD i ByteArray.empty).size = total (l.take (i + 1))) := by rw [HI.out]; exact h1.symm
      have hlen := len_text (l.getD i ByteArray.empty) _ rfl
      clear h1
      generalize l.getD i ByteArray.empty = k at hc HE hlen h2
      generalize k.size = y at HE hlen h2
      go_wp2
      go_round
      case rel => exact ⟨i + 1, s + y, by go_num, by omega, by go_num, h2, HE⟩
      case measure => simp [intOf]; omega
    · have hs : s = tz := by
        rw [HI.out, List.take_of_length_le (by rw [← HN.out]; omega), HT.out]
      subst hs
      go_wp2
      go_ret
      exact ⟨rfl, rfl⟩

theorem ins_far {k : ByteArray} {l : List ByteArray} {i : Nat} (h : i < l.length) : ins k (l.drop i) = if lt k (l.getD i ByteArray.empty) = true then k :: l.drop i else l.getD i ByteArray.empty :: ins k (l.drop (i + 1)) := by
  have e : l.drop i = l.getD i ByteArray.empty :: l.drop (i + 1) := by
    rw [List.drop_eq_getElem_cons h]; simp [List.getD_eq_getElem?_getD, h]
  rw [e, ins]

set_option maxHeartbeats 4000000 in
theorem putL_any (a : Option Addr) (n cap : Nat) (l : List ByteArray) (k : ByteArray) (w : World) (hn0 : n = l.length) (hl0 : Lies w a l) (hnm : n ≤ 1000000) :
    Calls Try.prog 15 #[.slice a n cap, .string k] w fun e w' => ∃ v, e = .returned v ∧ Strs w.heap.size v (ins k l) w w' := by
  have HN : Hid (n = l.length) := hn0
  have HL : Hid (Lies w a l) := hl0
  clear hn0 hl0
  go_enter Try.func15, Try.ntmps15
  go_wp2
  go_loopw [5, 6, 7] (fun t5 t6 t7 wr => ∃ (i : Nat) (O : List ByteArray) (done : Bool), t7 = .int .i64 (i : Int) ∧ t6 = .bool done ∧ i ≤ n ∧ O.length ≤ 2 * i + 1 ∧ Strs w.heap.size t5 O w wr ∧ Hid (ins k l = O ++ (if done = true then l.drop i else ins k (l.drop i)))) (fun _ _ t7 _ => n - (intOf t7).toNat)
  case atStart => exact ⟨0, [], false, rfl, rfl, Nat.zero_le _, Nat.zero_le _, Strs.nil w, rfl⟩
  case round =>
    obtain ⟨i, O, done, rfl, rfl, hi, hO, hst, HI⟩ := hrel
    have hO2 : O.length + 1 ≤ 1000000000000 := by omega
    by_cases hin : i < n
    · have hil : i < l.length := by rw [← HN.out]; exact hin
      obtain ⟨x, hx, hc⟩ := (HL.out.below hst.2.1 (Nat.le_refl _)).cellAt (j := i) hil
      subst hx
      have HD : Hid (l.drop i = l.getD i ByteArray.empty :: l.drop (i + 1)) := by
        show _ = _
        rw [List.drop_eq_getElem_cons hil]; simp [List.getD_eq_getElem?_getD, hil]
      have HF : Hid (_ = _) := ins_far (k := k) hil
      have HCL : Hid (∀ w2, Below w.heap.size w w2 → w2.cell? (x.add i) = some (.string (l.getD i ByteArray.empty))) := fun w2 hb => by
        obtain ⟨x', hx, hc⟩ := (HL.out.below hb (Nat.le_refl _)).cellAt (j := i) hil
        cases hx
        exact hc
      generalize l.getD i ByteArray.empty = y at hc HD HF HCL
      cases done with
      | true =>
        have HE : Hid (ins k l = O ++ [y] ++ l.drop (i + 1)) := by
          show _ = _
          rw [HI.out, if_pos rfl, HD.out]; simp
        clear HI HD HF
        go_wp2_with (at_builtin; refine wpList_str rfl (.tmp 28) (.tmp 33) rfl w.heap.size _ O rfl w wr y hst rfl hO2 ?_; intro v' w' hs')
        go_roundw
        case rel => exact ⟨i + 1, O ++ [y], true, by go_num, rfl, by omega, by simp; omega, hs', by show _ = _; rw [if_pos rfl]; exact HE.out⟩
        case measure => simp [intOf]; omega
      | false =>
        cases hlt : lt k y with
        | true =>
          have HE : Hid (ins k l = O ++ [k] ++ [y] ++ l.drop (i + 1)) := by
            show _ = _
            rw [HI.out, if_neg (by simp), HF.out, if_pos hlt, HD.out]; simp
          have hlt' : Op.bytesLess k.toList y.toList = true := hlt
          have hO3 : (O ++ [k]).length + 1 ≤ 1000000000000 := by simp; omega
          clear HI HD HF hlt
          go_wp2_with (first
            | (at_builtin; refine wpList_str rfl (.tmp 24) (.tmp 26) rfl w.heap.size _ O rfl w wr k hst rfl hO2 ?_; intro v1 w1 hs1; have hc1 := HCL.out w1 hs1.2.1)
            | (at_builtin; refine wpList_str rfl (.tmp 28) (.tmp 33) rfl w.heap.size _ (O ++ [k]) rfl w w1 y hs1 rfl hO3 ?_; intro v' w' hs'))
          go_roundw
          case rel => exact ⟨i + 1, O ++ [k] ++ [y], true, by go_num, rfl, by omega, by simp; omega, hs', by show _ = _; rw [if_pos rfl]; exact HE.out⟩
          case measure => simp [intOf]; omega
        | false =>
          have HE : Hid (ins k l = O ++ [y] ++ ins k (l.drop (i + 1))) := by
            show _ = _
            rw [HI.out, if_neg (by simp), HF.out, if_neg (by rw [hlt]; simp)]; simp
          have hlt' : Op.bytesLess k.toList y.toList = false := hlt
          clear HI HD HF hlt
          go_wp2_with (at_builtin; refine wpList_str rfl (.tmp 28) (.tmp 33) rfl w.heap.size _ O rfl w wr y hst rfl hO2 ?_; intro v' w' hs')
          go_roundw
          case rel => exact ⟨i + 1, O ++ [y], false, by go_num, rfl, by omega, by simp; omega, hs', by show _ = _; rw [if_neg (by simp)]; exact HE.out⟩
          case measure => simp [intOf]; omega
    · have hdr : l.drop i = [] := List.drop_of_length_le (by rw [← HN.out]; omega)
      cases done with
      | true =>
        have HE : Hid (ins k l = O) := by
          show _ = _
          rw [HI.out, if_pos rfl, hdr, List.append_nil]
        clear HI hdr
        go_wp2
        go_ret
        exact ⟨_, rfl, by rw [HE.out]; exact hst⟩
      | false =>
        have HE : Hid (ins k l = O ++ [k]) := by
          show _ = _
          rw [HI.out, if_neg (by simp), hdr]; rfl
        clear HI hdr
        go_wp2_with (at_builtin; refine wpList_str rfl (.tmp 37) (.tmp 39) rfl w.heap.size _ O rfl w wr k hst rfl hO2 ?_; intro v' w' hs')
        go_ret
        exact ⟨_, rfl, by rw [HE.out]; exact hs'⟩
end Go.Proofs.Ytkmlekgfbmoimaa.Blobs
