/-
  What the laws of blobs are walked by: the answer's Has and Same, and the law's own pick, size, only and put.
-/
import Derived.Test.YtkmlekgfbmoimaaBlKeep2
namespace Go.Proofs.Ytkmlekgfbmoimaa.Blobs
open Go.RowKit Route

set_option maxHeartbeats 4000000 in
set_option maxRecDepth 100000 in
theorem same_any (a : Option Addr) (l : List ByteArray) (k cap : Nat) (a' : Option Addr) (m : List ByteArray) (k' cap' : Nat) (w : World) (hk : k = l.length) (hl : Lies w a l) (hk' : k' = m.length) (hl' : Lies w a' m) (hm : k ≤ 140737488355328) (hm' : k' ≤ 140737488355328) :
    Calls Try.prog 16 #[.slice a k cap, .slice a' k' cap'] w fun e w' => e = .returned (.bool (decide (l = m))) ∧ Below w.heap.size w w' := by
  by_cases hkk : k = k'
  · subst hkk
    by_cases h0 : k = 0
    · have e1 : l = [] := List.eq_nil_of_length_eq_zero (by omega)
      have e2 : m = [] := List.eq_nil_of_length_eq_zero (by omega)
      subst e1; subst e2; subst h0
      clear hk hk' hl hl'
      go_enter Try.func16, Try.ntmps16
      go_wp2
      go_loop [5] (fun t5 => t5 = .int .i64 0) (fun _ => 0)
      case atStart => rfl
      case round =>
        subst hrel
        go_wp2
        go_ret
        exact ⟨rfl, Below.refl _ _⟩
    · obtain ⟨b, off, rfl, hc⟩ := lies_at hl (by omega)
      obtain ⟨b', off', rfl, hc'⟩ := lies_at hl' (by omega)
      obtain ⟨r, hr⟩ : ∃ r, r = decide (l = m) := ⟨_, rfl⟩
      have HR : Hid (r = decide (l = m)) := hr
      rw [← hr]
      have HK : Hid (k = l.length) := hk
      have HK' : Hid (k = m.length) := hk'
      have HC : Hid (∀ j, j < l.length → w.cell? ⟨b, off + j, none⟩ = some (.string (l.getD j ByteArray.empty))) := hc
      have HC' : Hid (∀ j, j < m.length → w.cell? ⟨b', off' + j, none⟩ = some (.string (m.getD j ByteArray.empty))) := hc'
      clear hr hk hk' hc hc' hl hl'
      go_enter Try.func16, Try.ntmps16
      go_wp2
      go_loopw [4, 5] (fun t4 t5 wr => t4 = .bool false ∧ ∃ j : Nat, t5 = .int .i64 j ∧ j ≤ k ∧ Below w.heap.size w wr ∧ Hid (r = decide (l.drop j = m.drop j))) (fun _ t5 _ => k - (intOf t5).toNat)
      case atStart => exact ⟨rfl, 0, rfl, by omega, Below.refl _ _, by show r = _; rw [List.drop_zero, List.drop_zero]; exact HR.out⟩
      case round =>
        obtain ⟨rfl, j, rfl, hj, hbw, HJ⟩ := hrel
        by_cases hjk : j < k
        · have hjl : j < l.length := by rw [← HK.out]; exact hjk
          have hjm : j < m.length := by rw [← HK'.out]; exact hjk
          have hcell := cell_later hbw (HC.out j hjl)
          have hcell' := cell_later hbw (HC'.out j hjm)
          have hall := drop_two hjl hjm
          obtain ⟨x, hx⟩ : ∃ x, x = l.getD j ByteArray.empty := ⟨_, rfl⟩
          obtain ⟨y, hy⟩ : ∃ y, y = m.getD j ByteArray.empty := ⟨_, rfl⟩
          rw [← hx] at hcell hall
          rw [← hy] at hcell' hall
          have HX : Hid (decide (l.drop j = m.drop j) = (decide (x = y) && decide (l.drop (j + 1) = m.drop (j + 1)))) := hall
          clear hx hy hall hjl hjm
          have hse := str_eq x y
          by_cases hxy : x = y
          · rw [decide_eq_true hxy] at hse
            go_wp2
            go_region
            go_wp2
            go_roundw
            case rel => exact ⟨rfl, j + 1, by go_num, by omega, hbw.drew, by show r = _; rw [HJ.out, HX.out, decide_eq_true hxy, Bool.true_and]⟩
            case measure => simp [intOf]; omega
          · rw [decide_eq_false hxy] at hse
            have hr : r = false := by rw [HJ.out, HX.out, decide_eq_false hxy, Bool.false_and]
            go_wp2
            go_region
            go_wp2
            go_ret
            exact ⟨by first | rfl | (rw [hr]; rfl), hbw.drew⟩
        · have hr : r = true := by rw [HJ.out, List.drop_of_length_le (by rw [← HK.out]; omega), List.drop_of_length_le (by rw [← HK'.out]; omega)]; rfl
          go_wp2
          go_ret
          exact ⟨by first | rfl | (rw [hr]; rfl), hbw⟩
  · have e : decide (l = m) = false := decide_eq_false (fun e => hkk (by rw [hk, hk', e]))
    rw [e]
    clear hk hk' hl hl' e
    go_enter Try.func16, Try.ntmps16
    go_wp2
    go_ret
    exact ⟨rfl, Below.refl _ _⟩

set_option maxHeartbeats 4000000 in
set_option maxRecDepth 100000 in
theorem refHas_any (a : Option Addr) (n cap : Nat) (C : List ByteArray) (s : ByteArray) (w : World) (hn0 : n = C.length) (hl0 : Lies w a C) (hnm : n ≤ 1000000) :
    Calls Try.prog 8 #[.slice a n cap, .string s] w fun e w' => e = .returned (.bool (inB C s)) ∧ w' = w := by
  have HN : Hid (n = C.length) := hn0
  have HL : Hid (Lies w a C) := hl0
  obtain ⟨r, hr⟩ : ∃ r, r = inB C s := ⟨_, rfl⟩
  have HR : Hid (r = inB C s) := hr
  rw [← hr]
  clear hn0 hl0 hr
  go_enter Try.func8, Try.ntmps8
  go_wp2
  go_loop [4, 5] (fun t4 t5 => ∃ (i : Nat), t4 = .bool false ∧ t5 = .int .i64 (i : Int) ∧ i ≤ n ∧ Hid (∀ j, j < i → C.getD j ByteArray.empty ≠ s)) (fun _ t5 => n - (intOf t5).toNat)
  case atStart => exact ⟨0, rfl, rfl, Nat.zero_le _, fun j hj => by omega⟩
  case round =>
    obtain ⟨i, rfl, rfl, hi, HI⟩ := hrel
    by_cases hin : i < n
    · obtain ⟨x, hx, hc⟩ := HL.out.cellAt (j := i) (by rw [← HN.out]; exact hin)
      subst hx
      have HE : Hid (C.getD i ByteArray.empty = s → r = true) := fun e => by
        rw [HR.out]; exact inB_iff.2 (mem_getD.2 ⟨i, by rw [← HN.out]; exact hin, e⟩)
      have HNx : Hid (C.getD i ByteArray.empty ≠ s → ∀ j, j < i + 1 → C.getD j ByteArray.empty ≠ s) := fun e j hj => by
        by_cases hji : j = i
        · subst hji; exact e
        · exact HI.out j (by omega)
      generalize C.getD i ByteArray.empty = k at hc HE HNx
      by_cases hks : k = s
      · have hd : (k.toList == s.toList) = true := by rw [str_eq, decide_eq_true hks]
        have hr : r = true := HE.out hks
        clear hks
        go_wp2
        go_ret
        exact ⟨by first | rfl | (rw [hr]; rfl), rfl⟩
      · have hd := ne_text hks
        have HN2 : Hid (∀ j, j < i + 1 → C.getD j ByteArray.empty ≠ s) := HNx.out hks
        clear hks
        go_wp2
        go_round
        case rel => exact ⟨i + 1, rfl, by go_num, by omega, HN2⟩
        case measure => simp [intOf]; omega
    · have hr : r = false := by
        rw [HR.out]
        refine inB_no fun h => ?_
        obtain ⟨j, hj, e⟩ := mem_getD.1 h
        exact HI.out j (by have := HN.out; omega) e
      go_wp2
      go_ret
      exact ⟨by first | rfl | (rw [hr]; rfl), rfl⟩

theorem only_app (K : List ByteArray) (b : Bool) (l r : List ByteArray) : only K b (l ++ r) = only K b l ++ only K b r := by simp [only]

set_option maxHeartbeats 4000000 in
theorem only_any (a : Option Addr) (n cap : Nat) (l : List ByteArray) (a2 : Option Addr) (n2 cap2 : Nat) (K : List ByteArray) (b : Bool) (w : World) (hn0 : n = l.length) (hl0 : Lies w a l) (hnm : n ≤ 1000000) (hn2 : n2 = K.length) (hl2 : Lies w a2 K) (hnm2 : n2 ≤ 1000000) :
    Calls Try.prog 11 #[.slice a n cap, .slice a2 n2 cap2, .bool b] w fun e w' => ∃ v, e = .returned v ∧ Strs w.heap.size v (only K b l) w w' := by
  have HN : Hid (n = l.length) := hn0
  have HL : Hid (Lies w a l) := hl0
  have HH : Hid (∀ wr k, Below w.heap.size w wr → Calls Try.prog 8 #[.slice a2 n2 cap2, .string k] wr fun e w' => e = .returned (.bool (inB K k)) ∧ w' = wr) := fun wr k hb => refHas_any a2 n2 cap2 K k wr hn2 (hl2.below hb (Nat.le_refl _)) hnm2
  clear hn0 hl0 hn2 hl2
  go_enter Try.func11, Try.ntmps11
  go_wp2
  go_loopw [7, 8, 9] (fun t7 t8 _ wr => ∃ i : Nat, t8 = .int .i64 (i : Int) ∧ i ≤ n ∧ Hid (Strs w.heap.size t7 (only K b (l.take i)) w wr)) (fun _ t8 _ _ => n - (intOf t8).toNat)
  case atStart => exact ⟨0, rfl, Nat.zero_le _, Strs.nil w⟩
  case round =>
    obtain ⟨i, rfl, hi, HI⟩ := hrel
    have hbr : Below w.heap.size w wr := HI.out.2.1
    by_cases hin : i < n
    · obtain ⟨x, hx, hc⟩ := (HL.out.below hbr (Nat.le_refl _)).cellAt (j := i) (by rw [← HN.out]; exact hin)
      subst hx
      have HT : Hid (only K b (l.take (i + 1)) = only K b (l.take i) ++ only K b [l.getD i ByteArray.empty]) := by
        show _ = _
        rw [take_text (by rw [← HN.out]; exact hin), only_app]
      have HLN : Hid ((only K b (l.take i)).length + 1 ≤ 1000000000000) := by
        show _ ≤ _
        have := List.length_filter_le (fun s => inB K s == b) (l.take i)
        rw [List.length_take] at this
        unfold only
        omega
      generalize l.getD i ByteArray.empty = k at hc HT
      have HC : Hid (Calls _ _ _ _ _) := HH.out wr k hbr
      have HBR : Hid (Below w.heap.size w wr) := hbr
      clear hbr
      cases hb : (inB K k == b) with
      | true =>
        have he : inB K k = b := by simpa using hb
        have HT2 : Hid (only K b [k] = [k]) := by show _ = _; simp [only, hb]
        generalize inB K k = r at HC he
        subst he
        clear hb
        go_wp2_with fail
        refine HC.out.mono ?_
        rintro e w1 ⟨rfl, rfl⟩
        have hst := HI.out
        have hln := HLN.out
        generalize hO : only K r (l.take i) = O at hst hln HT
        clear HI HLN HC hO
        cases r
        all_goals
          go_wp2_with (at_builtin; refine wpList_str rfl (.tmp 25) (.tmp 30) rfl w.heap.size _ O rfl w w1 k hst rfl hln ?_; intro v' w' hs')
          go_roundw
          case rel => exact ⟨i + 1, by go_num, by omega, by show Strs _ _ _ _ _; rw [HT.out, HT2.out]; exact hs'⟩
          case measure => simp [intOf]; omega
      | false =>
        have he : ¬ inB K k = b := by simpa using hb
        have HT2 : Hid (only K b [k] = []) := by show _ = _; simp [only, hb]
        generalize inB K k = r at HC he
        clear hb
        have HST : Hid (Strs w.heap.size u7 (only K b (l.take (i + 1))) w wr) := by show Strs _ _ _ _ _; rw [HT.out, HT2.out, List.append_nil]; exact HI.out
        clear HT HT2 HI
        cases r <;> cases b <;> first | (exact absurd rfl he) | skip
        all_goals
          clear he
          go_wp2_with fail
          refine HC.out.mono ?_
          rintro e w1 ⟨rfl, rfl⟩
          go_wp2
          go_roundw
          case rel => exact ⟨i + 1, by go_num, by omega, HST⟩
          case measure => simp [intOf]; omega
    · have HE : Hid (Strs w.heap.size u7 (only K b l) w wr) := by
        have := HI.out
        rw [List.take_of_length_le (by rw [← HN.out]; omega)] at this
        exact this
      clear HI hbr
      go_wp2
      go_ret
      exact ⟨_, rfl, HE.out⟩
end Go.Proofs.Ytkmlekgfbmoimaa.Blobs
