/-
  The paths under one: the program's 'Below'.
-/
import Derived.Test.YtcjkficpiedpfaaDoorTrFind
namespace Go.Proofs.YtcjkficpiedpfaaDoor.Tree
open Go.RowKit Route Chunk

/-- The paths under a text. -/
def belowL (dir : ByteArray) (l : List (ByteArray × Int × List ByteArray)) : List ByteArray := (l.filter fun e => decide (dir = ⟨#[]⟩) || isUnder dir e.1).map (·.1)

theorem belowL_app (dir : ByteArray) (l r : List (ByteArray × Int × List ByteArray)) : belowL dir (l ++ r) = belowL dir l ++ belowL dir r := by simp [belowL]
theorem belowL_len (dir : ByteArray) (l : List (ByteArray × Int × List ByteArray)) : (belowL dir l).length ≤ l.length := by
  rw [belowL, List.length_map]; exact List.length_filter_le _ _

set_option maxHeartbeats 4000000 in
set_option maxRecDepth 100000 in
theorem below_bad (a : Option Addr) (n cap : Nat) (l : List (ByteArray × Int × List ByteArray)) (dir : ByteArray) (w : World) (hl : EntsOk n l) (hl0 : LiesE w a l) (hc : n ≤ cap) (ht : ¬ isTree l) :
    Calls Tryd.prog 13 #[.slice a n cap, .string dir] w fun e w' => e = .returned (.slice none 0 0) ∧ Below w.heap.size w w' := by
  have hne : (checkAns l).1 ≠ 0 := fun h => ht (checkAns_tree.1 h)
  have hck := check_ans a n cap l w hl hl0 hc
  generalize (checkAns l).1 = c at hck hne
  generalize (checkAns l).2 = pl at hck
  clear hl hl0 hc ht
  go_enter Tryd.func13, Tryd.ntmps13
  go_wp2_with fail
  refine hck.mono ?_
  rintro e w1 ⟨⟨v, rfl, hv⟩, hb1⟩
  obtain ⟨hv1, hv2⟩ := hv.bad hne
  clear hv hck
  go_wp2
  go_ret
  exact ⟨rfl, hb1⟩

theorem not_none {s : ByteArray} (h : s ≠ ⟨#[]⟩) : s.toList.isEmpty = false := by
  cases e : s.toList with
  | nil =>
    rw [ByteArray.toList_eq] at e
    exact absurd (ByteArray.ext (Array.ext' e)) h
  | cons _ _ => rfl

set_option maxHeartbeats 4000000 in
set_option maxRecDepth 100000 in
theorem below_ok (a : Option Addr) (n cap : Nat) (l : List (ByteArray × Int × List ByteArray)) (dir : ByteArray) (w : World) (hl : EntsOk n l) (hl0 : LiesE w a l) (hc : n ≤ cap) (ht : isTree l) (hd : dir.size ≤ 2000) :
    Calls Tryd.prog 13 #[.slice a n cap, .string dir] w fun e w' => ∃ v, e = .returned v ∧ Strs w.heap.size v (belowL dir l) w w' := by
  have hck := check_tree a n cap l w hl hl0 hc ht
  have HL : Hid (LiesE w a l) := hl0
  have HN : Hid (n = l.length) := hl.1
  have hnm : n ≤ 100 := hl.2.1
  have hun : Hid (∀ j, j < n → ∀ W, Calls Tryd.prog 29 #[.string dir, .string (entOf l j).1] W fun e w' => e = .returned (.bool (isUnder dir (entOf l j).1)) ∧ Below W.heap.size W w') := fun j hj W => under_any dir _ W (by omega) (by have := (hl.2.2 j hj).1; omega)
  have hcl : Hid (∀ j, j < n → ∀ W, Calls Tryd.prog 30 #[.string (entOf l j).1] W fun e w' => e = .returned (.string (entOf l j).1) ∧ Below W.heap.size W w') := fun j hj W => Chunk.clone_any _ W (by have := (hl.2.2 j hj).1; omega)
  clear hl hl0 hc ht hd
  go_enter Tryd.func13, Tryd.ntmps13
  go_wp2_with fail
  refine hck.mono ?_
  rintro e w1 ⟨rfl, hb1⟩
  clear hck
  go_wp2
  go_loopw [5, 7, 13] (fun t5 _ t13 wr => ∃ (i : Nat), t13 = .int .i64 (i : Int) ∧ i ≤ n ∧ Strs w1.heap.size t5 (belowL dir (l.take i)) w1 wr) (fun _ _ t13 _ => n - (intOf t13).toNat)
  case atStart => exact ⟨0, rfl, Nat.zero_le _, by rw [List.take_zero]; exact Strs.nil w1⟩
  case round =>
    obtain ⟨i, rfl, hi, hst⟩ := hrel
    by_cases hin : i < n
    · have HBW : Hid (Below w.heap.size w wr) := hb1.trans (hst.2.1.mono hb1.size)
      obtain ⟨x, hx, g0, g1, ka, kc, g2, hk⟩ := (HL.out.below HBW.out (Nat.le_refl _)).at (j := i) (by rw [← HN.out]; exact hin)
      subst hx
      have hu := hun.out i hin
      have hcc := hcl.out i hin
      have HT : Hid (belowL dir (l.take (i + 1)) = belowL dir (l.take i) ++ (if (decide (dir = ⟨#[]⟩) || isUnder dir (entOf l i).1) = true then [(entOf l i).1] else [])) := by
        show _ = _
        rw [take_succ_ent (by rw [← HN.out]; exact hin), belowL_app]
        congr 1
        rw [belowL, List.filter_cons]
        split <;> rfl
      have HTL : Hid ((belowL dir (l.take i)).length ≤ 100) := by
        show _ ≤ _
        have := belowL_len dir (l.take i)
        rw [List.length_take] at this; omega
      generalize entOf l i = en at g0 g1 g2 hk hu hcc HT
      obtain ⟨p, sz, ks⟩ := en
      have hix := index_ent x n cap i hin
      simp only at g0 g1 g2 hk hu hcc HT
      generalize ks.length = kn at g2
      generalize x.add (i * 3) = q at g0 g1 g2 hix
      generalize belowL dir (l.take i) = d at hst HT HTL
      clear hk HBW
      by_cases hd : dir = ⟨#[]⟩
      · have HT2 : Hid (belowL dir (l.take (i + 1)) = d ++ [p]) := by
          show _ = _
          rw [HT.out, decide_eq_true hd, Bool.true_or, if_pos rfl]
        subst hd
        clear HT
        go_wp2_with (first
          | (go_at_call 30; refine (hcc _).mono ?_; rintro e w3 ⟨rfl, hb3⟩)
          | (at_builtin; refine wpList_str rfl (.tmp 25) (.tmp 29) rfl w1.heap.size _ d rfl w1 w3 p ((hst.alloc _).later hb3) rfl (by have := HTL.out; omega) ?_; intro v' w4 hb4))
        go_roundw
        case rel => exact ⟨i + 1, by go_num, by omega, by rw [HT2.out]; exact hb4⟩
        case measure => simp [intOf]; omega
      · have hne := not_none hd
        cases hb : isUnder dir p with
        | true =>
          have HT2 : Hid (belowL dir (l.take (i + 1)) = d ++ [p]) := by
            show _ = _
            rw [HT.out, hb, Bool.or_true, if_pos rfl]
          rw [hb] at hu
          clear HT hb hd
          go_wp2_with (first
            | (go_at_call 29; refine (hu _).mono ?_; rintro e w2 ⟨rfl, hb2⟩; have e0 : w2.cell? ⟨wr.heap.size, 0, none⟩ = some (.string p) := cell_kept hb2 (by simp))
            | (go_at_call 30; refine (hcc _).mono ?_; rintro e w3 ⟨rfl, hb3⟩)
            | (at_builtin; refine wpList_str rfl (.tmp 25) (.tmp 29) rfl w1.heap.size _ d rfl w1 w3 p (((hst.alloc _).later hb2).later hb3) rfl (by have := HTL.out; omega) ?_; intro v' w4 hb4))
          go_roundw
          case rel => exact ⟨i + 1, by go_num, by omega, by rw [HT2.out]; exact hb4⟩
          case measure => simp [intOf]; omega
        | false =>
          have HT2 : Hid (belowL dir (l.take (i + 1)) = d) := by
            show _ = _
            rw [HT.out, hb, decide_eq_false hd, Bool.or_false, if_neg Bool.false_ne_true, List.append_nil]
          rw [hb] at hu
          clear HT hb hd hcc
          go_wp2_with (go_at_call 29; refine (hu _).mono ?_; rintro e w2 ⟨rfl, hb2⟩)
          go_roundw
          case rel => exact ⟨i + 1, by go_num, by omega, by rw [HT2.out]; exact (hst.alloc _).later hb2⟩
          case measure => simp [intOf]; omega
    · have HE : Hid (Strs w1.heap.size u5 (belowL dir l) w1 wr) := by rw [List.take_of_length_le (by rw [← HN.out]; omega)] at hst; exact hst
      clear hst
      go_wp2
      go_ret
      exact ⟨_, rfl, own_mono HE.out.1 hb1.size, hb1.trans (HE.out.2.1.mono hb1.size), Nat.le_trans hb1.size HE.out.2.2⟩
end Go.Proofs.YtcjkficpiedpfaaDoor.Tree
