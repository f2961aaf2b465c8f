/-
  TreeBelow, walked: whatever entries and text, the call returns true, and makes memory of its own alone.
-/
import Derived.Test.YtcjkficpiedpfaaDoorTrUp
import Derived.Test.YtcjkficpiedpfaaDoorTrBelow
namespace Go.Proofs.YtcjkficpiedpfaaDoor.Tree
open Go.RowKit Route Chunk

/-- What a walk knows of entries that came in. -/
def EntsIn (w : World) (a : Option Addr) (n cap : Nat) (l : List (ByteArray × Int × List ByteArray)) : Prop := n = l.length ∧ LiesE w a l ∧ n ≤ cap

set_option maxHeartbeats 4000000 in
set_option maxRecDepth 100000 in
theorem below_far (a : Option Addr) (n cap : Nat) (l : List (ByteArray × Int × List ByteArray)) (path : ByteArray) (w : World) (hg : Known w) (hl : EntsIn w a n cap l) (hp : path.size ≤ maxLen)
    (h : ¬ (n ≤ 100 ∧ (∀ j, j < n → shortE (entOf l j)) ∧ path.size ≤ 2000)) :
    Calls Tryd.prog 8 #[.slice a n cap, .string path] w fun e w' => e = .returned (.bool true) ∧ Below w.heap.size w w' := by
  have hsh : Hid (∀ W, Below w.heap.size w W → Calls Tryd.prog 10 #[.slice a n cap] W fun e w' => Shorts e n l ∧ w' = W) := fun W hb => short_any a n cap l W hl.1 (hl.2.1.below hb (Nat.le_refl _))
  have hup := up_any w hg
  obtain ⟨z, hz⟩ : ∃ z, z = path.size := ⟨_, rfl⟩
  have hlen := Tree.len_text path z hz
  have HH : Hid (¬ (n ≤ 100 ∧ (∀ j, j < n → shortE (entOf l j)) ∧ z ≤ 2000)) := by rw [hz]; exact h
  have hzm : z ≤ 9223372036854775807 := by rw [hz]; unfold maxLen at hp; omega
  clear hg hl hp h hz
  go_enter Tryd.func8, Tryd.ntmps8
  go_wp2_with fail
  refine hup.mono ?_
  rintro e w1 ⟨rfl, hb1⟩
  go_wp2_with fail
  refine (hsh.out _ hb1).mono ?_
  rintro e w2 ⟨⟨b, rfl, hb⟩, rfl⟩
  have HQ : Hid (b = true → ¬ z ≤ 2000) := fun hbt hz => HH.out ⟨(hb hbt).1, (hb hbt).2, hz⟩
  clear hb hup
  cases b with
  | false =>
    go_wp2
    go_ret
    exact ⟨rfl, hb1⟩
  | true =>
    have hz2 : ¬ z ≤ 2000 := HQ.out rfl
    clear HQ
    go_wp2
    go_ret
    exact ⟨rfl, hb1⟩

set_option maxHeartbeats 4000000 in
set_option maxRecDepth 100000 in
theorem below_not (a : Option Addr) (n cap : Nat) (l : List (ByteArray × Int × List ByteArray)) (path : ByteArray) (w : World) (hg : Known w) (hl : EntsIn w a n cap l) (hp : path.size ≤ 2000) (hok : EntsOk n l) (ht : ¬ isTree l) :
    Calls Tryd.prog 8 #[.slice a n cap, .string path] w fun e w' => e = .returned (.bool true) ∧ Below w.heap.size w w' := by
  have hsh : Hid (∀ W, Below w.heap.size w W → Calls Tryd.prog 10 #[.slice a n cap] W fun e w' => Shorts e n l ∧ w' = W) := fun W hb => short_any a n cap l W hl.1 (hl.2.1.below hb (Nat.le_refl _))
  have hbl : Hid (∀ s W, Below w.heap.size w W → Calls Tryd.prog 13 #[.slice a n cap, .string s] W fun e w' => e = .returned (.slice none 0 0) ∧ Below W.heap.size W w') := fun s W hb => below_bad a n cap l s W hok (hl.2.1.below hb (Nat.le_refl _)) hl.2.2 ht
  have hup := up_any w hg
  obtain ⟨z, hz⟩ : ∃ z, z = path.size := ⟨_, rfl⟩
  have hlen := Tree.len_text path z hz
  rw [← hz] at hp
  clear hg hl hz hok ht
  go_enter Tryd.func8, Tryd.ntmps8
  go_wp2_with fail
  refine hup.mono ?_
  rintro e w1 ⟨rfl, hb1⟩
  go_wp2_with fail
  refine (hsh.out _ hb1).mono ?_
  rintro e w2 ⟨⟨b, rfl, hb⟩, rfl⟩
  clear hb hup
  cases b with
  | false =>
    go_wp2
    go_ret
    exact ⟨rfl, hb1⟩
  | true =>
    go_wp2_with fail
    refine (hbl.out _ _ hb1).mono ?_
    rintro e w3 ⟨rfl, hb3⟩
    have hb13 := hb1.trans (hb3.mono hb1.size)
    go_wp2_with fail
    refine (hbl.out _ _ hb13).mono ?_
    rintro e w4 ⟨rfl, hb4⟩
    have hb14 := hb13.trans (hb4.mono hb13.size)
    clear hb1 hb3 hb4 hb13
    go_wp2
    go_loop [9, 10] (fun t9 t10 => t9 = .int .i64 0 ∧ t10 = .int .i64 0) (fun _ _ => 0)
    case atStart => exact ⟨rfl, rfl⟩
    case round =>
      obtain ⟨rfl, rfl⟩ := hrel
      go_wp2
      go_ret
      exact ⟨rfl, hb14⟩

/-- Is an entry under the text, or the text none? -/
def isBelow (path : ByteArray) (e : ByteArray × Int × List ByteArray) : Bool := decide (path = ⟨#[]⟩) || isUnder path e.1

theorem belowL_cons (path : ByteArray) (e : ByteArray × Int × List ByteArray) (l : List (ByteArray × Int × List ByteArray)) : belowL path (e :: l) = if isBelow path e = true then e.1 :: belowL path l else belowL path l := by
  unfold belowL isBelow
  rw [List.filter_cons]
  cases (decide (path = ⟨#[]⟩) || isUnder path e.1) <;> simp

theorem belowL_mem {path s : ByteArray} {l : List (ByteArray × Int × List ByteArray)} (h : s ∈ belowL path l) : ∃ e, e ∈ l ∧ isBelow path e = true ∧ e.1 = s := by
  simp only [belowL, List.mem_map, List.mem_filter] at h
  obtain ⟨e, ⟨h1, h2⟩, h3⟩ := h
  exact ⟨e, h1, h2, h3⟩

theorem belowL_all (l : List (ByteArray × Int × List ByteArray)) : belowL ⟨#[]⟩ l = l.map (·.1) := by
  unfold belowL
  rw [List.filter_eq_self.2 (fun _ _ => by simp)]

theorem map_at {l : List (ByteArray × Int × List ByteArray)} {j : Nat} (h : j < l.length) : (l.map (·.1)).getD j ByteArray.empty = (entOf l j).1 := by
  simp [entOf, List.getD_eq_getElem?_getD, h]

/-- How it stands ahead of a round: what is left of some is what is below of all that is left. -/
theorem below_next {path : ByteArray} {l : List (ByteArray × Int × List ByteArray)} {S : List ByteArray} {i at0 : Nat} (hi : i < S.length) (h : S.drop i = belowL path (l.drop at0)) :
    at0 < l.length ∧ ((entOf l at0).1 = S.getD i ByteArray.empty ∧ S.drop (i + 1) = belowL path (l.drop (at0 + 1)) ∨ (entOf l at0).1 ≠ S.getD i ByteArray.empty ∧ S.drop i = belowL path (l.drop (at0 + 1))) := by
  have h0 : at0 < l.length := by
    rcases Nat.lt_or_ge at0 l.length with h1 | h1
    · exact h1
    · rw [List.drop_eq_nil_of_le h1] at h
      have := congrArg List.length h
      simp [belowL] at this
      omega
  refine ⟨h0, ?_⟩
  have hd := drop_ent h0
  rw [hd, belowL_cons, drop_text hi] at h
  cases hb : isBelow path (entOf l at0) with
  | true =>
    rw [hb, if_pos rfl] at h
    simp only [List.cons.injEq] at h
    exact .inl ⟨h.1.symm, h.2⟩
  | false =>
    rw [hb, if_neg Bool.false_ne_true] at h
    refine .inr ⟨fun e => ?_, by rw [drop_text hi]; exact h⟩
    have hm : S.getD i ByteArray.empty ∈ belowL path (l.drop (at0 + 1)) := by rw [← h]; exact List.mem_cons_self
    obtain ⟨x, _, h1, h2⟩ := belowL_mem hm
    unfold isBelow at hb h1
    rw [h2, ← e, hb] at h1
    cases h1

set_option maxHeartbeats 4000000 in
set_option maxRecDepth 100000 in
theorem below_tree (a : Option Addr) (n cap : Nat) (l : List (ByteArray × Int × List ByteArray)) (path : ByteArray) (w : World) (hg : Known w) (hl : EntsIn w a n cap l) (hp : path.size ≤ 2000) (hok : EntsOk n l) (ht : isTree l) :
    Calls Tryd.prog 8 #[.slice a n cap, .string path] w fun e w' => e = .returned (.bool true) ∧ Below w.heap.size w w' := by
  have hsh : Hid (∀ W, Below w.heap.size w W → Calls Tryd.prog 10 #[.slice a n cap] W fun e w' => Shorts e n l ∧ w' = W) := fun W hb => short_any a n cap l W hl.1 (hl.2.1.below hb (Nat.le_refl _))
  have hbl : Hid (∀ (s : ByteArray) W, s.size ≤ 2000 → Below w.heap.size w W → Calls Tryd.prog 13 #[.slice a n cap, .string s] W fun e w' => ∃ v, e = .returned v ∧ Strs W.heap.size v (belowL s l) W w') := fun s W hs hb => below_ok a n cap l s W hok (hl.2.1.below hb (Nat.le_refl _)) hl.2.2 ht hs
  have hfd : Hid (∀ j, j < n → ∀ W, Below w.heap.size w W → Calls Tryd.prog 12 #[.slice a n cap, .string (entOf l j).1] W fun e w' => (∃ p sz a' k c, e = .returned (.tuple #[.agg #[.string p, .int .i64 sz, .slice a' k c], .nilIface])) ∧ Below W.heap.size W w') := by
    intro j hj W hb
    refine find_core _ a n cap l _ W hok (hl.2.1.below hb (Nat.le_refl _)) hl.2.2 ht ?_ ?_
    · intro k _ _ v w' hs
      rcases hs.form with ⟨rfl, _⟩ | ⟨_, _, rfl, _⟩ <;> exact ⟨⟨_, _, _, _, _, rfl⟩, hs.2.1⟩
    · intro hne
      exact absurd rfl (hne j hj)
  have hup := up_any w hg
  obtain ⟨z, hz⟩ : ∃ z, z = path.size := ⟨_, rfl⟩
  have hlen := Tree.len_text path z hz
  have HP : Hid (path.size ≤ 2000) := hp
  rw [← hz] at hp
  have HN : Hid (n = l.length) := hl.1
  have hnm : n ≤ 100 := hok.2.1
  clear hg hl hz hok ht
  go_enter Tryd.func8, Tryd.ntmps8
  go_wp2_with fail
  refine hup.mono ?_
  rintro e w1 ⟨rfl, hb1⟩
  go_wp2_with fail
  refine (hsh.out _ hb1).mono ?_
  rintro e w2 ⟨⟨b, rfl, hb⟩, rfl⟩
  clear hb hup
  cases b with
  | false =>
    go_wp2
    go_ret
    exact ⟨rfl, hb1⟩
  | true =>
    go_wp2_with fail
    refine (hbl.out _ _ (by show 0 ≤ 2000; omega) hb1).mono ?_
    rintro e w3 ⟨v3, rfl, hs3⟩
    rw [belowL_all] at hs3
    obtain ⟨a3, c3, rfl, _, _, hl3⟩ := hs3.liesN (n := n) (by rw [List.length_map]; exact HN.out)
    have hb13 := hb1.trans (hs3.2.1.mono hb1.size)
    go_wp2_with fail
    refine (hbl.out _ _ HP.out hb13).mono ?_
    rintro e w4 ⟨v4, rfl, hs4⟩
    obtain ⟨L, hL⟩ : ∃ L, L = (belowL path l).length := ⟨_, rfl⟩
    have hLn : L ≤ n := by rw [hL, HN.out]; exact belowL_len path l
    obtain ⟨a4, c4, rfl, _, _, hl4⟩ := hs4.liesN hL
    have HL : Hid (L = (belowL path l).length) := hL
    have HS0 : Hid ((belowL path l).drop 0 = belowL path (l.drop 0)) := rfl
    have hb14 := hb13.trans (hs4.2.1.mono hb13.size)
    have HA : Hid (Lies w4 a3 (l.map (·.1))) := hl3.below hs4.2.1 (Nat.le_refl _)
    have HC : Hid (Lies w4 a4 (belowL path l)) := hl4
    have HB : Hid (Below w.heap.size w w4) := hb14
    generalize belowL path l = S at HL HS0 HC
    clear hs3 hs4 hl3 hl4 hb1 hb13 hb14 hL
    go_wp2
    go_loopw [9, 10, 11, 12] (fun t9 t10 _ _ wr => ∃ i at0 : Nat, t9 = .int .i64 (at0 : Int) ∧ t10 = .int .i64 (i : Int) ∧ i ≤ L ∧ at0 ≤ n ∧ Below w4.heap.size w4 wr ∧ Hid (S.drop i = belowL path (l.drop at0))) (fun _ t10 _ _ _ => L - (intOf t10).toNat)
    case atStart => exact ⟨0, 0, rfl, rfl, Nat.zero_le _, Nat.zero_le _, Below.refl _ _, HS0⟩
    case round =>
      obtain ⟨i, at0, rfl, rfl, hi, hat, hbr, HI⟩ := hrel
      by_cases hiL : i < L
      · obtain ⟨x4, hx4, hc4⟩ := (HC.out.below hbr (Nat.le_refl _)).cellAt (j := i) (by rw [← HL.out]; exact hiL)
        subst hx4
        have HSI : Hid (∀ k, S.drop i = belowL path (l.drop k) → k < n ∧ ((entOf l k).1 = S.getD i ByteArray.empty ∧ S.drop (i + 1) = belowL path (l.drop (k + 1)) ∨ (entOf l k).1 ≠ S.getD i ByteArray.empty ∧ S.drop i = belowL path (l.drop (k + 1)))) := fun k hk => by
          have := below_next (by rw [← HL.out]; exact hiL) hk
          rw [HN.out]; exact this
        generalize S.getD i ByteArray.empty = s at hc4 HSI
        have HBR : Hid (Below w4.heap.size w4 wr) := hbr
        clear hbr
        go_wp2
        go_loopw [9] (fun t9 wq => ∃ at1 q : Nat, t9 = .int .i64 (at1 : Int) ∧ at1 ≤ n ∧ wq = wr.drewN q ∧ Hid (S.drop i = belowL path (l.drop at1))) (fun t9 _ => n - (intOf t9).toNat)
        case atStart => exact ⟨at0, 0, rfl, hat, rfl, HI⟩
        case round =>
          obtain ⟨at1, q, rfl, hat1, rfl, HJ⟩ := hrel
          obtain ⟨hlt, hor⟩ := HSI.out at1 HJ.out
          obtain ⟨x3, hx3, hc3⟩ := (HA.out.below HBR.out (Nat.le_refl _)).cellAt (j := at1) (by rw [List.length_map, ← HN.out]; exact hlt)
          subst hx3
          rw [map_at (by rw [← HN.out]; exact hlt)] at hc3
          have hd : decide (at1 < n) = true := decide_eq_true hlt
          rcases hor with ⟨he, hn1⟩ | ⟨hne, hn1⟩
          · have hfi := hfd.out at1 hlt
            rw [he] at hc3 hfi
            have HN1 : Hid (S.drop (i + 1) = belowL path (l.drop (at1 + 1))) := hn1
            clear he hn1 HJ
            go_wp2_with fail
            go_quiet (fail)
            go_wp2_with fail
            have HBQ : Hid (Below w4.heap.size w4 (wr.drewN (q + nq))) := below_drewN HBR.out _
            refine (hfi _ (HB.out.trans (HBQ.out.mono HB.out.size))).mono ?_
            rintro e w5 ⟨⟨p5, z5, a5, k5, c5, rfl⟩, hb5⟩
            have HB5 : Hid (Below w4.heap.size w4 w5) := HBQ.out.trans (hb5.mono HBQ.out.size)
            clear hb5 hfi
            go_wp2
            go_roundw
            case rel => exact ⟨i + 1, at1 + 1, by go_num, by go_num, by omega, by omega, HB5.out.alloc HB5.out.size _, HN1⟩
            case measure => simp [intOf]; omega
          · have hnt := ne_text hne
            have HN1 : Hid (S.drop i = belowL path (l.drop (at1 + 1))) := hn1
            generalize (entOf l at1).1 = p at hc3 hnt
            clear hne hn1 HJ
            go_wp2_with fail
            go_quiet (fail)
            go_wp2
            go_roundw
            case rel => exact ⟨at1 + 1, q + nq, by go_num, by omega, by first | rfl | rw [World.drewN_drewN], HN1⟩
            case measure => simp [intOf]; omega
      · go_wp2
        go_ret
        exact ⟨by simp, HB.out.trans (hbr.mono HB.out.size)⟩

theorem treeBelow_walk (a : Option Addr) (l : List (ByteArray × Int × List ByteArray)) (n cap : Nat) (path : ByteArray) (w : World) (hg : Known w) (hl : EntsIn w a n cap l) (hp : path.size ≤ maxLen) :
    Calls Tryd.prog 8 #[.slice a n cap, .string path] w fun e w' => e = .returned (.bool true) ∧ Below w.heap.size w w' := by
  by_cases h : n ≤ 100 ∧ (∀ j, j < n → shortE (entOf l j)) ∧ path.size ≤ 2000
  · by_cases ht : isTree l
    · exact below_tree a n cap l path w hg hl h.2.2 ⟨hl.1, h.1, h.2.1⟩ ht
    · exact below_not a n cap l path w hg hl h.2.2 ⟨hl.1, h.1, h.2.1⟩ ht
  · exact below_far a n cap l path w hg hl hp h
end Go.Proofs.YtcjkficpiedpfaaDoor.Tree
