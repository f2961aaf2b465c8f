/-
  TreeChecks, walked, where the entries are many or long, or no tree.
-/
import Derived.Test.YtcjkficpiedpfaaDoorTrRef
import Derived.Test.YtcjkficpiedpfaaDoorTrSame
import Derived.Test.YtcjkficpiedpfaaDoorTrLBelow
import Derived.Test.YtcjkficpiedpfaaDoorRtCuts
namespace Go.Proofs.YtcjkficpiedpfaaDoor.Tree
open Go.RowKit Route Chunk

theorem checkAns_all {l : List (ByteArray × Int × List ByteArray)} (hn : l.length ≤ 32) (h : ∀ j, j < l.length → codeOf (l.take j) (entOf l j) = 0) : checkAns l = (0, none) := by
  rw [checkAns, if_neg (by omega), firstBad_all _ _ fun j _ hj => h j (by omega)]

theorem checkAns_at {l : List (ByteArray × Int × List ByteArray)} {j : Nat} (hn : l.length ≤ 32) (hj : j < l.length) (h0 : ∀ k, k < j → codeOf (l.take k) (entOf l k) = 0) (h1 : codeOf (l.take j) (entOf l j) ≠ 0) : checkAns l = (codeOf (l.take j) (entOf l j), some j) := by
  rw [checkAns, if_neg (by omega)]
  cases e : firstBad l 0 l.length with
  | none => exact absurd (firstBad_none _ _ e j (Nat.zero_le _) (by omega)) h1
  | some x =>
    obtain ⟨c, i⟩ := x
    obtain ⟨_, h2, h3, h4⟩ := firstBad_some _ _ e
    have hij : i = j := by
      rcases Nat.lt_trichotomy i j with h | h | h
      · exact absurd (h4 ▸ h0 i h) h3
      · exact h
      · exact absurd (firstBad_first _ _ e j (Nat.zero_le _) h) h1
    subst hij
    rw [h4]

theorem codeOf_num (ahead : List (ByteArray × Int × List ByteArray)) (e : ByteArray × Int × List ByteArray) : codeOf ahead e = 0 ∨ Num (codeOf ahead e) := by
  unfold codeOf Num
  split
  · simp
  · split
    · simp
    · split <;> simp

theorem checkAns_num (l : List (ByteArray × Int × List ByteArray)) : ((checkAns l).1 = 0 ∨ Num (checkAns l).1) ∧ ((checkAns l).2 = none → (checkAns l).1 = 0 ∨ (checkAns l).1 = 1 ∨ (checkAns l).1 = 7) := by
  unfold checkAns
  split
  · exact ⟨.inr (by simp [Num]), fun _ => .inr (.inr rfl)⟩
  · cases e : firstBad l 0 l.length with
    | none => exact ⟨.inl rfl, fun _ => .inl rfl⟩
    | some x =>
      obtain ⟨c, i⟩ := x
      obtain ⟨_, _, _, h4⟩ := firstBad_some _ _ e
      exact ⟨by rw [← h4]; exact codeOf_num _ _, fun h => by cases h⟩

/-- What the answer's 'Check' tells, of any entries that are few and short. -/
theorem refCheck_ans (a : Option Addr) (n cap : Nat) (l : List (ByteArray × Int × List ByteArray)) (w : World) (hl : EntsOk n l) (hl0 : LiesE w a l) :
    Calls Tryd.prog 14 #[.slice a n cap] w fun e w' => e = .returned (.tuple #[.int .i64 ((checkAns l).1 : Int), .int .i64 (placeI (checkAns l).2)]) ∧ Below w.heap.size w w' := by
  have hn := hl.1
  by_cases h : 32 < n
  · refine (refCheck_large a n cap w h hl.2.1).mono ?_
    rintro e w' ⟨rfl, rfl⟩
    rw [checkAns, if_pos (by omega)]
    exact ⟨rfl, Below.refl _ _⟩
  · refine refCheck_core a n cap l _ _ w hl hl0 (by omega) ?_ ?_
    · intro h0
      rw [checkAns_all (by omega) fun j hj => h0 j (by omega)]
      exact ⟨rfl, rfl⟩
    · intro j hj h0 h1
      rw [checkAns_at (by omega) (by omega) h0 h1]
      exact ⟨rfl, rfl⟩

theorem zero_same (W : World) : Calls Tryd.prog 16 #[.agg #[.string ⟨#[]⟩, .int .i64 0, .slice none 0 0], .agg #[.string ⟨#[]⟩, .int .i64 0, .slice none 0 0]] W fun e w' => e = .returned (.bool true) ∧ Below W.heap.size W w' := by
  have := sameE_any ⟨#[]⟩ ⟨#[]⟩ 0 0 none none 0 0 0 0 [] [] W rfl (.inl rfl) rfl (.inl rfl) (by omega) (by omega)
  rw [decide_eq_true ⟨rfl, rfl, rfl⟩] at this
  exact this

set_option maxHeartbeats 4000000 in
set_option maxRecDepth 100000 in
theorem checks_far (a : Option Addr) (n cap : Nat) (l : List (ByteArray × Int × List ByteArray)) (path : ByteArray) (w : World) (hg : Known w) (hl : EntsIn w a n cap l) (hp : path.size ≤ maxLen)
    (h : ¬ (n ≤ 100 ∧ (∀ j, j < n → shortE (entOf l j)) ∧ path.size ≤ 2000)) :
    Calls Tryd.prog 3 #[.slice a n cap, .string path] w fun e w' => e = .returned (.bool true) ∧ Below w.heap.size w w' := by
  have hsh : Hid (∀ W, Below w.heap.size w W → Calls Tryd.prog 10 #[.slice a n cap] W fun e w' => Shorts e n l ∧ w' = W) := fun W hb => short_any a n cap l W hl.1 (hl.2.1.below hb (Nat.le_refl _))
  have hup := up_any w hg
  obtain ⟨z, hz⟩ : ∃ z, z = path.size := ⟨_, rfl⟩
  have hlen := Tree.len_text path z hz
  have HH : Hid (¬ (n ≤ 100 ∧ (∀ j, j < n → shortE (entOf l j)) ∧ z ≤ 2000)) := by rw [hz]; exact h
  have hzm : z ≤ 9223372036854775807 := by rw [hz]; unfold maxLen at hp; omega
  clear hg hl hp h hz
  go_enter Tryd.func3, Tryd.ntmps3
  go_wp2_with fail
  refine hup.mono ?_
  rintro e w1 ⟨rfl, hb1⟩
  go_wp2_with fail
  refine (hsh.out _ hb1).mono ?_
  rintro e w2 ⟨⟨b, rfl, hb⟩, rfl⟩
  have HQ : Hid (b = true → ¬ z ≤ 2000) := fun hbt hz => HH.out ⟨(hb hbt).1, (hb hbt).2, hz⟩
  clear hb hup
  cases b with
  | false =>
    go_wp2
    go_ret
    exact ⟨rfl, hb1⟩
  | true =>
    have hz2 : ¬ z ≤ 2000 := HQ.out rfl
    clear HQ
    go_wp2
    go_ret
    exact ⟨rfl, hb1⟩

set_option maxHeartbeats 4000000 in
set_option maxRecDepth 100000 in
theorem checks_not (a : Option Addr) (n cap : Nat) (l : List (ByteArray × Int × List ByteArray)) (path : ByteArray) (w : World) (hg : Known w) (hl : EntsIn w a n cap l) (hp : path.size ≤ 2000) (hok : EntsOk n l) (ht : ¬ isTree l) :
    Calls Tryd.prog 3 #[.slice a n cap, .string path] w fun e w' => e = .returned (.bool true) ∧ Below w.heap.size w w' := by
  have hsh : Hid (∀ W, Below w.heap.size w W → Calls Tryd.prog 10 #[.slice a n cap] W fun e w' => Shorts e n l ∧ w' = W) := fun W hb => short_any a n cap l W hl.1 (hl.2.1.below hb (Nat.le_refl _))
  have hck : Hid (∀ W, Below w.heap.size w W → Calls Tryd.prog 11 #[.slice a n cap] W fun e w' => (∃ v, e = .returned v ∧ ErrV W.heap.size w' v (checkAns l).1 (checkAns l).2) ∧ Below W.heap.size W w') := fun W hb => check_ans a n cap l W hok (hl.2.1.below hb (Nat.le_refl _)) hl.2.2
  have hfd : Hid (∀ W, Below w.heap.size w W → Calls Tryd.prog 12 #[.slice a n cap, .string path] W fun e w' => (∃ v, e = .returned (.tuple #[.agg #[.string ⟨#[]⟩, .int .i64 0, .slice none 0 0], v]) ∧ ErrV W.heap.size w' v (checkAns l).1 (checkAns l).2) ∧ Below W.heap.size W w') := fun W hb => find_bad a n cap l path W hok (hl.2.1.below hb (Nat.le_refl _)) hl.2.2 ht
  have hbl : Hid (∀ W, Below w.heap.size w W → Calls Tryd.prog 13 #[.slice a n cap, .string path] W fun e w' => e = .returned (.slice none 0 0) ∧ Below W.heap.size W w') := fun W hb => below_bad a n cap l path W hok (hl.2.1.below hb (Nat.le_refl _)) hl.2.2 ht
  have hrc : Hid (∀ W, Below w.heap.size w W → Calls Tryd.prog 14 #[.slice a n cap] W fun e w' => e = .returned (.tuple #[.int .i64 ((checkAns l).1 : Int), .int .i64 (placeI (checkAns l).2)]) ∧ Below W.heap.size W w') := fun W hb => refCheck_ans a n cap l W hok (hl.2.1.below hb (Nat.le_refl _))
  have hto : Hid (∀ B v W, Below w.heap.size w W → ErrV B W v (checkAns l).1 (checkAns l).2 → Calls Tryd.prog 15 #[v, .int .i64 ((checkAns l).1 : Int), .int .i64 (placeI (checkAns l).2)] W fun e w' => e = .returned (.bool true) ∧ Below W.heap.size W w') := fun B v W hb h => told_any v _ _ W (hg.below hb (Nat.le_refl _)) h (checkAns_num l).1 (checkAns_num l).2
  have hne : (checkAns l).1 ≠ 0 := fun h => ht (checkAns_tree.1 h)
  have hup := up_any w hg
  obtain ⟨z, hz⟩ : ∃ z, z = path.size := ⟨_, rfl⟩
  have hlen := Tree.len_text path z hz
  rw [← hz] at hp
  have HZS : Hid (∀ W, Calls Tryd.prog 16 #[.agg #[.string ⟨#[]⟩, .int .i64 0, .slice none 0 0], .agg #[.string ⟨#[]⟩, .int .i64 0, .slice none 0 0]] W fun e w' => e = .returned (.bool true) ∧ Below W.heap.size W w') := zero_same
  generalize (checkAns l).1 = c at hck hfd hrc hto hne
  generalize (checkAns l).2 = pl at hck hfd hrc hto
  generalize placeI pl = P at hrc hto
  have hcne : ((c : Int) != 0) = true := by simp; exact hne
  clear hg hl hz hok ht hne
  go_enter Tryd.func3, Tryd.ntmps3
  go_wp2_with fail
  refine hup.mono ?_
  rintro e w1 ⟨rfl, hb1⟩
  go_wp2_with fail
  refine (hsh.out _ hb1).mono ?_
  rintro e w2 ⟨⟨b, rfl, hb⟩, rfl⟩
  clear hb hup
  cases b with
  | false =>
    go_wp2
    go_ret
    exact ⟨rfl, hb1⟩
  | true =>
    go_wp2_with fail
    refine (hck.out _ hb1).mono ?_
    rintro e w3 ⟨⟨v3, rfl, hv3⟩, hb3⟩
    have HB3 : Hid (Below w.heap.size w w3) := hb1.trans (hb3.mono hb1.size)
    have HV3 : Hid (ErrV _ w3 v3 c pl) := hv3
    clear hb1 hb3 hv3
    go_wp2_with fail
    refine (hfd.out _ HB3.out).mono ?_
    rintro e w4 ⟨⟨v4, rfl, hv4⟩, hb4⟩
    have HB34 : Hid (Below w3.heap.size w3 w4) := hb4
    have HV4 : Hid (ErrV w3.heap.size w4 v4 c pl) := hv4
    have HB4 : Hid (Below w.heap.size w w4) := HB3.out.trans (hb4.mono HB3.out.size)
    clear hb4 hv4
    go_wp2_with fail
    refine (hbl.out _ (HB4.out.alloc HB4.out.size _)).mono ?_
    rintro e w5 ⟨rfl, hb5⟩
    obtain ⟨y0, y1, y2, hb45, _⟩ := ent_box hb5
    have HB45 : Hid (Below w4.heap.size w4 w5) := hb45
    have HB5 : Hid (Below w.heap.size w w5) := HB4.out.trans (hb45.mono HB4.out.size)
    clear hb5 hb45
    go_wp2_with fail
    refine (hrc.out _ HB5.out).mono ?_
    rintro e w6 ⟨rfl, hb6⟩
    have HB56 : Hid (Below w5.heap.size w5 w6) := hb6
    have HB6 : Hid (Below w.heap.size w w6) := HB5.out.trans (hb6.mono HB5.out.size)
    have s0 := cell_kept hb6 y0
    have s1 := cell_kept hb6 y1
    have s2 := cell_kept hb6 y2
    clear hb6 y0 y1 y2
    go_wp2_with fail
    refine (hto.out _ v3 w6 HB6.out (((HV3.out.below HB34.out).below HB45.out).below HB56.out)).mono ?_
    rintro e w7 ⟨rfl, hb7⟩
    have HB67 : Hid (Below w6.heap.size w6 w7) := hb7
    have HB7 : Hid (Below w.heap.size w w7) := HB6.out.trans (hb7.mono HB6.out.size)
    have t0 := cell_kept hb7 s0
    have t1 := cell_kept hb7 s1
    have t2 := cell_kept hb7 s2
    clear hb7 s0 s1 s2
    go_wp2_with fail
    refine (hto.out _ v4 w7 HB7.out (((HV4.out.below HB45.out).below HB56.out).below HB67.out)).mono ?_
    rintro e w8 ⟨rfl, hb8⟩
    have HB8 : Hid (Below w.heap.size w w8) := HB7.out.trans (hb8.mono HB7.out.size)
    have r0 := cell_kept hb8 t0
    have r1 := cell_kept hb8 t1
    have r2 := cell_kept hb8 t2
    clear hb8 t0 t1 t2
    go_wp2_with fail
    refine (HZS.out w8).mono ?_
    rintro e w9 ⟨rfl, hb9⟩
    go_wp2
    go_ret
    exact ⟨rfl, HB8.out.trans (hb9.mono HB8.out.size)⟩
end Go.Proofs.YtcjkficpiedpfaaDoor.Tree
