/-
  TreeRestores, walked: whatever entries and chunks, the call returns true, and makes memory of its own alone.
-/
import Derived.Test.YtcjkficpiedpfaaDoorTrRef2
import Derived.Test.YtcjkficpiedpfaaDoorTrUp
namespace Go.Proofs.YtcjkficpiedpfaaDoor.Tree
open Go.RowKit Route Chunk

theorem eqFile (p q p' q' : ByteArray) (w : World) : (binOp .eql 58 (.agg #[.string p, .string q]) (.agg #[.string p', .string q'])).run Tryd.prog w = .ok (.bool (decide (p = p' ∧ q = q'))) w := by
  have u9 := Tryd.underlying9
  have a9 := Tryd.isAgg9
  have z9 := Tryd.sizeOf9
  have hS : Tryd.prog.underlying 58 = some (.struct (Tryd.prog.fieldsOf 58)) := by kernel_rfl
  have hp : Tryd.prog.stoodInHeld 58 = false := by kernel_rfl
  rw [run_eql_struct, show (10000 : Nat) = 9999 + 1 from rfl, run_equalIn_agg w 9999 58 _ _ hS hp]
  simp only [Program.fieldsOf, Tryd.underlying58]
  go_simp
  have e : ∀ a b : ByteArray, a.toList = b.toList ↔ a = b := fun a b => ⟨list_eq, fun h => by rw [h]⟩
  by_cases h1 : p = p' <;> by_cases h2 : q = q' <;> simp [e, h1, h2]

theorem neFile (p q : ByteArray) (w : World) : (binOp .neq 58 (.agg #[.string p, .string q]) (.agg #[.string p, .string q])).run Tryd.prog w = .ok (.bool false) w := by
  have h := eqFile p q p q w
  rw [run_eql_struct] at h
  rw [run_neq_struct]
  cases e : (Op.equalIn 10000 58 (.agg #[.string p, .string q]) (.agg #[.string p, .string q])).run Tryd.prog w with
  | ok b w' =>
    rw [e] at h
    simp [Result.andThen] at h ⊢
    exact ⟨by rw [h.1], h.2⟩
  | halt x w' =>
    rw [e] at h
    simp [Result.andThen] at h

set_option maxHeartbeats 4000000 in
set_option maxRecDepth 100000 in
theorem files_yes (a a' : Option Addr) (n cap cap' : Nat) (l : List (ByteArray × ByteArray)) (w : World) (hn0 : n = l.length) (hl : LiesF w a l) (hl' : LiesF w a' l) (hnm : n ≤ 1000) :
    Calls Tryd.prog 24 #[.slice a n cap, .slice a' n cap'] w fun e w' => e = .returned (.bool true) ∧ Below w.heap.size w w' := by
  have HN : Hid (n = l.length) := hn0
  have HL : Hid (LiesF w a l) := hl
  have HL' : Hid (LiesF w a' l) := hl'
  clear hn0 hl hl'
  go_enter Tryd.func24, Tryd.ntmps24
  go_wp2
  go_loopw [4, 5] (fun t4 t5 wr => ∃ i q : Nat, t4 = .bool false ∧ t5 = .int .i64 (i : Int) ∧ i ≤ n ∧ wr = w.drewN q) (fun _ t5 _ => n - (intOf t5).toNat)
  case atStart => exact ⟨0, 0, rfl, rfl, Nat.zero_le _, rfl⟩
  case round =>
    obtain ⟨i, q, rfl, rfl, hi, rfl⟩ := hrel
    by_cases hin : i < n
    · obtain ⟨x, hx, g0, g1⟩ := HL.out.at (j := i) (by rw [← HN.out]; exact hin)
      obtain ⟨x', hx', g0', g1'⟩ := HL'.out.at (j := i) (by rw [← HN.out]; exact hin)
      subst hx
      subst hx'
      generalize fileOf l i = en at g0 g1 g0' g1'
      obtain ⟨p, b⟩ := en
      have hix := index_file x n cap i hin
      have hix' := index_file x' n cap' i hin
      simp only at g0 g1 g0' g1'
      generalize x.add (i * 2) = q1 at g0 g1 hix
      generalize x'.add (i * 2) = q2 at g0' g1' hix'
      have hne := neFile p b
      go_wp2_with fail
      go_quiet (fail)
      go_wp2
      go_roundw
      case rel => exact ⟨i + 1, q + nq, rfl, by go_num, by omega, by first | rfl | rw [World.drewN_drewN]⟩
      case measure => simp [intOf]; omega
    · go_wp2
      go_ret
      exact ⟨rfl, below_drewN (Below.refl _ _) _⟩

set_option maxHeartbeats 4000000 in
set_option maxRecDepth 100000 in
theorem restores_far (a ca : Option Addr) (n cap cn ccap : Nat) (l : List (ByteArray × Int × List ByteArray)) (w : World) (hg : Known w) (hl : EntsIn w a n cap l) (hcm : cn ≤ maxLen)
    (h : ¬ (n ≤ 100 ∧ (∀ j, j < n → shortE (entOf l j)) ∧ cn ≤ 1000)) :
    Calls Tryd.prog 5 #[.slice a n cap, .slice ca cn ccap] w fun e w' => e = .returned (.bool true) ∧ Below w.heap.size w w' := by
  have hsh : Hid (∀ W, Below w.heap.size w W → Calls Tryd.prog 10 #[.slice a n cap] W fun e w' => Shorts e n l ∧ w' = W) := fun W hb => short_any a n cap l W hl.1 (hl.2.1.below hb (Nat.le_refl _))
  have hup := up_any w hg
  have HH : Hid (¬ (n ≤ 100 ∧ (∀ j, j < n → shortE (entOf l j)) ∧ cn ≤ 1000)) := h
  have hzm : cn ≤ 9223372036854775807 := by unfold maxLen at hcm; omega
  clear hg hl hcm h
  go_enter Tryd.func5, Tryd.ntmps5
  go_wp2_with fail
  refine hup.mono ?_
  rintro e w1 ⟨rfl, hb1⟩
  go_wp2_with fail
  refine (hsh.out _ hb1).mono ?_
  rintro e w2 ⟨⟨b, rfl, hb⟩, rfl⟩
  have HQ : Hid (b = true → ¬ cn ≤ 1000) := fun hbt hz => HH.out ⟨(hb hbt).1, (hb hbt).2, hz⟩
  clear hb hup
  cases b with
  | false =>
    go_wp2
    go_ret
    exact ⟨rfl, hb1⟩
  | true =>
    have hz2 : ¬ cn ≤ 1000 := HQ.out rfl
    clear HQ
    go_wp2
    go_ret
    exact ⟨rfl, hb1⟩

set_option maxHeartbeats 4000000 in
set_option maxRecDepth 100000 in
theorem restores_no (a ca : Option Addr) (n cap cn ccap : Nat) (l : List (ByteArray × Int × List ByteArray)) (c : Nat) (pl : Option Nat) (w : World) (hg : Known w) (hl : EntsIn w a n cap l) (hcm : cn ≤ 1000)
    (hc0 : c ≠ 0) (hcn : c = 0 ∨ Num c) (hcp : pl = none → c = 0 ∨ c = 1 ∨ c = 7)
    (hrs : ∀ W, Below w.heap.size w W → Calls Tryd.prog 22 #[.slice a n cap, .slice ca cn ccap] W fun e w' => (∃ v, e = .returned (.tuple #[.slice none 0 0, v]) ∧ ErrV W.heap.size w' v c pl) ∧ Below W.heap.size W w')
    (hrr : ∀ W, Below w.heap.size w W → Calls Tryd.prog 23 #[.slice a n cap, .slice ca cn ccap] W fun e w' => e = .returned (.tuple #[.slice none 0 0, .int .i64 (c : Int), .int .i64 (placeI pl)]) ∧ Below W.heap.size W w') :
    Calls Tryd.prog 5 #[.slice a n cap, .slice ca cn ccap] w fun e w' => e = .returned (.bool true) ∧ Below w.heap.size w w' := by
  have hsh : Hid (∀ W, Below w.heap.size w W → Calls Tryd.prog 10 #[.slice a n cap] W fun e w' => Shorts e n l ∧ w' = W) := fun W hb => short_any a n cap l W hl.1 (hl.2.1.below hb (Nat.le_refl _))
  have hto : Hid (∀ B v W, Below w.heap.size w W → ErrV B W v c pl → Calls Tryd.prog 15 #[v, .int .i64 (c : Int), .int .i64 (placeI pl)] W fun e w' => e = .returned (.bool true) ∧ Below W.heap.size W w') := fun B v W hb h => told_any v _ _ W (hg.below hb (Nat.le_refl _)) h hcn hcp
  have HRS : Hid (∀ W, Below w.heap.size w W → Calls Tryd.prog 22 #[.slice a n cap, .slice ca cn ccap] W fun e w' => (∃ v, e = .returned (.tuple #[.slice none 0 0, v]) ∧ ErrV W.heap.size w' v c pl) ∧ Below W.heap.size W w') := hrs
  have HRR : Hid (∀ W, Below w.heap.size w W → Calls Tryd.prog 23 #[.slice a n cap, .slice ca cn ccap] W fun e w' => e = .returned (.tuple #[.slice none 0 0, .int .i64 (c : Int), .int .i64 (placeI pl)]) ∧ Below W.heap.size W w') := hrr
  have hup := up_any w hg
  generalize placeI pl = P at HRR hto
  have hcne : ((c : Int) != 0) = true := by simp; exact hc0
  clear hg hl hrs hrr hc0 hcn hcp
  go_enter Tryd.func5, Tryd.ntmps5
  go_wp2_with fail
  refine hup.mono ?_
  rintro e w1 ⟨rfl, hb1⟩
  go_wp2_with fail
  refine (hsh.out _ hb1).mono ?_
  rintro e w2 ⟨⟨b, rfl, hb⟩, rfl⟩
  clear hb hup
  cases b with
  | false =>
    go_wp2
    go_ret
    exact ⟨rfl, hb1⟩
  | true =>
    go_wp2_with fail
    refine (HRS.out _ hb1).mono ?_
    rintro e w3 ⟨⟨v3, rfl, hv3⟩, hb3⟩
    have HB3 : Hid (Below w.heap.size w w3) := hb1.trans (hb3.mono hb1.size)
    have HV3 : Hid (ErrV _ w3 v3 c pl) := hv3
    clear hb1 hb3 hv3
    go_wp2_with fail
    refine (HRR.out _ HB3.out).mono ?_
    rintro e w4 ⟨rfl, hb4⟩
    have HB34 : Hid (Below w3.heap.size w3 w4) := hb4
    have HB4 : Hid (Below w.heap.size w w4) := HB3.out.trans (hb4.mono HB3.out.size)
    clear hb4
    go_wp2_with fail
    refine (hto.out _ v3 w4 HB4.out (HV3.out.below HB34.out)).mono ?_
    rintro e w5 ⟨rfl, hb5⟩
    go_wp2
    go_ret
    exact ⟨rfl, HB4.out.trans (hb5.mono HB4.out.size)⟩

set_option maxHeartbeats 4000000 in
set_option maxRecDepth 100000 in
theorem restores_yes (a ca : Option Addr) (n cap cn ccap : Nat) (l : List (ByteArray × Int × List ByteArray)) (X : List (ByteArray × ByteArray)) (w : World) (hg : Known w) (hl : EntsIn w a n cap l) (hcm : cn ≤ 1000) (hX : X.length ≤ 1000)
    (hrs : ∀ W, Below w.heap.size w W → Calls Tryd.prog 22 #[.slice a n cap, .slice ca cn ccap] W fun e w' => ∃ v, e = .returned (.tuple #[v, .nilIface]) ∧ FRow W.heap.size v X W w')
    (hrr : ∀ W, Below w.heap.size w W → Calls Tryd.prog 23 #[.slice a n cap, .slice ca cn ccap] W fun e w' => ∃ v, e = .returned (.tuple #[v, .int .i64 0, .int .i64 (-1)]) ∧ FRow W.heap.size v X W w') :
    Calls Tryd.prog 5 #[.slice a n cap, .slice ca cn ccap] w fun e w' => e = .returned (.bool true) ∧ Below w.heap.size w w' := by
  have hsh : Hid (∀ W, Below w.heap.size w W → Calls Tryd.prog 10 #[.slice a n cap] W fun e w' => Shorts e n l ∧ w' = W) := fun W hb => short_any a n cap l W hl.1 (hl.2.1.below hb (Nat.le_refl _))
  have HRS : Hid (∀ W, Below w.heap.size w W → Calls Tryd.prog 22 #[.slice a n cap, .slice ca cn ccap] W fun e w' => ∃ v, e = .returned (.tuple #[v, .nilIface]) ∧ FRow W.heap.size v X W w') := hrs
  have HRR : Hid (∀ W, Below w.heap.size w W → Calls Tryd.prog 23 #[.slice a n cap, .slice ca cn ccap] W fun e w' => ∃ v, e = .returned (.tuple #[v, .int .i64 0, .int .i64 (-1)]) ∧ FRow W.heap.size v X W w') := hrr
  obtain ⟨xn, hxn⟩ : ∃ xn, xn = X.length := ⟨_, rfl⟩
  have HXN : Hid (xn = X.length) := hxn
  rw [← hxn] at hX
  have HFF : Hid (∀ (a a' : Option Addr) (cap cap' : Nat) W, LiesF W a X → LiesF W a' X → Calls Tryd.prog 24 #[.slice a xn cap, .slice a' xn cap'] W fun e w' => e = .returned (.bool true) ∧ Below W.heap.size W w') := fun a a' cap cap' W h1 h2 => files_yes a a' xn cap cap' X W hxn h1 h2 hX
  have hup := up_any w hg
  have heq := eqNil0
  clear hg hl hrs hrr hxn
  go_enter Tryd.func5, Tryd.ntmps5
  go_wp2_with fail
  refine hup.mono ?_
  rintro e w1 ⟨rfl, hb1⟩
  go_wp2_with fail
  refine (hsh.out _ hb1).mono ?_
  rintro e w2 ⟨⟨b, rfl, hb⟩, rfl⟩
  clear hb hup
  cases b with
  | false =>
    go_wp2
    go_ret
    exact ⟨rfl, hb1⟩
  | true =>
    go_wp2_with fail
    refine (HRS.out _ hb1).mono ?_
    rintro e w3 ⟨v3, rfl, hf3⟩
    obtain ⟨a3, cap3, rfl, _, hl3⟩ := hf3.liesN HXN.out
    have HB3 : Hid (Below w.heap.size w w3) := hb1.trans (hf3.2.1.mono hb1.size)
    have HL3 : Hid (LiesF w3 a3 X) := hl3
    clear hb1 hf3 hl3
    go_wp2_with fail
    refine (HRR.out _ HB3.out).mono ?_
    rintro e w4 ⟨v4, rfl, hf4⟩
    obtain ⟨a4, cap4, rfl, _, hl4⟩ := hf4.liesN HXN.out
    have HB4 : Hid (Below w.heap.size w w4) := HB3.out.trans (hf4.2.1.mono HB3.out.size)
    have HL4 : Hid (LiesF w4 a4 X) := hl4
    have HL34 : Hid (LiesF w4 a3 X) := HL3.out.below hf4.2.1 (Nat.le_refl _)
    clear hf4 hl4
    go_wp2_with fail
    refine (HFF.out a3 a4 cap3 cap4 w4 HL34.out HL4.out).mono ?_
    rintro e w5 ⟨rfl, hb5⟩
    go_wp2
    go_ret
    exact ⟨rfl, HB4.out.trans (hb5.mono HB4.out.size)⟩

theorem least_of {P : Nat → Prop} (h : ∃ j, P j) : ∃ j, P j ∧ ∀ k, k < j → ¬ P k := by
  obtain ⟨j, hj⟩ := h
  induction j using Nat.strongRecOn with
  | _ j ih =>
    by_cases hq : ∃ k, k < j ∧ P k
    · obtain ⟨k, hk, hp⟩ := hq
      exact ih k hk hp
    · exact ⟨j, hj, fun k hk hp => hq ⟨k, hk, hp⟩⟩

theorem treeRestores_walk (a : Option Addr) (l : List (ByteArray × Int × List ByteArray)) (n cap : Nat) (ca : Option Addr) (C : List ByteArray) (cn ccap : Nat) (w : World) (hg : Known w) (hl : EntsIn w a n cap l) (hC : cn = C.length ∧ Lies w ca C ∧ cn ≤ ccap ∧ ccap ≤ maxLen ∧ (ca = none → ccap = 0) ∧ ∀ s ∈ C, s.size ≤ maxLen) :
    Calls Tryd.prog 5 #[.slice a n cap, .slice ca cn ccap] w fun e w' => e = .returned (.bool true) ∧ Below w.heap.size w w' := by
  obtain ⟨hcn, hcl, hcc, hcm, _, hcs⟩ := hC
  have hcs' : ∀ j, j < cn → (C.getD j ByteArray.empty).size ≤ maxLen := fun j hj => hcs _ (mem_getD.2 ⟨j, by omega, rfl⟩)
  by_cases h : n ≤ 100 ∧ (∀ j, j < n → shortE (entOf l j)) ∧ cn ≤ 1000
  · have hok : EntsOk n l := ⟨hl.1, h.1, h.2.1⟩
    by_cases ht : isTree l
    · by_cases hall : ∀ j, j < n → allIn C (entOf l j)
      · refine restores_yes a ca n cap cn ccap l (l.map restF) w hg hl h.2.2 (by rw [List.length_map, ← hl.1]; omega) (fun W hb => ?_) (fun W hb => ?_)
        · refine restore_core _ a ca n cap cn ccap l C W hok (hl.2.1.below hb (Nat.le_refl _)) hl.2.2 ht hcn (hcl.below hb (Nat.le_refl _)) (by omega) hcs' ?_ ?_
          · intro j hj _ hq
            exact absurd (hall j hj) hq
          · intro _ v w' hf
            exact ⟨v, rfl, hf⟩
        · refine refRestore_core _ a ca n cap cn ccap l C W hok (hl.2.1.below hb (Nat.le_refl _)) ht hcn (hcl.below hb (Nat.le_refl _)) (by omega) ?_ ?_
          · intro j hj _ hq
            exact absurd (hall j hj) hq
          · intro _ v w' hf
            exact ⟨v, rfl, hf⟩
      · obtain ⟨j, hj, h0, h1⟩ : ∃ j, j < n ∧ (∀ k, k < j → allIn C (entOf l k)) ∧ ¬ allIn C (entOf l j) := by
          have hex : ∃ j, j < n ∧ ¬ allIn C (entOf l j) := Classical.byContradiction fun hq => hall fun j hj => Classical.byContradiction fun hqq => hq ⟨j, hj, hqq⟩
          obtain ⟨j, hj, hm⟩ : ∃ j, (j < n ∧ ¬ allIn C (entOf l j)) ∧ ∀ k, k < j → ¬ (k < n ∧ ¬ allIn C (entOf l k)) := least_of hex
          exact ⟨j, hj.1, fun k hk => Classical.byContradiction fun hq => hm k hk ⟨by have := hj.1; omega, hq⟩, hj.2⟩
        have hone : ∀ j', j' < n → (∀ k, k < j' → allIn C (entOf l k)) → ¬ allIn C (entOf l j') → j' = j := fun j' _ h0' h1' => by
          rcases Nat.lt_trichotomy j' j with hq | hq | hq
          · exact absurd (h0 j' hq) h1'
          · exact hq
          · exact absurd (h0' j hq) h1
        refine restores_no a ca n cap cn ccap l 3 (some j) w hg hl h.2.2 (by omega) (.inr (by simp [Num])) (fun hq => by cases hq) (fun W hb => ?_) (fun W hb => ?_)
        · refine restore_core _ a ca n cap cn ccap l C W hok (hl.2.1.below hb (Nat.le_refl _)) hl.2.2 ht hcn (hcl.below hb (Nat.le_refl _)) (by omega) hcs' ?_ ?_
          · intro j' hj' h0' h1' v w' hv hbb
            have := hone j' hj' h0' h1'
            subst this
            exact ⟨⟨v, rfl, hv⟩, hbb⟩
          · intro hq
            exact absurd (hq j hj) h1
        · refine refRestore_core _ a ca n cap cn ccap l C W hok (hl.2.1.below hb (Nat.le_refl _)) ht hcn (hcl.below hb (Nat.le_refl _)) (by omega) ?_ ?_
          · intro j' hj' h0' h1' w' hbb
            have := hone j' hj' h0' h1'
            subst this
            exact ⟨rfl, hbb⟩
          · intro hq
            exact absurd (hq j hj) h1
    · refine restores_no a ca n cap cn ccap l (checkAns l).1 (checkAns l).2 w hg hl h.2.2 (fun hq => ht (checkAns_tree.1 hq)) (checkAns_num l).1 (checkAns_num l).2 (fun W hb => restore_bad a ca n cap cn ccap l W hok (hl.2.1.below hb (Nat.le_refl _)) hl.2.2 ht) (fun W hb => ?_)
      exact refRestore_bad _ a ca n cap cn ccap l W hok (hl.2.1.below hb (Nat.le_refl _)) ht fun w' hbb => ⟨rfl, hbb⟩
  · exact restores_far a ca n cap cn ccap l w hg hl (by omega) h
end Go.Proofs.YtcjkficpiedpfaaDoor.Tree
