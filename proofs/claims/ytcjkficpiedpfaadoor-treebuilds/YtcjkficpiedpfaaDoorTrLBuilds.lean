/-
  TreeBuilds, walked: whatever files and cut, the call returns true, and makes memory of its own alone.
-/
import Derived.Test.YtcjkficpiedpfaaDoorTrRef4
import Derived.Test.YtcjkficpiedpfaaDoorTrGood
import Derived.Test.YtcjkficpiedpfaaDoorTrUp
namespace Go.Proofs.YtcjkficpiedpfaaDoor.Tree
open Go.RowKit Route Chunk

theorem least_of {P : Nat → Prop} (h : ∃ j, P j) : ∃ j, P j ∧ ∀ k, k < j → ¬ P k := by
  obtain ⟨j, hj⟩ := h
  induction j using Nat.strongRecOn with
  | _ j ih =>
    by_cases hq : ∃ k, k < j ∧ P k
    · obtain ⟨k, hk, hp⟩ := hq
      exact ih k hk hp
    · exact ⟨j, hj, fun k hk hp => hq ⟨k, hk, hp⟩⟩

set_option maxHeartbeats 4000000 in
set_option maxRecDepth 100000 in
theorem builds_no (a : Option Addr) (n cap : Nat) (l : List (ByteArray × ByteArray)) (mn mx mk : Int) (c : Nat) (pl : Option Nat) (w : World) (hg : Known w) (hn : n = l.length) (hl : LiesF w a l)
    (hc0 : c ≠ 0) (hcn : Num c) (hcp : pl = none → c = 1 ∨ c = 7)
    (hrs : ∀ W, Below w.heap.size w W → FilesOk n l → Calls Tryd.prog 19 #[.slice a n cap, cutV mn mx mk] W fun e w' => (∃ v, e = .returned (.tuple #[.slice none 0 0, v]) ∧ ErrV W.heap.size w' v c pl) ∧ Below W.heap.size W w')
    (hrr : ∀ W, Below w.heap.size w W → FilesOk n l → Calls Tryd.prog 20 #[.slice a n cap, cutV mn mx mk] W fun e w' => e = .returned (.tuple #[.slice none 0 0, .int .i64 (c : Int), .int .i64 (placeI pl)]) ∧ Below W.heap.size W w') :
    Calls Tryd.prog 4 #[.slice a n cap, cutV mn mx mk] w fun e w' => e = .returned (.bool true) ∧ Below w.heap.size w w' := by
  have HUP : Hid (Calls Tryd.prog 9 #[] (w.alloc (.cells #[.int .i64 mn, .int .i64 mx, .int .i64 mk] 43)) fun e w' => e = .returned (.bool true) ∧ Below (w.alloc (.cells #[.int .i64 mn, .int .i64 mx, .int .i64 mk] 43)).heap.size (w.alloc (.cells #[.int .i64 mn, .int .i64 mx, .int .i64 mk] 43)) w') := up_any _ (hg.below ((Below.refl _ _).alloc (Nat.le_refl _) _) (Nat.le_refl _))
  have HFW : Hid (∀ W, Below w.heap.size w W → Calls Tryd.prog 18 #[.slice a n cap] W fun e w' => Fews e n l ∧ w' = W) := fun W hb => few_any a n cap l W hn (hl.below hb (Nat.le_refl _))
  have hto : Hid (∀ B v W, Below w.heap.size w W → ErrV B W v c pl → Calls Tryd.prog 15 #[v, .int .i64 (c : Int), .int .i64 (placeI pl)] W fun e w' => e = .returned (.bool true) ∧ Below W.heap.size W w') := fun B v W hb h => told_any v _ _ W (hg.below hb (Nat.le_refl _)) h (.inr hcn) (fun h => .inr (hcp h))
  have HRS : Hid (∀ W, Below w.heap.size w W → FilesOk n l → Calls Tryd.prog 19 #[.slice a n cap, cutV mn mx mk] W fun e w' => (∃ v, e = .returned (.tuple #[.slice none 0 0, v]) ∧ ErrV W.heap.size w' v c pl) ∧ Below W.heap.size W w') := hrs
  have HRR : Hid (∀ W, Below w.heap.size w W → FilesOk n l → Calls Tryd.prog 20 #[.slice a n cap, cutV mn mx mk] W fun e w' => e = .returned (.tuple #[.slice none 0 0, .int .i64 (c : Int), .int .i64 (placeI pl)]) ∧ Below W.heap.size W w') := hrr
  have HN : Hid (n = l.length) := hn
  generalize placeI pl = P at HRR hto
  have hcne : ((c : Int) != 0) = true := by simp; exact hc0
  unfold cutV at HRS HRR ⊢
  clear hg hl hrs hrr hc0 hcn hcp hn
  go_enter Tryd.func4, Tryd.ntmps4
  go_wp2_with fail
  refine HUP.out.mono ?_
  rintro e w1 ⟨rfl, hb1⟩
  obtain ⟨k0, k1, k2, hbw, hlt⟩ := cut_box hb1
  go_wp2_with fail
  refine (HFW.out _ hbw).mono ?_
  rintro e w2 ⟨⟨b, rfl, hb⟩, rfl⟩
  have HB1 : Hid (Below (w.alloc (.cells #[.int .i64 mn, .int .i64 mx, .int .i64 mk] 43)).heap.size (w.alloc (.cells #[.int .i64 mn, .int .i64 mx, .int .i64 mk] 43)) w2) := hb1
  clear hb1
  cases b with
  | false =>
    go_wp2
    go_ret
    exact ⟨rfl, hbw⟩
  | true =>
    have HOK : Hid (FilesOk n l) := ⟨HN.out, by have := (hb rfl).1; omega, (hb rfl).2⟩
    have HBW : Hid (Below w.heap.size w w2) := hbw
    clear hb hbw
    go_wp2_with fail
    refine (HRS.out _ HBW.out HOK.out).mono ?_
    rintro e w3 ⟨⟨v3, rfl, hv3⟩, hb3⟩
    have HB3 : Hid (Below w.heap.size w w3) := HBW.out.trans (hb3.mono HBW.out.size)
    have HV3 : Hid (ErrV _ w3 v3 c pl) := hv3
    obtain ⟨q0, q1, q2, _, _⟩ := cut_box (HB1.out.trans (hb3.mono HB1.out.size))
    clear hb3 hv3 k0 k1 k2
    go_wp2_with fail
    refine (HRR.out _ HB3.out HOK.out).mono ?_
    rintro e w4 ⟨rfl, hb4⟩
    have HB34 : Hid (Below w3.heap.size w3 w4) := hb4
    have HB4 : Hid (Below w.heap.size w w4) := HB3.out.trans (hb4.mono HB3.out.size)
    clear hb4
    go_wp2_with fail
    refine (hto.out _ v3 w4 HB4.out (HV3.out.below HB34.out)).mono ?_
    rintro e w5 ⟨rfl, hb5⟩
    go_wp2
    go_ret
    exact ⟨rfl, HB4.out.trans (hb5.mono HB4.out.size)⟩

set_option maxHeartbeats 4000000 in
set_option maxRecDepth 100000 in
theorem builds_yes (a : Option Addr) (n cap : Nat) (l : List (ByteArray × ByteArray)) (mn mx mk : Int) (m M K : Nat) (w : World) (hg : Known w) (hn : n = l.length) (hl : LiesF w a l)
    (hrs : ∀ W, Below w.heap.size w W → FilesOk n l → Calls Tryd.prog 19 #[.slice a n cap, cutV mn mx mk] W fun e w' => ∃ v Y, e = .returned (.tuple #[v, .nilIface]) ∧ Ents W.heap.size v Y W w' ∧ Sorted (Y.map (·.1)) ∧ (Y.map (·.1)).Perm (l.map (entF m M K)))
    (hrr : ∀ W, Below w.heap.size w W → FilesOk n l → Calls Tryd.prog 20 #[.slice a n cap, cutV mn mx mk] W fun e w' => ∃ v Y, e = .returned (.tuple #[v, .int .i64 0, .int .i64 (-1)]) ∧ Ents W.heap.size v Y W w' ∧ Sorted (Y.map (·.1)) ∧ (Y.map (·.1)).Perm (l.map (entF m M K)))
    (hsh : ∀ L : List (ByteArray × Int × List ByteArray), L.Perm (l.map (entF m M K)) → FilesOk n l → EntsOk n L) :
    Calls Tryd.prog 4 #[.slice a n cap, cutV mn mx mk] w fun e w' => e = .returned (.bool true) ∧ Below w.heap.size w w' := by
  have HUP : Hid (Calls Tryd.prog 9 #[] (w.alloc (.cells #[.int .i64 mn, .int .i64 mx, .int .i64 mk] 43)) fun e w' => e = .returned (.bool true) ∧ Below (w.alloc (.cells #[.int .i64 mn, .int .i64 mx, .int .i64 mk] 43)).heap.size (w.alloc (.cells #[.int .i64 mn, .int .i64 mx, .int .i64 mk] 43)) w') := up_any _ (hg.below ((Below.refl _ _).alloc (Nat.le_refl _) _) (Nat.le_refl _))
  have HFW : Hid (∀ W, Below w.heap.size w W → Calls Tryd.prog 18 #[.slice a n cap] W fun e w' => Fews e n l ∧ w' = W) := fun W hb => few_any a n cap l W hn (hl.below hb (Nat.le_refl _))
  have HRS : Hid (∀ W, Below w.heap.size w W → FilesOk n l → Calls Tryd.prog 19 #[.slice a n cap, cutV mn mx mk] W fun e w' => ∃ v Y, e = .returned (.tuple #[v, .nilIface]) ∧ Ents W.heap.size v Y W w' ∧ Sorted (Y.map (·.1)) ∧ (Y.map (·.1)).Perm (l.map (entF m M K))) := hrs
  have HRR : Hid (∀ W, Below w.heap.size w W → FilesOk n l → Calls Tryd.prog 20 #[.slice a n cap, cutV mn mx mk] W fun e w' => ∃ v Y, e = .returned (.tuple #[v, .int .i64 0, .int .i64 (-1)]) ∧ Ents W.heap.size v Y W w' ∧ Sorted (Y.map (·.1)) ∧ (Y.map (·.1)).Perm (l.map (entF m M K))) := hrr
  have HSA : Hid (∀ (L : List (ByteArray × Int × List ByteArray)) (a' a'' : Option Addr) cap' cap'' W, L.Perm (l.map (entF m M K)) → LiesE W a' L → LiesE W a'' L → FilesOk n l → Calls Tryd.prog 21 #[.slice a' n cap', .slice a'' n cap''] W fun e w' => e = .returned (.bool true) ∧ Below W.heap.size W w') := fun L a' a'' cap' cap'' W hp h1 h2 hok => sameAll_yes a' a'' n cap' cap'' L W (hsh L hp hok).1 h1 h2 (by have := hok.2.1; omega) (fun j hj => Nat.le_trans ((hsh L hp hok).2.2 j hj).2.1 (by omega))
  have HN : Hid (n = l.length) := hn
  have heq := eqNil0
  unfold cutV at HRS HRR ⊢
  clear hg hl hrs hrr hn hsh
  go_enter Tryd.func4, Tryd.ntmps4
  go_wp2_with fail
  refine HUP.out.mono ?_
  rintro e w1 ⟨rfl, hb1⟩
  obtain ⟨k0, k1, k2, hbw, hlt⟩ := cut_box hb1
  go_wp2_with fail
  refine (HFW.out _ hbw).mono ?_
  rintro e w2 ⟨⟨b, rfl, hb⟩, rfl⟩
  have HB1 : Hid (Below (w.alloc (.cells #[.int .i64 mn, .int .i64 mx, .int .i64 mk] 43)).heap.size (w.alloc (.cells #[.int .i64 mn, .int .i64 mx, .int .i64 mk] 43)) w2) := hb1
  clear hb1
  cases b with
  | false =>
    go_wp2
    go_ret
    exact ⟨rfl, hbw⟩
  | true =>
    have HOK : Hid (FilesOk n l) := ⟨HN.out, by have := (hb rfl).1; omega, (hb rfl).2⟩
    have HBW : Hid (Below w.heap.size w w2) := hbw
    clear hb hbw
    go_wp2_with fail
    refine (HRS.out _ HBW.out HOK.out).mono ?_
    rintro e w3 ⟨v3, Y3, rfl, he3, hs3, hp3⟩
    have hn3 : n = Y3.length := by have := hp3.length_eq; simp only [List.length_map] at this; rw [this]; exact HN.out
    obtain ⟨a3, cap3, rfl, _, hl3⟩ := he3.liesN hn3
    have hb3 : Below w2.heap.size w2 w3 := he3.2.1
    have HB3 : Hid (Below w.heap.size w w3) := HBW.out.trans (hb3.mono HBW.out.size)
    obtain ⟨q0, q1, q2, _, _⟩ := cut_box (HB1.out.trans (hb3.mono HB1.out.size))
    have H3 : Hid (LiesE w3 a3 (Y3.map (·.1)) ∧ Sorted (Y3.map (·.1)) ∧ (Y3.map (·.1)).Perm (l.map (entF m M K))) := ⟨hl3, hs3, hp3⟩
    clear hb3 he3 hs3 hp3 hl3 hn3 k0 k1 k2
    go_wp2_with fail
    refine (HRR.out _ HB3.out HOK.out).mono ?_
    rintro e w4 ⟨v4, Y4, rfl, he4, hs4, hp4⟩
    have hn4 : n = Y4.length := by have := hp4.length_eq; simp only [List.length_map] at this; rw [this]; exact HN.out
    obtain ⟨a4, cap4, rfl, _, hl4⟩ := he4.liesN hn4
    have hb4 : Below w3.heap.size w3 w4 := he4.2.1
    have HB4 : Hid (Below w.heap.size w w4) := HB3.out.trans (hb4.mono HB3.out.size)
    have hone : Y4.map (·.1) = Y3.map (·.1) := sorted_unique (hp4.trans H3.out.2.2.symm) hs4 H3.out.2.1
    rw [hone] at hl4
    have H4 : Hid (LiesE w4 a3 (Y3.map (·.1)) ∧ LiesE w4 a4 (Y3.map (·.1))) := ⟨H3.out.1.below hb4 (Nat.le_refl _), hl4⟩
    clear hb4 he4 hs4 hp4 hl4 hn4 hone q0 q1 q2
    go_wp2_with fail
    refine (HSA.out _ a3 a4 cap3 cap4 w4 H3.out.2.2 H4.out.1 H4.out.2 HOK.out).mono ?_
    rintro e w5 ⟨rfl, hb5⟩
    go_wp2
    go_ret
    exact ⟨rfl, HB4.out.trans (hb5.mono HB4.out.size)⟩

theorem codeF_num (l : List (ByteArray × ByteArray)) (f : ByteArray × ByteArray) (h : codeF l f ≠ 0) : Num (codeF l f) := by
  unfold codeF at *
  unfold Num
  split
  · exact .inr (.inl rfl)
  split
  · exact .inr (.inr (.inr (.inr rfl)))
  split
  · exact .inr (.inr (.inr (.inl rfl)))
  · simp_all

theorem treeBuilds_walk (a : Option Addr) (l : List (ByteArray × ByteArray)) (n cap : Nat) (mn mx mk : Int) (w : World) (hg : Known w) (hl : n = l.length ∧ LiesF w a l ∧ n ≤ cap ∧ (a = none → cap = 0)) :
    Calls Tryd.prog 4 #[.slice a n cap, cutV mn mx mk] w fun e w' => e = .returned (.bool true) ∧ Below w.heap.size w w' := by
  obtain ⟨hn, hlf, hc, _⟩ := hl
  cases hm : mayB mn mx mk with
  | false =>
    refine builds_no a n cap l mn mx mk 1 none w hg hn hlf (by omega) (by simp [Num]) (fun _ => .inl rfl) (fun W _ _ => ?_) (fun W _ _ => ?_)
    · refine (build_may a n cap mn mx mk W hm).mono ?_
      rintro e w' ⟨rfl, hb⟩
      exact ⟨⟨_, rfl, .inr (.inl ⟨by omega, rfl, rfl⟩)⟩, hb⟩
    · exact refBuild_may a n cap mn mx mk W hm
  | true =>
    by_cases hn32 : 32 < n
    · refine builds_no a n cap l mn mx mk 7 none w hg hn hlf (by omega) (by simp [Num]) (fun _ => .inr rfl) (fun W _ _ => ?_) (fun W _ hok => ?_)
      · refine (build_large a n cap mn mx mk W hm hn32).mono ?_
        rintro e w' ⟨rfl, hb⟩
        exact ⟨⟨_, rfl, .inr (.inl ⟨by omega, rfl, rfl⟩)⟩, hb⟩
      · exact refBuild_large a n cap mn mx mk W hm hn32 (by have := hok.2.1; omega)
    · obtain ⟨m, M, K, rfl, rfl, rfl, h1, h2, h3, h4⟩ := mayB_nat hm
      by_cases hall : ∀ j, j < n → codeF (l.take j) (fileOf l j) = 0
      · refine builds_yes a n cap l m M K m M K w hg hn hlf (fun W hb hok => ?_) (fun W hb hok => ?_) (fun L hp hok => built_short h1 h2 h3 ((good_iff hn).1 hall) hok hp (by omega))
        · refine build_core _ a n cap l m M K W h1 h2 h3 (by omega) (by omega) hok (hlf.below hb (Nat.le_refl _)) hc ?_ ?_
          · intro j hj _ hq
            exact absurd (hall j hj) hq
          · intro _ v Y w' hen hs hp
            exact ⟨v, Y, rfl, hen, List.pairwise_map.2 hs, hp⟩
        · refine refBuild_core _ a n cap l m M K W h1 h2 h3 (by omega) (by omega) hok (hlf.below hb (Nat.le_refl _)) ?_ ?_
          · intro j hj _ c hcd hq
            exact absurd (hcd.symm.trans (hall j hj)) hq
          · intro _ v Y w' hen hs hp
            exact ⟨v, Y, rfl, hen, List.pairwise_map.2 hs, hp⟩
      · obtain ⟨j, hj, h0, hj1⟩ : ∃ j, j < n ∧ (∀ k, k < j → codeF (l.take k) (fileOf l k) = 0) ∧ codeF (l.take j) (fileOf l j) ≠ 0 := by
          have hex : ∃ j, j < n ∧ codeF (l.take j) (fileOf l j) ≠ 0 := Classical.byContradiction fun hq => hall fun j hj => Classical.byContradiction fun hqq => hq ⟨j, hj, hqq⟩
          obtain ⟨j, hj, hmm⟩ : ∃ j, (j < n ∧ codeF (l.take j) (fileOf l j) ≠ 0) ∧ ∀ k, k < j → ¬ (k < n ∧ codeF (l.take k) (fileOf l k) ≠ 0) := least_of hex
          exact ⟨j, hj.1, fun k hk => Classical.byContradiction fun hq => hmm k hk ⟨by have := hj.1; omega, hq⟩, hj.2⟩
        have hone : ∀ j', (∀ k, k < j' → codeF (l.take k) (fileOf l k) = 0) → codeF (l.take j') (fileOf l j') ≠ 0 → j' = j := fun j' h0' h1' => by
          rcases Nat.lt_trichotomy j' j with hq | hq | hq
          · exact absurd (h0 j' hq) h1'
          · exact hq
          · exact absurd (h0' j hq) hj1
        refine builds_no a n cap l m M K (codeF (l.take j) (fileOf l j)) (some j) w hg hn hlf hj1 (codeF_num _ _ hj1) (fun hq => by cases hq) (fun W hb hok => ?_) (fun W hb hok => ?_)
        · refine build_core _ a n cap l m M K W h1 h2 h3 (by omega) (by omega) hok (hlf.below hb (Nat.le_refl _)) hc ?_ ?_
          · intro j' hj' h0' h1' v w' hv hbb
            have := hone j' h0' h1'
            subst this
            exact ⟨⟨v, rfl, hv⟩, hbb⟩
          · intro hq
            exact absurd (hq j hj) hj1
        · refine refBuild_core _ a n cap l m M K W h1 h2 h3 (by omega) (by omega) hok (hlf.below hb (Nat.le_refl _)) ?_ ?_
          · intro j' hj' h0' c hcd hcn w' hbb
            have := hone j' h0' (by rw [hcd]; exact hcn)
            subst this
            rw [← hcd]
            exact ⟨rfl, hbb⟩
          · intro hq
            exact absurd (hq j hj) hj1
end Go.Proofs.YtcjkficpiedpfaaDoor.Tree
