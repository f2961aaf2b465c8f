/-
  The files of a tree, from chunks, or the first entry that lacks one: the program's 'Restore'.
-/
import Derived.Test.YtcjkficpiedpfabDoorTrRest
namespace Go.Proofs.YtcjkficpiedpfabDoor.Tree
open Go.RowKit Route Chunk

set_option maxHeartbeats 4000000 in
set_option maxRecDepth 100000 in
theorem restore_core (T : Ending → World → Prop) (a ca : Option Addr) (n cap cn ccap : Nat) (l : List (ByteArray × Int × List ByteArray)) (C : List ByteArray) (w : World) (hl : EntsOk n l) (hl0 : LiesE w a l) (hc : n ≤ cap) (ht : isTree l)
    (hcn : cn = C.length) (hcl : Lies w ca C) (hcm : cn ≤ 1000000) (hcs : ∀ j, j < cn → (C.getD j ByteArray.empty).size ≤ maxLen)
    (hmiss : ∀ j, j < n → (∀ k, k < j → allIn C (entOf l k)) → ¬ allIn C (entOf l j) → ∀ v w', ErrV w.heap.size w' v 3 (some j) → Below w.heap.size w w' → T (.returned (.tuple #[.slice none 0 0, v])) w')
    (hok : (∀ j, j < n → allIn C (entOf l j)) → ∀ v w', FRow w.heap.size v (l.map restF) w w' → T (.returned (.tuple #[v, .nilIface])) w') :
    Calls Tryd.prog 9 #[.slice a n cap, .slice ca cn ccap] w T := by
  have hck := check_tree a n cap l w hl hl0 hc ht
  have HL : Hid (LiesE w a l) := hl0
  have HN : Hid (n = l.length) := hl.1
  have hnm : n ≤ 100 := hl.2.1
  have HST : Hid (∀ W, Below w.heap.size w W → Calls Tryd.prog 19 #[.slice ca cn ccap] W fun e w' => e = .returned (.map (some W.heap.size)) ∧ SetIn w' W.heap.size cn C ∧ Below W.heap.size W w' ∧ W.heap.size < w'.heap.size) := fun W hb => setOf_any ca cn ccap C W hcn (hcl.below hb (Nat.le_refl _)) hcm hcs
  have HSH : Hid (∀ j, j < n → shortE (entOf l j)) := hl.2.2
  have HM : Hid (∀ j, j < n → (∀ k, k < j → allIn C (entOf l k)) → ¬ allIn C (entOf l j) → ∀ v w', ErrV w.heap.size w' v 3 (some j) → Below w.heap.size w w' → T (.returned (.tuple #[.slice none 0 0, v])) w') := hmiss
  have HO : Hid ((∀ j, j < n → allIn C (entOf l j)) → ∀ v w', FRow w.heap.size v (l.map restF) w w' → T (.returned (.tuple #[v, .nilIface])) w') := hok
  clear hl hl0 hc ht hcn hcl hcs hmiss hok
  go_enter Tryd.func9, Tryd.ntmps9
  go_wp2_with fail
  refine hck.mono ?_
  rintro e w1 ⟨rfl, hb1⟩
  clear hck
  go_wp2_with fail
  refine (HST.out _ hb1).mono ?_
  rintro e w2 ⟨rfl, hset, hb2, hlt2⟩
  have HSE : Hid (SetIn w2 w1.heap.size cn C) := hset
  have HB2 : Hid (Below w.heap.size w w2) := hb1.trans (hb2.mono hb1.size)
  clear hset hb1 hb2
  go_wp2
  go_loopw [8, 9, 10, 20] (fun t8 _ _ t20 wr => ∃ (i : Nat) (F : List (ByteArray × ByteArray)), t20 = .int .i64 (i : Int) ∧ i ≤ n ∧ FRow w2.heap.size t8 F w2 wr ∧ Hid (F = (l.take i).map restF) ∧ Hid (∀ j, j < i → allIn C (entOf l j))) (fun _ _ _ t20 _ => n - (intOf t20).toNat)
  case atStart => exact ⟨0, [], rfl, Nat.zero_le _, FRow.nil w2, rfl, fun j hj => by omega⟩
  case round =>
    obtain ⟨i, F, rfl, hi, hfr, HF, HI⟩ := hrel
    have HBW : Hid (Below w.heap.size w wr) := HB2.out.trans (hfr.2.1.mono HB2.out.size)
    by_cases hin : i < n
    · obtain ⟨x, hx, g0, g1, ka, kc, g2, hk⟩ := (HL.out.below HBW.out (Nat.le_refl _)).at (j := i) (by rw [← HN.out]; exact hin)
      subst hx
      obtain ⟨s1, s2, s3⟩ := HSH.out i hin
      have HX : Hid (¬ allIn C (entOf l i) → ∀ v w', ErrV w.heap.size w' v 3 (some i) → Below w.heap.size w w' → T (.returned (.tuple #[.slice none 0 0, v])) w') := HM.out i hin HI.out
      have HI2 : Hid (allIn C (entOf l i) → ∀ j, j < i + 1 → allIn C (entOf l j)) := fun hq j hj => by
        by_cases hji : j = i
        · subst hji; exact hq
        · exact HI.out j (by omega)
      have HFN : Hid ((l.take (i + 1)).map restF = (l.take i).map restF ++ [restF (entOf l i)]) := by
        show _ = _
        rw [take_succ_ent (by rw [← HN.out]; exact hin), List.map_append]; rfl
      generalize entOf l i = en at g0 g1 g2 hk s1 s2 s3 HX HI2 HFN
      obtain ⟨p, sz, ks⟩ := en
      have hix := index_ent x n cap i hin
      simp only at g0 g1 g2 hk s1 s2 s3
      obtain ⟨kn, hkn⟩ : ∃ kn, kn = ks.length := ⟨_, rfl⟩
      rw [← hkn] at g2 s2 s3
      generalize x.add (i * 3) = q at g0 g1 g2 hix
      have HKL : Hid (∀ W, Below wr.heap.size wr W → Lies W ka ks) := fun W h => hk.1.below h (Nat.le_refl _)
      have HSW : Hid (∀ W, Below wr.heap.size wr W → SetIn W w1.heap.size cn C) := fun W h => HSE.out.below (hfr.2.1.trans (h.mono hfr.2.2))
      have HFR : Hid (FRow w2.heap.size u8 F w2 wr) := hfr
      have hba : Below wr.heap.size wr (wr.alloc (.cells #[.string p, .int .i64 sz, .slice ka kn kc] 37)) := (Below.refl _ _).alloc (Nat.le_refl _) _
      by_cases hall : ∀ j, j < kn → ks.getD j ByteArray.empty ∈ C
      · have hha := hasAll_yes w1.heap.size cn C ka kn kc ks (wr.alloc (.cells #[.string p, .int .i64 sz, .slice ka kn kc] 37)) (HSW.out _ hba) hkn (HKL.out _ hba) (by omega) (fun j hj => by have := s3 j hj; unfold maxLen; omega) hall
        have HI3 : Hid (∀ j, j < i + 1 → allIn C (entOf l j)) := HI2.out (fun k hk => hall k (by rw [hkn]; exact hk))
        have hcat : (cat ks).size ≤ 140737488355328 := by
          have h1 := cat_le ks 2000 (fun k hk => s3 k (by rw [hkn]; exact hk))
          have h2 := Nat.mul_le_mul_right 2000 (show ks.length ≤ 1200 by rw [← hkn]; exact s2)
          omega
        have HJ0 : Hid (∀ W, Lies W ka ks → Calls Tryd.prog 22 #[.slice ka kn kc] W fun e w' => e = .returned (.string (cat ks)) ∧ Below W.heap.size W w') := fun W h => Chunk.join_any ka ks kn kc W hkn h (by omega) hcat
        have HC0 : Hid (∀ W, Calls Tryd.prog 21 #[.string p] W fun e w' => e = .returned (.string p) ∧ Below W.heap.size W w') := fun W => Chunk.clone_any p W (by omega)
        have HFC : Hid ((l.take (i + 1)).map restF = F ++ [(p, cat ks)]) := by
          show _ = _
          rw [HFN.out, HF.out]; rfl
        have HFL : Hid (F.length ≤ 1000) := by
          show _ ≤ _
          rw [HF.out, List.length_map, List.length_take]; omega
        generalize cat ks = J at HJ0 HFC
        clear HX HI2 HFN HI hall hcat hk hfr s1 s2 s3 hkn HF
        go_wp2_with fail
        refine hha.mono ?_
        rintro e w3 ⟨rfl, hb3⟩
        have hw3 : Below wr.heap.size wr w3 := hba.trans (hb3.mono (by simp))
        obtain ⟨d0, d1, d2, _, hlt3⟩ := ent_box hb3
        have hstl : Still w2.heap.size wr.heap.size p sz (.slice ka kn kc) w2 w3 := by
          refine ⟨HFR.out.2.1.trans (hw3.mono HFR.out.2.2), d0, d2, ?_⟩
          rw [hb3.block wr.heap.size (by simp)]
          exact heap_alloc_new wr _
        have HS3 : Hid (Still w2.heap.size wr.heap.size p sz (.slice ka kn kc) w2 w3 ∧ FRow w2.heap.size u8 F w2 w3 ∧ Below wr.heap.size wr w3) := ⟨hstl, HFR.out.later hw3, hw3⟩
        have HC : Hid (∀ W, (Still w2.heap.size wr.heap.size p sz (.slice ka kn kc) w2 W ∧ FRow w2.heap.size u8 F w2 W ∧ Below wr.heap.size wr W) → Calls Tryd.prog 21 #[.string p] W fun e w' => e = .returned (.string p) ∧ (Still w2.heap.size wr.heap.size p sz (.slice ka kn kc) w2 w' ∧ FRow w2.heap.size u8 F w2 w' ∧ Below wr.heap.size wr w')) := by
          rintro W ⟨h1, h2, h3⟩
          refine (HC0.out W).mono ?_
          rintro e w' ⟨rfl, hb⟩
          exact ⟨rfl, h1.below h2.2.2 hb, h2.later hb, h3.trans (hb.mono h3.size)⟩
        have HJ : Hid (∀ W, (Still w2.heap.size wr.heap.size p sz (.slice ka kn kc) w2 W ∧ FRow w2.heap.size u8 F w2 W ∧ Below wr.heap.size wr W) → Calls Tryd.prog 22 #[.slice ka kn kc] W fun e w' => e = .returned (.string J) ∧ (Still w2.heap.size wr.heap.size p sz (.slice ka kn kc) w2 w' ∧ FRow w2.heap.size u8 F w2 w' ∧ Below wr.heap.size wr w')) := by
          rintro W ⟨h1, h2, h3⟩
          refine (HJ0.out W (HKL.out W h3)).mono ?_
          rintro e w' ⟨rfl, hb⟩
          exact ⟨rfl, h1.below h2.2.2 hb, h2.later hb, h3.trans (hb.mono h3.size)⟩
        have hd3 : (Still w2.heap.size wr.heap.size p sz (.slice ka kn kc) w2 w3.drew ∧ FRow w2.heap.size u8 F w2 w3.drew ∧ Below wr.heap.size wr w3.drew) := ⟨hstl.below (HS3.out.2.1.2.2) ((Below.refl _ _).drew), HS3.out.2.1.later ((Below.refl _ _).drew), hw3.drew⟩
        clear hstl hha hb3 hba HC0 HJ0 d0 d1 d2 hw3
        go_wp2_with fail
        go_region_held3 (fun W => Below w2.heap.size w2 W ∧ W.cell? ⟨wr.heap.size, 0, none⟩ = some (.string p) ∧ W.cell? ⟨wr.heap.size, 2, none⟩ = some (.slice ka kn kc) ∧ W.heap[wr.heap.size]? = some (.cells #[.string p, .int .i64 sz, .slice ka kn kc] 37 (0, 0)))
          (first | exact hd3.1 | exact hs6.1 | exact hs7.1 | exact Still.below hs6.1 hs6.2.1.2.2 ((Below.refl _ _).alloc (Nat.le_refl _) _) | exact Still.below hs7.1 hs7.2.1.2.2 ((Below.refl _ _).alloc (Nat.le_refl _) _) | exact Still.grown hs6.1 hf9.2.1 (hk9 _ (Array.getElem?_eq_some_iff.1 hs6.1.2.2.2).1 (apart58 hs6.2.1.1 hs6.1.2.2.2 (by decide))) | exact Still.grown hs7.1 hf9.2.1 (hk9 _ (Array.getElem?_eq_some_iff.1 hs7.1.2.2.2).1 (apart58 hs7.2.1.1 hs7.1.2.2.2 (by decide))) | assumption)
          (first
            | (go_at_call 21; refine (HC.out _ (by assumption)).mono ?_; rintro e w6 ⟨rfl, hs6⟩)
            | (go_at_call 22; refine (HJ.out _ (by assumption)).mono ?_; rintro e w7 ⟨rfl, hs7⟩)
            | (refine step_file (by rfl) _ _ (by rfl) w2.heap.size u8 F (by rfl) w2 _ p J (by first | exact hs6.2.1 | exact hs7.2.1) _ (by rfl) (by simp) (by have := HFL.out; omega) ?_; intro v9 w9 hf9 hk9))
        all_goals
          have HF9 : Hid (FRow w2.heap.size v9 (F ++ [(p, J)]) w2 w9) := hf9
          clear hf9 hk9
          go_wp2
          go_roundw
          case rel => exact ⟨i + 1, F ++ [(p, J)], by go_num, by omega, HF9.out, HFC.out.symm, HI3⟩
          case measure => simp [intOf]; omega
      · have hha := hasAll_no w1.heap.size cn C ka kn kc ks (wr.alloc (.cells #[.string p, .int .i64 sz, .slice ka kn kc] 37)) (HSW.out _ hba) hkn (HKL.out _ hba) (by omega) (fun j hj => by have := s3 j hj; unfold maxLen; omega) hall
        have HT : Hid (∀ v w', ErrV w.heap.size w' v 3 (some i) → Below w.heap.size w w' → T (.returned (.tuple #[.slice none 0 0, v])) w') := HX.out (fun hq => hall (fun j hj => hq j (by rw [← hkn]; exact hj)))
        clear HX HI2 HFN HI hall hk hfr s1 s2 s3 hkn HF HKL HSW
        go_wp2_with fail
        refine hha.mono ?_
        rintro e w3 ⟨rfl, hb3⟩
        have HB3 : Hid (Below w.heap.size w w3) := HBW.out.trans ((hba.trans (hb3.mono (by simp))).mono HBW.out.size)
        clear hha hb3 hba
        go_wp2
        exact HT.out _ _ (.inr (.inr ⟨by decide, i, _, rfl, rfl, HB3.out.size, by rw [World.cell?_alloc_at _ _ _ _ rfl]; rfl, by rw [World.cell?_alloc_at _ _ _ _ rfl]; rfl⟩)) (HB3.out.alloc HB3.out.size _)
    · have HT : Hid (∀ v w', FRow w.heap.size v (l.map restF) w w' → T (.returned (.tuple #[v, .nilIface])) w') := HO.out (fun j hj => HI.out j (by omega))
      have HE : Hid (FRow w2.heap.size u8 (l.map restF) w2 wr) := by
        rw [HF.out, List.take_of_length_le (by rw [← HN.out]; omega)] at hfr
        exact hfr
      clear HI hfr HF
      go_wp2
      exact HT.out _ _ ⟨own_any HE.out.1 HB2.out.size, HB2.out.trans (HE.out.2.1.mono HB2.out.size), Nat.le_trans HB2.out.size HE.out.2.2⟩
end Go.Proofs.YtcjkficpiedpfabDoor.Tree
