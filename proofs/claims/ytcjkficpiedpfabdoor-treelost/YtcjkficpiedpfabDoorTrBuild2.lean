/-
  The tree of files that are not too many, by a cut that may be: the program's 'Build'.
-/
import Derived.Test.YtcjkficpiedpfabDoorTrBuild
namespace Go.Proofs.YtcjkficpiedpfabDoor.Tree
open Go.RowKit Route Chunk

set_option maxHeartbeats 4000000 in
set_option maxRecDepth 100000 in
theorem build_core (T : Ending → World → Prop) (a : Option Addr) (n cap : Nat) (l : List (ByteArray × ByteArray)) (m M K : Nat) (w : World) (hm : 1 ≤ m) (hmM : m ≤ M) (hM : M ≤ 64) (hK : K < 256) (hn : n ≤ 32) (hl : FilesOk n l) (hl0 : LiesF w a l) (hc : n ≤ cap)
    (hbad : ∀ j, j < n → (∀ k, k < j → codeF (l.take k) (fileOf l k) = 0) → codeF (l.take j) (fileOf l j) ≠ 0 → ∀ v w', ErrV w.heap.size w' v (codeF (l.take j) (fileOf l j)) (some j) → Below w.heap.size w w' → T (.returned (.tuple #[.slice none 0 0, v])) w')
    (hok : (∀ j, j < n → codeF (l.take j) (fileOf l j) = 0) → ∀ v Y w', Ents w.heap.size v Y w w' → SortedZ Y → (Y.map (·.1)).Perm (l.map (entF m M K)) → T (.returned (.tuple #[v, .nilIface])) w') :
    Calls Tryd.prog 7 #[.slice a n cap, cutV (m : Int) (M : Int) (K : Int)] w T := by
  have hmay : mayB (m : Int) (M : Int) (K : Int) = true := by unfold mayB; exact decide_eq_true (by omega)
  have hmy : Hid (∀ W, Calls Tryd.prog 13 #[cutV (m : Int) (M : Int) (K : Int)] W fun e w' => e = .returned (.bool true) ∧ Below W.heap.size W w') := fun W => hmay ▸ may_any (m : Int) (M : Int) (K : Int) W
  have hne : Hid (∀ j, j < n → ∀ (T : Ending → World → Prop) W, LiesF W a l → (codeF (l.take j) (fileOf l j) ≠ 0 → ∀ w', Below W.heap.size W w' → T (.returned (.tuple #[.agg #[.string ⟨#[]⟩, .int .i64 0, .slice none 0 0], .iface 43 (.int .i64 (codeF (l.take j) (fileOf l j) : Int))])) w') →
      (codeF (l.take j) (fileOf l j) = 0 → ∀ v w', Strs W.heap.size v (chunks m M K (fileOf l j).2) W w' → T (.returned (.tuple #[.agg #[.string (fileOf l j).1, .int .i64 ((fileOf l j).2.size : Int), v], .nilIface])) w') →
      Calls Tryd.prog 14 #[.slice a j cap, .agg #[.string (fileOf l j).1, .string (fileOf l j).2], cutV (m : Int) (M : Int) (K : Int)] W T) := by
    intro j hj T W h1 h2 h3
    obtain ⟨e1, e2, e3⟩ := hl
    refine new_any T a j cap (l.take j) _ _ m M K W (e3 j hj).1 hm hmM hM hK (by rw [List.length_take]; omega) (h1.take j) (by omega) (fun k hk => ?_) h2 h3
    have : fileOf (l.take j) k = fileOf l k := by simp [fileOf, List.getD_eq_getElem?_getD, hk]
    rw [this]; exact (e3 k (by omega)).1
  have hsl : Hid (∀ j, j < n → ∀ W, (Instr.slice 22 (.slice a n cap) none (some (.int .i64 (j : Int))) none).run Tryd.prog W = .ok (.slice a j cap) W) := fun j hj W => slice_files a n cap j (by omega) W
  have HL : Hid (LiesF w a l) := hl0
  have HN : Hid (n = l.length) := hl.1
  have HB : Hid (∀ j, j < n → (∀ k, k < j → codeF (l.take k) (fileOf l k) = 0) → codeF (l.take j) (fileOf l j) ≠ 0 → ∀ v w', ErrV w.heap.size w' v (codeF (l.take j) (fileOf l j)) (some j) → Below w.heap.size w w' → T (.returned (.tuple #[.slice none 0 0, v])) w') := hbad
  have HO : Hid ((∀ j, j < n → codeF (l.take j) (fileOf l j) = 0) → ∀ v Y w', Ents w.heap.size v Y w w' → SortedZ Y → (Y.map (·.1)).Perm (l.map (entF m M K)) → T (.returned (.tuple #[v, .nilIface])) w') := hok
  unfold cutV at hmy hne ⊢
  clear hmay hbad hok hl hl0 hc hm hmM hM hK
  go_enter Tryd.func7, Tryd.ntmps7
  go_wp2_with fail
  refine (hmy.out _).mono ?_
  rintro e w1 ⟨rfl, hb1⟩
  have HB1 : Hid (Below (w.alloc (.cells #[.int .i64 (m : Int), .int .i64 (M : Int), .int .i64 (K : Int)] 26)).heap.size (w.alloc (.cells #[.int .i64 (m : Int), .int .i64 (M : Int), .int .i64 (K : Int)] 26)) w1) := hb1
  clear hmy hb1
  go_wp2
  go_loopw [6, 7, 8, 9, 10, 21] (fun t6 _ _ _ _ t21 wr => ∃ (i : Nat) (Z : List ((ByteArray × Int × List ByteArray) × Value)), t21 = .int .i64 (i : Int) ∧ i ≤ n ∧ Ents w1.heap.size t6 Z w1 wr ∧ Hid (Z.map (·.1) = (l.take i).map (entF m M K)) ∧ Hid (∀ j, j < i → codeF (l.take j) (fileOf l j) = 0)) (fun _ _ _ _ _ t21 _ => n - (intOf t21).toNat)
  case atStart => exact ⟨0, [], rfl, Nat.zero_le _, Ents.nil w1, rfl, fun j hj => by omega⟩
  case round =>
    obtain ⟨i, Z, rfl, hi, hst, HZ, HI⟩ := hrel
    have hbr : Below (w.alloc (.cells #[.int .i64 (m : Int), .int .i64 (M : Int), .int .i64 (K : Int)] 26)).heap.size (w.alloc (.cells #[.int .i64 (m : Int), .int .i64 (M : Int), .int .i64 (K : Int)] 26)) wr := HB1.out.trans (hst.2.1.mono HB1.out.size)
    obtain ⟨k0, k1, k2, hbw, hlt⟩ := cut_box hbr
    by_cases hin : i < n
    · have hlr := HL.out.below hbw (Nat.le_refl _)
      obtain ⟨x, hx, g0, g1⟩ := hlr.at (j := i) (by rw [← HN.out]; exact hin)
      subst hx
      have hs := hsl.out i hin
      have hnw := hne.out i hin
      have HX : Hid (codeF (l.take i) (fileOf l i) ≠ 0 → ∀ v w', ErrV w.heap.size w' v (codeF (l.take i) (fileOf l i)) (some i) → Below w.heap.size w w' → T (.returned (.tuple #[.slice none 0 0, v])) w') := HB.out i hin HI.out
      have HI2 : Hid (codeF (l.take i) (fileOf l i) = 0 → ∀ j, j < i + 1 → codeF (l.take j) (fileOf l j) = 0) := fun hq j hj => by
        by_cases hji : j = i
        · subst hji; exact hq
        · exact HI.out j (by omega)
      have HZ2 : Hid ((l.take (i + 1)).map (entF m M K) = (l.take i).map (entF m M K) ++ [((fileOf l i).1, ((fileOf l i).2.size : Int), chunks m M K (fileOf l i).2)]) := by
        show _ = _
        rw [take_succ_file (by rw [← HN.out]; exact hin), List.map_append]; rfl
      generalize codeF (l.take i) (fileOf l i) = r at hnw HX HI2
      generalize fileOf l i = en at g0 g1 hnw HZ2
      obtain ⟨p, bs⟩ := en
      have hix := index_file x n cap i hin
      simp only at g0 g1 hnw HZ2
      generalize x.add (i * 2) = q at g0 g1 hix
      have HWL : Hid (∀ W, Below wr.heap.size wr W → LiesF W (some x) l) := fun W h => hlr.below h (Nat.le_refl _)
      have HEN : Hid (Ents w1.heap.size u6 Z w1 wr) := hst
      have HBW : Hid (Below w.heap.size w wr) := hbw
      obtain ⟨Wf, hWf⟩ : ∃ Wf, Wf = wr.alloc (.cells #[.string p, .string bs] 24) := ⟨_, rfl⟩
      have HWf : Hid (Wf = wr.alloc (.cells #[.string p, .string bs] 24)) := hWf
      have HSF : Hid (Wf.heap.size = wr.heap.size + 1) := by rw [hWf]; show _ = _; simp
      have hsf1 : wr.heap.size < Wf.heap.size := by rw [HSF.out]; omega
      have hK0 : Kept w.heap.size wr.heap.size p bs m M K Wf Wf := by
        have e := hlt
        refine ⟨Below.refl _ _, ?_, ?_, ?_, ?_, ?_⟩
        · rw [hWf]; simp
        · rw [hWf]; simp
        · rw [hWf, World.cell?_alloc_lt _ _ _ (by exact hlt)]; exact k0
        · rw [hWf, World.cell?_alloc_lt _ _ _ (by exact hlt)]; exact k1
        · rw [hWf, World.cell?_alloc_lt _ _ _ (by exact hlt)]; exact k2
      have HBF : Hid (Below wr.heap.size wr Wf) := by rw [hWf]; exact (Below.refl _ _).alloc (Nat.le_refl _) _
      have HK0 : Hid (Kept w.heap.size wr.heap.size p bs m M K Wf Wf) := hK0
      clear hlr hst hbr hbw hWf hK0
      rcases Nat.eq_zero_or_pos r with hr | hr
      · have HIN : Hid (∀ j, j < i + 1 → codeF (l.take j) (fileOf l j) = 0) := HI2.out hr
        have HZN : Hid ((l.take (i + 1)).map (entF m M K) = (l.take i).map (entF m M K) ++ [(p, (bs.size : Int), chunks m M K bs)]) := HZ2.out
        obtain ⟨C, hC⟩ : ∃ C, C = chunks m M K bs := ⟨_, rfl⟩
        rw [← hC] at hnw HZN
        obtain ⟨L, hL⟩ : ∃ L, L = C.length := ⟨_, rfl⟩
        have HCL : Hid (L = C.length) := hL
        obtain ⟨z, hz⟩ : ∃ z, z = bs.size := ⟨_, rfl⟩
        rw [← hz] at hnw HZN
        have HWK : Hid (∀ W, Kept w.heap.size wr.heap.size p bs m M K Wf W → Calls Tryd.prog 14 #[.slice (some x) i cap, .agg #[.string p, .string bs], .agg #[.int .i64 (m : Int), .int .i64 (M : Int), .int .i64 (K : Int)]] W fun e w' => ∃ ac capc, e = .returned (.tuple #[.agg #[.string p, .int .i64 (z : Int), .slice ac L capc], .nilIface]) ∧ w'.ownsRow W.heap.size 9 1 (.slice ac L capc) C.length (sv C) ∧ Below W.heap.size W w' ∧ Kept w.heap.size wr.heap.size p bs m M K Wf w') := by
          intro W h
          refine hnw _ W (HWL.out W (HBF.out.trans (h.1.mono (by omega)))) (fun h0 => absurd hr h0) ?_
          intro _ v w' hs'
          obtain ⟨ac, capc, rfl, _, _, _⟩ := hs'.liesN HCL.out
          exact ⟨ac, capc, rfl, hs'.1, hs'.2.1, h.below hs'.2.1⟩
        clear hnw hC hL hz HI2 HZ2 HX hr HI
        unfold Kept at HWK
        go_wp2_with fail
        rw [← HWf.out]
        go_region_held (fun W => Below Wf.heap.size Wf W ∧ W.cell? ⟨wr.heap.size, 0, none⟩ = some (.string p) ∧ W.cell? ⟨wr.heap.size, 1, none⟩ = some (.string bs) ∧ W.cell? ⟨w.heap.size, 0, none⟩ = some (.int .i64 (m : Int)) ∧ W.cell? ⟨w.heap.size, 1, none⟩ = some (.int .i64 (M : Int)) ∧ W.cell? ⟨w.heap.size, 2, none⟩ = some (.int .i64 (K : Int)))
          (first | assumption | exact Kept.below HK0.out ((Below.refl _ _).drew) | exact Kept.below (by assumption) ((Below.refl _ _).alloc (Nat.le_refl _) _) | exact ((Kept.set (by assumption) (Nat.le_refl _) (by omega) (by omega)).set (Nat.le_refl _) (by omega) (by omega)).set (Nat.le_refl _) (by omega) (by omega) | skip)
          (first | (go_at_call 14; refine (HWK.out _ (by assumption)).mono ?_; rintro e w2 ⟨ac, capc, rfl, ho2, hb2, hk2⟩; (first | (have hq : (w2.cell? ⟨Wf.heap.size, 0, none⟩ = some (.string ⟨#[]⟩) ∧ w2.cell? ⟨Wf.heap.size, 1, none⟩ = some (.int .i64 0) ∧ w2.cell? ⟨Wf.heap.size, 2, none⟩ = some (.slice none 0 0)) ∧ w2.frozen? ⟨Wf.heap.size, 0, none⟩ = false ∧ w2.frozen? ⟨Wf.heap.size, 1, none⟩ = false ∧ w2.frozen? ⟨Wf.heap.size, 2, none⟩ = false := ent_box2 (((Below.refl _ _).drew).trans hb2); obtain ⟨⟨q0, q1, q2⟩, q3, q4, q5⟩ := hq) | skip)))
        · have HE : Hid (Ents w1.heap.size u6 Z w1 (w2.alloc (.cells #[.string p, .int .i64 (z : Int), .slice ac L capc] 37))) := HEN.out.later ((HBF.out.trans (hk2.1.mono (by omega))).alloc (Nat.le_trans (by omega) hk2.1.size) _)
          have HKY : Hid (KeyRow w1.heap.size (w2.alloc (.cells #[.string p, .int .i64 (z : Int), .slice ac L capc] 37)) ((p, (z : Int), C), .slice ac L capc)) := own30_later (own_any ho2 (Nat.le_trans HEN.out.2.2.1 (by show wr.heap.size ≤ Wf.heap.size; omega))) ((Below.refl _ _).alloc (Nat.le_refl _) _)
          have HZL : Hid (Z.length ≤ 1000) := by
            show _ ≤ _
            have := congrArg List.length HZ.out
            simp only [List.length_map, List.length_take] at this
            omega
          clear ho2 hb2 hk2 HWK
          go_wp2_with (at_builtin; refine wpList_ent_at rfl (.tmp 42) (.tmp 44) rfl w1.heap.size _ Z rfl w1 _ p (z : Int) C (.slice ac L capc) HE.out HKY.out _ rfl (by simp) (by have := HZL.out; omega) ?_; intro v' w4 hb4)
          go_roundw
          case rel => exact ⟨i + 1, Z ++ [((p, (z : Int), C), .slice ac L capc)], by go_num, by omega, hb4, by show _ = _; rw [HZN.out, List.map_append, HZ.out]; rfl, HIN⟩
          case measure => simp [intOf]; omega
        · have HE : Hid (Ents w1.heap.size u6 Z w1 (((w2.setCell ⟨Wf.heap.size, 0, none⟩ (.string p)).setCell ⟨Wf.heap.size, 1, none⟩ (.int .i64 (z : Int))).setCell ⟨Wf.heap.size, 2, none⟩ (.slice ac L capc))) := HEN.out.later ((((HBF.out.trans (hk2.1.mono (by omega))).setCell (show wr.heap.size ≤ Wf.heap.size by omega) _).setCell (show wr.heap.size ≤ Wf.heap.size by omega) _).setCell (show wr.heap.size ≤ Wf.heap.size by omega) _)
          have ho3 : w2.ownsRow (Wf.heap.size + 1) 9 1 (.slice ac L capc) C.length (sv C) := by
            have e : (Wf.alloc (.cells #[.string ⟨#[]⟩, .int .i64 0, .slice none 0 0] 37)).drew.heap.size = Wf.heap.size + 1 := by
              show (Wf.alloc (.cells #[.string ⟨#[]⟩, .int .i64 0, .slice none 0 0] 37)).heap.size = _
              simp
            rw [← e]; exact ho2
          have HKY : Hid (KeyRow w1.heap.size (((w2.setCell ⟨Wf.heap.size, 0, none⟩ (.string p)).setCell ⟨Wf.heap.size, 1, none⟩ (.int .i64 (z : Int))).setCell ⟨Wf.heap.size, 2, none⟩ (.slice ac L capc)) ((p, (z : Int), C), .slice ac L capc)) := own_any (own_far (own_far (own_far ho3 (by omega)) (by omega)) (by omega)) (Nat.le_trans HEN.out.2.2.1 (by omega))
          have HZL : Hid (Z.length ≤ 1000) := by
            show _ ≤ _
            have := congrArg List.length HZ.out
            simp only [List.length_map, List.length_take] at this
            omega
          clear ho2 ho3 hb2 hk2 HWK
          go_wp2_with (at_builtin; refine wpList_ent_at rfl (.tmp 42) (.tmp 44) rfl w1.heap.size _ Z rfl w1 _ p (z : Int) C (.slice ac L capc) HE.out HKY.out _ rfl (by simp) (by have := HZL.out; omega) ?_; intro v' w4 hb4)
          go_roundw
          case rel => exact ⟨i + 1, Z ++ [((p, (z : Int), C), .slice ac L capc)], by go_num, by omega, hb4, by show _ = _; rw [HZN.out, List.map_append, HZ.out]; rfl, HIN⟩
          case measure => simp [intOf]; omega
      · have HWK : Hid (∀ W, Kept w.heap.size wr.heap.size p bs m M K Wf W → Calls Tryd.prog 14 #[.slice (some x) i cap, .agg #[.string p, .string bs], .agg #[.int .i64 (m : Int), .int .i64 (M : Int), .int .i64 (K : Int)]] W fun e w' => e = .returned (.tuple #[.agg #[.string ⟨#[]⟩, .int .i64 0, .slice none 0 0], .iface 43 (.int .i64 (r : Int))]) ∧ Below W.heap.size W w' ∧ Kept w.heap.size wr.heap.size p bs m M K Wf w') := by
          intro W h
          refine hnw _ W (HWL.out W (HBF.out.trans (h.1.mono (by omega)))) ?_ (fun h0 => by omega)
          intro _ w' hb'
          exact ⟨rfl, hb', h.below hb'⟩
        have HT : Hid (∀ v w', ErrV w.heap.size w' v r (some i) → Below w.heap.size w w' → T (.returned (.tuple #[.slice none 0 0, v])) w') := HX.out (by omega)
        clear hnw HI2 HZ2 HX HI HZ
        unfold Kept at HWK
        go_wp2_with fail
        rw [← HWf.out]
        go_region_held (fun W => Below Wf.heap.size Wf W ∧ W.cell? ⟨wr.heap.size, 0, none⟩ = some (.string p) ∧ W.cell? ⟨wr.heap.size, 1, none⟩ = some (.string bs) ∧ W.cell? ⟨w.heap.size, 0, none⟩ = some (.int .i64 (m : Int)) ∧ W.cell? ⟨w.heap.size, 1, none⟩ = some (.int .i64 (M : Int)) ∧ W.cell? ⟨w.heap.size, 2, none⟩ = some (.int .i64 (K : Int)))
          (first | assumption | exact Kept.below HK0.out ((Below.refl _ _).drew) | exact Kept.below (by assumption) ((Below.refl _ _).alloc (Nat.le_refl _) _) | exact ((Kept.set (by assumption) (Nat.le_refl _) (by omega) (by omega)).set (Nat.le_refl _) (by omega) (by omega)).set (Nat.le_refl _) (by omega) (by omega) | skip)
          (first | (go_at_call 14; refine (HWK.out _ (by assumption)).mono ?_; rintro e w2 ⟨rfl, hb2, hk2⟩; (first | (have hq : (w2.cell? ⟨Wf.heap.size, 0, none⟩ = some (.string ⟨#[]⟩) ∧ w2.cell? ⟨Wf.heap.size, 1, none⟩ = some (.int .i64 0) ∧ w2.cell? ⟨Wf.heap.size, 2, none⟩ = some (.slice none 0 0)) ∧ w2.frozen? ⟨Wf.heap.size, 0, none⟩ = false ∧ w2.frozen? ⟨Wf.heap.size, 1, none⟩ = false ∧ w2.frozen? ⟨Wf.heap.size, 2, none⟩ = false := ent_box2 (((Below.refl _ _).drew).trans hb2); obtain ⟨⟨q0, q1, q2⟩, q3, q4, q5⟩ := hq) | skip)))
        · have HE : Hid (Below w.heap.size w (w2.alloc (.cells #[.string ⟨#[]⟩, .int .i64 0, .slice none 0 0] 37))) := HBW.out.trans (((HBF.out.trans (hk2.1.mono (by omega))).alloc (Nat.le_trans (by omega) hk2.1.size) _).mono HBW.out.size)
          clear hb2 hk2 HWK
          go_wp2
          exact HT.out _ _ (.inr (.inr ⟨by omega, i, _, rfl, rfl, by have := HE.out.size; simpa using this, by rw [World.cell?_alloc_at _ _ _ _ (by simp)]; rfl, by rw [World.cell?_alloc_at _ _ _ _ (by simp)]; rfl⟩)) (HE.out.alloc HE.out.size _)
        · have HE : Hid (Below w.heap.size w (((w2.setCell ⟨Wf.heap.size, 0, none⟩ (.string ⟨#[]⟩)).setCell ⟨Wf.heap.size, 1, none⟩ (.int .i64 0)).setCell ⟨Wf.heap.size, 2, none⟩ (.slice none 0 0))) := HBW.out.trans ((((HBF.out.trans (hk2.1.mono (by omega))).setCell (show wr.heap.size ≤ Wf.heap.size by omega) _).setCell (show wr.heap.size ≤ Wf.heap.size by omega) _).setCell (show wr.heap.size ≤ Wf.heap.size by omega) _ |>.mono HBW.out.size)
          clear hb2 hk2 HWK
          go_wp2
          exact HT.out _ _ (.inr (.inr ⟨by omega, i, _, rfl, rfl, by have := HE.out.size; simpa using this, by rw [World.cell?_alloc_at _ _ _ _ (by simp)]; rfl, by rw [World.cell?_alloc_at _ _ _ _ (by simp)]; rfl⟩)) (HE.out.alloc HE.out.size _)
    · have HIN : ∀ j, j < n → codeF (l.take j) (fileOf l j) = 0 := fun j hj => HI.out j (by omega)
      have HT : Hid (∀ v Y w', Ents w.heap.size v Y w w' → SortedZ Y → (Y.map (·.1)).Perm (l.map (entF m M K)) → T (.returned (.tuple #[v, .nilIface])) w') := HO.out HIN
      have hzl : Z.map (·.1) = l.map (entF m M K) := by rw [HZ.out, List.take_of_length_le (by rw [← HN.out]; omega)]
      have hdz : Z.Pairwise fun x y => x.1.1 ≠ y.1.1 := by
        have h1 : (Z.map (·.1)).Pairwise fun x y => x.1 ≠ y.1 := by rw [hzl, List.pairwise_map]; exact files_apart HN.out HIN
        rwa [List.pairwise_map] at h1
      have hzn : Z.length ≤ 1000 := by
        have := congrArg List.length hzl
        simp only [List.length_map] at this
        have h2 := HN.out
        omega
      have HS : Hid (Calls Tryd.prog 15 #[u6, .func (.func 16) #[] #[]] wr fun e w' => e = .returned (.tuple #[]) ∧ ∃ Y, Y.Perm Z ∧ SortedZ Y ∧ Ents w1.heap.size u6 Y w1 w') := sort_ents u6 Z _ w1 wr hst hdz hzn
      have HZP : Hid (Z.map (·.1) = l.map (entF m M K)) := hzl
      have HB0 : Hid (Below w.heap.size w w1) := (cut_box HB1.out).2.2.2.1
      clear HI HIN hzl hdz hzn hst hbr hbw k0 k1 k2 HZ
      go_wp2_with fail
      refine HS.out.mono ?_
      rintro e w5 ⟨rfl, Y, hp, hso, hen⟩
      have HY : Hid (Y.Perm Z ∧ SortedZ Y ∧ Ents w1.heap.size u6 Y w1 w5) := ⟨hp, hso, hen⟩
      clear hp hso hen
      go_wp2
      obtain ⟨hp, hso, hen⟩ := HY.out
      refine HT.out _ Y _ ⟨own_any hen.1 HB0.out.size, HB0.out.trans (hen.2.1.mono HB0.out.size), Nat.le_trans HB0.out.size hen.2.2.1, fun z hz => own_any (hen.2.2.2 z hz) HB0.out.size⟩ hso ?_
      rw [← HZP.out]
      exact hp.map _
end Go.Proofs.YtcjkficpiedpfabDoor.Tree
