/-
  The document's answer for trees: its 'Has' and its 'Restore'.
-/
import Derived.Test.YtcjkficpiedpfaaDoorTrChecksNot
import Derived.Test.YtcjkficpiedpfaaDoorTrRest2
namespace Go.Proofs.YtcjkficpiedpfaaDoor.Tree
open Go.RowKit Route Chunk

theorem mem_getD {C : List ByteArray} {s : ByteArray} : s ∈ C ↔ ∃ j, j < C.length ∧ C.getD j ByteArray.empty = s := by
  rw [List.mem_iff_getElem]
  constructor
  · rintro ⟨j, hj, e⟩
    exact ⟨j, hj, by simp [List.getD_eq_getElem?_getD, hj, e]⟩
  · rintro ⟨j, hj, e⟩
    exact ⟨j, hj, by simpa [List.getD_eq_getElem?_getD, hj] using e⟩

/-- Is a text among some? -/
def inB (C : List ByteArray) (s : ByteArray) : Bool := C.any fun x => decide (x = s)
theorem inB_iff {C : List ByteArray} {s : ByteArray} : inB C s = true ↔ s ∈ C := by
  simp [inB]
theorem inB_no {C : List ByteArray} {s : ByteArray} (h : s ∉ C) : inB C s = false := by
  cases e : inB C s with
  | false => rfl
  | true => exact absurd (inB_iff.1 e) h

set_option maxHeartbeats 4000000 in
set_option maxRecDepth 100000 in
theorem has_any (a : Option Addr) (n cap : Nat) (C : List ByteArray) (s : ByteArray) (w : World) (hn0 : n = C.length) (hl0 : Lies w a C) (hnm : n ≤ 1000000) :
    Calls Tryd.prog 46 #[.slice a n cap, .string s] w fun e w' => e = .returned (.bool (inB C s)) ∧ w' = w := by
  have HN : Hid (n = C.length) := hn0
  have HL : Hid (Lies w a C) := hl0
  obtain ⟨r, hr⟩ : ∃ r, r = inB C s := ⟨_, rfl⟩
  have HR : Hid (r = inB C s) := hr
  rw [← hr]
  clear hn0 hl0 hr
  go_enter Tryd.func46, Tryd.ntmps46
  go_wp2
  go_loop [4, 5] (fun t4 t5 => ∃ (i : Nat), t4 = .bool false ∧ t5 = .int .i64 (i : Int) ∧ i ≤ n ∧ Hid (∀ j, j < i → C.getD j ByteArray.empty ≠ s)) (fun _ t5 => n - (intOf t5).toNat)
  case atStart => exact ⟨0, rfl, rfl, Nat.zero_le _, fun j hj => by omega⟩
  case round =>
    obtain ⟨i, rfl, rfl, hi, HI⟩ := hrel
    by_cases hin : i < n
    · obtain ⟨x, hx, hc⟩ := HL.out.cellAt (j := i) (by rw [← HN.out]; exact hin)
      subst hx
      have HE : Hid (C.getD i ByteArray.empty = s → r = true) := fun e => by
        rw [HR.out]; exact inB_iff.2 (mem_getD.2 ⟨i, by rw [← HN.out]; exact hin, e⟩)
      have HNx : Hid (C.getD i ByteArray.empty ≠ s → ∀ j, j < i + 1 → C.getD j ByteArray.empty ≠ s) := fun e j hj => by
        by_cases hji : j = i
        · subst hji; exact e
        · exact HI.out j (by omega)
      generalize C.getD i ByteArray.empty = k at hc HE HNx
      by_cases hks : k = s
      · have hd : (k.toList == s.toList) = true := by rw [str_eq, decide_eq_true hks]
        have hr : r = true := HE.out hks
        clear hks
        go_wp2
        go_ret
        exact ⟨by first | rfl | (rw [hr]; rfl), rfl⟩
      · have hd := ne_text hks
        have HN2 : Hid (∀ j, j < i + 1 → C.getD j ByteArray.empty ≠ s) := HNx.out hks
        clear hks
        go_wp2
        go_round
        case rel => exact ⟨i + 1, rfl, by go_num, by omega, HN2⟩
        case measure => simp [intOf]; omega
    · have hr : r = false := by
        rw [HR.out]
        refine inB_no fun h => ?_
        obtain ⟨j, hj, e⟩ := mem_getD.1 h
        exact HI.out j (by have := HN.out; omega) e
      go_wp2
      go_ret
      exact ⟨by first | rfl | (rw [hr]; rfl), rfl⟩

set_option maxHeartbeats 4000000 in
set_option maxRecDepth 100000 in
theorem refRestore_bad (T : Ending → World → Prop) (a ca : Option Addr) (n cap cn ccap : Nat) (l : List (ByteArray × Int × List ByteArray)) (w : World) (hl : EntsOk n l) (hl0 : LiesE w a l) (ht : ¬ isTree l)
    (hT : ∀ w', Below w.heap.size w w' → T (.returned (.tuple #[.slice none 0 0, .int .i64 ((checkAns l).1 : Int), .int .i64 (placeI (checkAns l).2)])) w') :
    Calls Tryd.prog 23 #[.slice a n cap, .slice ca cn ccap] w T := by
  have hne : (checkAns l).1 ≠ 0 := fun h => ht (checkAns_tree.1 h)
  have hck := refCheck_ans a n cap l w hl hl0
  have HT : Hid (∀ w', Below w.heap.size w w' → T (.returned (.tuple #[.slice none 0 0, .int .i64 ((checkAns l).1 : Int), .int .i64 (placeI (checkAns l).2)])) w') := hT
  generalize (checkAns l).1 = c at hck hne HT
  generalize placeI (checkAns l).2 = P at hck HT
  have hcne : ((c : Int) != 0) = true := by simp; exact hne
  clear hl hl0 ht hT hne
  go_enter Tryd.func23, Tryd.ntmps23
  go_wp2_with fail
  refine hck.mono ?_
  rintro e w1 ⟨rfl, hb1⟩
  go_wp2
  refine bodyPost_ret (v := .tuple #[.slice none 0 0, .int .i64 (c : Int), .int .i64 P]) (by simp [results, Tryd.results23, go_sem]) rfl ?_
  exact HT.out _ hb1

set_option maxHeartbeats 4000000 in
set_option maxRecDepth 100000 in
theorem refRestore_core (T : Ending → World → Prop) (a ca : Option Addr) (n cap cn ccap : Nat) (l : List (ByteArray × Int × List ByteArray)) (C : List ByteArray) (w : World) (hl : EntsOk n l) (hl0 : LiesE w a l) (ht : isTree l)
    (hcn : cn = C.length) (hcl : Lies w ca C) (hcm : cn ≤ 1000000)
    (hmiss : ∀ j, j < n → (∀ k, k < j → allIn C (entOf l k)) → ¬ allIn C (entOf l j) → ∀ w', Below w.heap.size w w' → T (.returned (.tuple #[.slice none 0 0, .int .i64 3, .int .i64 (j : Int)])) w')
    (hok : (∀ j, j < n → allIn C (entOf l j)) → ∀ v w', FRow w.heap.size v (l.map restF) w w' → T (.returned (.tuple #[v, .int .i64 0, .int .i64 (-1)])) w') :
    Calls Tryd.prog 23 #[.slice a n cap, .slice ca cn ccap] w T := by
  have hck : Hid (Calls Tryd.prog 14 #[.slice a n cap] w fun e w' => e = .returned (.tuple #[.int .i64 0, .int .i64 (-1)]) ∧ Below w.heap.size w w') := by
    have := refCheck_ans a n cap l w hl hl0
    rw [checkAns_all ht.1 ht.2] at this
    exact this
  have HL : Hid (LiesE w a l) := hl0
  have HN : Hid (n = l.length) := hl.1
  have hnm : n ≤ 100 := hl.2.1
  have HHS : Hid (∀ s W, Below w.heap.size w W → Calls Tryd.prog 46 #[.slice ca cn ccap, .string s] W fun e w' => e = .returned (.bool (inB C s)) ∧ w' = W) := fun s W hb => has_any ca cn ccap C s W hcn (hcl.below hb (Nat.le_refl _)) hcm
  have HSH : Hid (∀ j, j < n → shortE (entOf l j)) := hl.2.2
  have HM : Hid (∀ j, j < n → (∀ k, k < j → allIn C (entOf l k)) → ¬ allIn C (entOf l j) → ∀ w', Below w.heap.size w w' → T (.returned (.tuple #[.slice none 0 0, .int .i64 3, .int .i64 (j : Int)])) w') := hmiss
  have HO : Hid ((∀ j, j < n → allIn C (entOf l j)) → ∀ v w', FRow w.heap.size v (l.map restF) w w' → T (.returned (.tuple #[v, .int .i64 0, .int .i64 (-1)])) w') := hok
  clear hl hl0 ht hcn hcl hmiss hok hcm
  go_enter Tryd.func23, Tryd.ntmps23
  go_wp2_with fail
  refine hck.out.mono ?_
  rintro e w2 ⟨rfl, hb2⟩
  have HB2 : Hid (Below w.heap.size w w2) := hb2
  clear hck hb2
  go_wp2
  go_loopw [4, 5, 6, 9, 10, 11, 12] (fun t4 t5 t6 t9 t10 _ _ wr => ∃ (i : Nat) (F : List (ByteArray × ByteArray)), t4 = .slice none 0 0 ∧ t5 = .int .i64 0 ∧ t6 = .int .i64 0 ∧ t10 = .int .i64 (i : Int) ∧ i ≤ n ∧ FRow w2.heap.size t9 F w2 wr ∧ Hid (F = (l.take i).map restF) ∧ Hid (∀ j, j < i → allIn C (entOf l j))) (fun _ _ _ _ t10 _ _ _ => n - (intOf t10).toNat)
  case atStart => exact ⟨0, [], rfl, rfl, rfl, rfl, Nat.zero_le _, FRow.nil w2, rfl, fun j hj => by omega⟩
  case round =>
    obtain ⟨i, F, rfl, rfl, rfl, rfl, hi, hfr, HF, HI⟩ := hrel
    have HBW : Hid (Below w.heap.size w wr) := HB2.out.trans (hfr.2.1.mono HB2.out.size)
    by_cases hin : i < n
    · obtain ⟨x, hx, g0', g1', ka, kc, g2', hk'⟩ := (HL.out.below HB2.out (Nat.le_refl _)).at (j := i) (by rw [← HN.out]; exact hin)
      subst hx
      have HCE : Hid (∀ W, Below w2.heap.size w2 W → W.cell? (x.add (i * 3)) = some (.string (entOf l i).1) ∧ W.cell? ⟨(x.add (i * 3)).block, (x.add (i * 3)).off + 2, none⟩ = some (.slice ka (entOf l i).2.2.length kc)) := fun W hb => ⟨cell_kept hb g0', cell_kept hb g2'⟩
      have g0 := cell_kept hfr.2.1 g0'
      have g1 := cell_kept hfr.2.1 g1'
      have g2 := cell_kept hfr.2.1 g2'
      have hk := hk'.below hfr.2.1 (Nat.le_refl _)
      clear g0' g1' g2' hk'
      obtain ⟨s1, s2, s3⟩ := HSH.out i hin
      have HX : Hid (¬ allIn C (entOf l i) → ∀ w', Below w.heap.size w w' → T (.returned (.tuple #[.slice none 0 0, .int .i64 3, .int .i64 (i : Int)])) w') := HM.out i hin HI.out
      have HI2 : Hid (allIn C (entOf l i) → ∀ j, j < i + 1 → allIn C (entOf l j)) := fun hq j hj => by
        by_cases hji : j = i
        · subst hji; exact hq
        · exact HI.out j (by omega)
      have HFN : Hid ((l.take (i + 1)).map restF = (l.take i).map restF ++ [restF (entOf l i)]) := by
        show _ = _
        rw [take_succ_ent (by rw [← HN.out]; exact hin), List.map_append]; rfl
      generalize entOf l i = en at g0 g1 g2 hk s1 s2 s3 HX HI2 HFN HCE
      obtain ⟨p, sz, ks⟩ := en
      have hix := index_ent x n cap i hin
      simp only at g0 g1 g2 hk s1 s2 s3 HCE
      obtain ⟨kn, hkn⟩ : ∃ kn, kn = ks.length := ⟨_, rfl⟩
      rw [← hkn] at g2 s2 s3 HCE
      generalize x.add (i * 3) = q at g0 g1 g2 hix HCE
      have HKL : Hid (Lies wr ka ks) := hk.1
      have HKN : Hid (kn = ks.length) := hkn
      have HFR : Hid (FRow w2.heap.size u9 F w2 wr) := hfr
      have hcat : (cat ks).size ≤ 140737488355328 := by
        have h1 := cat_le ks 2000 (fun k hk => s3 k (by rw [hkn]; exact hk))
        have h2 := Nat.mul_le_mul_right 2000 (show ks.length ≤ 1200 by rw [← hkn]; exact s2)
        omega
      have HJ0 : Hid (∀ W, Lies W ka ks → Calls Tryd.prog 47 #[.slice ka kn kc] W fun e w' => e = .returned (.string (cat ks)) ∧ w' = W) := fun W h => Chunk.refJoin_any ka ks kn kc W hkn h (by omega) hcat
      have HFC : Hid ((l.take (i + 1)).map restF = F ++ [(p, cat ks)]) := by
        show _ = _
        rw [HFN.out, HF.out]; rfl
      have HFL : Hid (F.length ≤ 1000) := by
        show _ ≤ _
        rw [HF.out, List.length_map, List.length_take]; omega
      generalize cat ks = J at HJ0 HFC
      clear HFN HI hcat hk hfr s1 s3 hkn HF
      go_wp2
      go_loop [4, 5, 6, 11, 12] (fun t4 t5 t6 t11 _ => ∃ k : Nat, t4 = .slice none 0 0 ∧ t5 = .int .i64 0 ∧ t6 = .int .i64 0 ∧ t11 = .int .i64 (k : Int) ∧ k ≤ kn ∧ Hid (∀ j, j < k → ks.getD j ByteArray.empty ∈ C)) (fun _ _ _ t11 _ => kn - (intOf t11).toNat)
      case atStart => exact ⟨0, rfl, rfl, rfl, rfl, Nat.zero_le _, fun j hj => by omega⟩
      case round =>
        obtain ⟨k, rfl, rfl, rfl, rfl, hkk, HK⟩ := hrel
        by_cases hkin : k < kn
        · obtain ⟨y, hy, hcy⟩ := HKL.out.cellAt (j := k) (by rw [← HKN.out]; exact hkin)
          subst hy
          have HMI : Hid (ks.getD k ByteArray.empty ∉ C → ∀ w', Below w.heap.size w w' → T (.returned (.tuple #[.slice none 0 0, .int .i64 3, .int .i64 (i : Int)])) w') := fun h => HX.out fun ha => h (ha k (by show k < ks.length; rw [← HKN.out]; exact hkin))
          have HK2 : Hid (ks.getD k ByteArray.empty ∈ C → ∀ j, j < k + 1 → ks.getD j ByteArray.empty ∈ C) := fun h j hj => by
            by_cases e : j = k
            · subst e; exact h
            · exact HK.out j (by omega)
          generalize ks.getD k ByteArray.empty = key at hcy HMI HK2
          have hhs := HHS.out key wr HBW.out
          by_cases hin2 : key ∈ C
          · rw [inB_iff.2 hin2] at hhs
            have HK3 : Hid (∀ j, j < k + 1 → ks.getD j ByteArray.empty ∈ C) := HK2.out hin2
            clear hin2 HMI HK2 HK
            go_wp2_with fail
            refine hhs.mono ?_
            rintro e w3 ⟨rfl, rfl⟩
            go_wp2
            go_round
            case rel => exact ⟨k + 1, rfl, rfl, rfl, by go_num, by omega, HK3⟩
            case measure => simp [intOf]; omega
          · rw [inB_no hin2] at hhs
            have HT := HMI.out hin2
            have HTT : Hid (∀ w', Below w.heap.size w w' → T (.returned (.tuple #[.slice none 0 0, .int .i64 3, .int .i64 (i : Int)])) w') := HT
            clear hin2 HMI HK2 HK HT
            go_wp2_with fail
            refine hhs.mono ?_
            rintro e w3 ⟨rfl, rfl⟩
            go_wp2
            refine bodyPost_ret (v := .tuple #[.slice none 0 0, .int .i64 3, .int .i64 (i : Int)]) (by simp [results, Tryd.results23, go_sem]) rfl ?_
            exact HTT.out _ HBW.out
        · have HI3 : Hid (∀ j, j < i + 1 → allIn C (entOf l j)) := HI2.out fun j hj => HK.out j (by have := HKN.out; simp only at hj; omega)
          have HJ : Hid (∀ W, Below wr.heap.size wr W → Calls Tryd.prog 47 #[.slice ka kn kc] W fun e w' => e = .returned (.string J) ∧ w' = W) := fun W h => HJ0.out W (HKL.out.below h (Nat.le_refl _))
          clear HX HI2 HK HJ0
          have HFD : Hid (FRow w2.heap.size u9 F w2 wr.drew) := HFR.out.later ((Below.refl _ _).drew)
          have HBE : Hid (∀ W, Below w2.heap.size w2 W → W.cell? q = some (.string p) ∧ W.cell? ⟨q.block, q.off + 2, none⟩ = some (.slice ka kn kc)) := HCE.out
          go_wp2_with fail
          go_region_held3 (fun W => Below w2.heap.size w2 W ∧ W.cell? q = some (.string p) ∧ W.cell? ⟨q.block, q.off + 2, none⟩ = some (.slice ka kn kc))
            (first | exact ⟨HFR.out.2.1.drew, HBE.out _ HFR.out.2.1.drew⟩ | exact ⟨HFD.out.2.1.alloc HFD.out.2.2 _, HBE.out _ (HFD.out.2.1.alloc HFD.out.2.2 _)⟩ | exact ⟨hf9.2.1, HBE.out _ hf9.2.1⟩ | assumption)
            (first
              | (go_at_call 47; refine (HJ.out _ ((Below.refl _ _).drew)).mono ?_; rintro e w6 ⟨rfl, rfl⟩)
              | (refine step_file (by rfl) _ _ (by rfl) w2.heap.size u9 F (by rfl) w2 _ p J HFD.out _ (by rfl) (by simp) (by have := HFL.out; omega) ?_; intro v9 w9 hf9 hk9))
          all_goals
            have HF9 : Hid (FRow w2.heap.size v9 (F ++ [(p, J)]) w2 w9) := hf9
            clear hf9 hk9
            go_wp2
            go_roundw
            case rel => exact ⟨i + 1, F ++ [(p, J)], rfl, rfl, rfl, by go_num, by omega, HF9.out, HFC.out.symm, HI3⟩
            case measure => simp [intOf]; omega
    · have HT : Hid (∀ v w', FRow w.heap.size v (l.map restF) w w' → T (.returned (.tuple #[v, .int .i64 0, .int .i64 (-1)])) w') := HO.out (fun j hj => HI.out j (by omega))
      have HE : Hid (FRow w2.heap.size u9 (l.map restF) w2 wr) := by
        rw [HF.out, List.take_of_length_le (by rw [← HN.out]; omega)] at hfr
        exact hfr
      clear HI hfr HF
      go_wp2
      refine bodyPost_ret (v := .tuple #[u9, .int .i64 0, .int .i64 (-1)]) (by simp [results, Tryd.results23, go_sem]) rfl ?_
      exact HT.out _ _ ⟨own_any HE.out.1 HB2.out.size, HB2.out.trans (HE.out.2.1.mono HB2.out.size), Nat.le_trans HB2.out.size HE.out.2.2⟩
end Go.Proofs.YtcjkficpiedpfaaDoor.Tree
