/-
  One entry more, wherever it is put: the contract of Insert.
-/
import Derived.Test.YtlpgdfdadkljfaaGreatCtIns
namespace Go.Proofs.YtlpgdfdadkljfaaGreat.Cat
open Go.RowKit Route Tree

set_option maxHeartbeats 8000000 in
set_option maxRecDepth 100000 in
/-- Insert, of one entry that lies in a block of its own. -/
theorem insert_any {B : Nat} {v : Value} {Y : List (Ent × Value)} {w : World} {i vb : Nat} {y : Ent × Value} (h : w.ownsRow B 84 3 v Y.length (cellsOf Y)) (hB : B ≤ w.heap.size) (hi : i ≤ Y.length) (hlen : Y.length + 1 ≤ 1000000) (hy : y.2.oneCell' = true)
    (hv : w.heap[vb]? = some (.cells #[.string y.1.1, .int .i64 y.1.2.1, y.2] 84 (0, 0))) (hvb : v.ownBlock ≠ some vb) :
    Calls Tryz.prog 45 #[v, .int .i64 (i : Int), .slice (some ⟨vb, 0, none⟩) 1 1] w fun e w' => ∃ v', e = .returned v' ∧ w'.ownsRow B 84 3 v' (Y.length + 1) (cellsOf (insY Y i y)) ∧ w.grownBy w' v.ownBlock ∧ (v'.ownBlock = v.ownBlock ∨ v'.ownBlock = some w.heap.size) := by
  obtain ⟨i0, hi0, hz0, hzs, hzb⟩ := info_parts info30
  have hey : enc y = [.string y.1.1, .int .i64 y.1.2.1, y.2] := by rw [enc, fix, if_pos hy]
  have hvy : w.heap[vb]? = some (.cells (enc y).toArray 84 (0, 0)) := by rw [hey]; exact hv
  have h1y : ∀ u ∈ enc y, u.oneCell' = true := fun u hu => by
    rw [hey] at hu
    simp at hu
    rcases hu with rfl | rfl | rfl
    · rfl
    · rfl
    · exact hy
  have hins : (insY Y i y).length = Y.length + 1 := by simp [insY]; omega
  by_cases hin : i = Y.length
  · subst hin
    have hcells : cellsOf (insY Y Y.length y) = cellsOf Y ++ enc y := by
      rw [ins_cells, List.take_of_length_le (by rw [cellsOf_len]; exact Nat.le_refl _), List.drop_eq_nil_of_le (by rw [cellsOf_len]; exact Nat.le_refl _), List.append_nil]
    rw [hcells]
    have HO : Hid (w.ownsRow B 84 3 v Y.length (cellsOf Y)) := h
    have HV : Hid (∀ j u, (enc y)[j]? = some u → w.cell? ((⟨vb, 0, none⟩ : Addr).add j) = some u) := fun j u hj => by
      rw [Addr.add_lit, Nat.zero_add, cell_of_row w vb j _ _ (0, 0) hvy]; simpa using hj
    have HEL : Hid ((enc y).length = 1 * 3) := by rw [hey]; rfl
    generalize enc y = ys at *
    rcases h.2 with ⟨rfl, h0⟩ | ⟨g, cap, cur, rfl, _, _, hcap, hcap2, _⟩
    · rw [h0] at HO ⊢
      generalize cellsOf Y = xs at *
      clear h hv hvy hey hins hcells hi hvb h0 hlen
      go_enter Tryz.func45, Tryz.ntmps45
      go_wp2_with (at_builtin; refine wpList_append_own_at _ rfl (.tmp 23) (.tmp 24) 29 rfl B 84 i0 _ 3 48 Tryz.underlying29 hi0 hz0 hzs hzb rfl (by decide) _ 0 xs rfl HO.out ⟨vb, 0, none⟩ 1 1 ys rfl HEL.out HV.out h1y (by unfold maxLen; omega) (by omega) hB ?_; intro v' w' q1 q2 _ q4; have Q1 : Hid _ := q1; have Q2 : Hid _ := q2; have Q4 : Hid _ := q4; clear q1 q2 q4)
      all_goals
        go_ret
        exact ⟨_, rfl, Q1.out, Q2.out, Q4.out⟩
    · generalize cellsOf Y = xs at *
      obtain ⟨n, hn⟩ : ∃ n, n = Y.length := ⟨_, rfl⟩
      rw [← hn] at HO hlen hcap ⊢
      have hz2 : ((n : Int) == (n : Int)) = true := by simp
      unfold maxLen at hcap2
      clear h hv hvy hey hins hcells hn hi hvb
      go_enter Tryz.func45, Tryz.ntmps45
      go_wp2_with (at_builtin; refine wpList_append_own_at _ rfl (.tmp 23) (.tmp 24) 29 rfl B 84 i0 _ 3 48 Tryz.underlying29 hi0 hz0 hzs hzb rfl (by decide) _ n xs rfl HO.out ⟨vb, 0, none⟩ 1 1 ys rfl HEL.out HV.out h1y (by unfold maxLen; omega) (by omega) hB ?_; intro v' w' q1 q2 _ q4; have Q1 : Hid _ := q1; have Q2 : Hid _ := q2; have Q4 : Hid _ := q4; clear q1 q2 q4)
      all_goals
        go_ret
        exact ⟨_, rfl, Q1.out, Q2.out, Q4.out⟩
  · have hlt : i < Y.length := by omega
    rcases h.2 with ⟨rfl, h0⟩ | ⟨g, cap, cur, rfl, hb, hg, hnc, hcm, hcs, ht⟩
    · omega
    · have hxl := h.1
      have hne : vb ≠ g := fun e => hvb (by rw [e]; rfl)
      have hdl : ((cellsOf Y).drop (i * 3)).length = (Y.length - i) * 3 := by rw [List.length_drop, hxl, Nat.sub_mul]
      have hyl : (enc y).length = 3 := rfl
      by_cases hroom : Y.length + 1 ≤ cap
      · refine (insert_shift g cap Y.length i vb (cellsOf Y) (enc y) cur w hg hcm hcs ht hxl (ecells_one Y) hlt hroom hvy hyl h1y hne).mono ?_
        rintro e w' ⟨rfl, rfl⟩
        obtain ⟨s1, s2, s3, s4, s5, s6⟩ := setCells_heap g ((cellsOf Y).drop (i * 3)) ((i + 1) * 3) w.drew cur _ hg (by rw [hdl, hcs]; omega)
        generalize hc1 : (cur.toList.take ((i + 1) * 3) ++ (cellsOf Y).drop (i * 3) ++ cur.toList.drop ((i + 1) * 3 + ((cellsOf Y).drop (i * 3)).length)).toArray = cur1 at s1
        have hl1 : cur1.size = cap * 3 := by
          rw [← hc1]
          simp only [List.size_toArray, List.length_append, List.length_take, List.length_drop, Array.length_toList, hcs, hxl]
          omega
        obtain ⟨r1, r2, r3, r4, r5, r6⟩ := setCells_heap g (enc y) (i * 3) _ cur1 _ s1 (by rw [hl1, hyl]; omega)
        refine ⟨_, rfl, ?_, ⟨r4.trans s4, r5.trans s5, r6.trans s6, by rw [r3, s3]; exact Nat.le_refl _, fun k _ hk => ?_⟩, .inl rfl⟩
        · refine own_set hb r1 hroom hcm ?_ (by rw [cellsOf_len, hins]) ?_
          · simp only [List.size_toArray, List.length_append, List.length_take, List.length_drop, Array.length_toList, hl1, hyl]
            omega
          · show List.take _ (_ ++ _ ++ _) = _
            rw [ins_cells]
            have e1 : cur1.toList.take (i * 3) = (cellsOf Y).take (i * 3) := by
              rw [← hc1]
              show List.take _ (_ ++ _ ++ _) = _
              rw [List.append_assoc, List.take_append_of_le_length (by rw [List.length_take, Array.length_toList, hcs]; omega), List.take_take, Nat.min_eq_left (by omega), ← ht, List.take_take, Nat.min_eq_left (by omega)]
            have e2 : cur1.toList.drop (i * 3 + (enc y).length) = (cellsOf Y).drop (i * 3) ++ cur.toList.drop ((i + 1) * 3 + ((cellsOf Y).drop (i * 3)).length) := by
              rw [← hc1]
              show List.drop _ (_ ++ _ ++ _) = _
              rw [List.append_assoc, List.drop_left' (by rw [List.length_take, Array.length_toList, hcs, hyl]; omega)]
            rw [e1, e2, List.append_assoc, ← List.append_assoc, ← List.append_assoc, List.take_left' (by
              simp only [List.length_append, List.length_take, hdl, hyl, hxl]
              omega), List.append_assoc]
        · have hkg : k ≠ g := fun e => hk (by rw [e]; rfl)
          exact (r2 k hkg).trans (s2 k hkg)
      · refine (insert_grow g cap Y.length i vb (cellsOf Y) (enc y) cur w hg hcm hnc ht hxl (ecells_one Y) hlt (by omega) hlen hvy hyl h1y).mono ?_
        rintro e w' ⟨G, ROW, hG1, hG2, hRS, hRT, rfl, rfl⟩
        have hh : ((w.alloc (.cells ROW 84)).drew).heap[w.heap.size]? = some (.cells ROW 84 (0, 0)) := heap_alloc_new w _
        obtain ⟨s1, s2, s3, s4, s5, s6⟩ := setCells_heap w.heap.size (enc y) (i * 3) _ ROW _ hh (by rw [hRS, hyl]; omega)
        generalize hc1 : (ROW.toList.take (i * 3) ++ enc y ++ ROW.toList.drop (i * 3 + (enc y).length)).toArray = cur1 at s1
        have hl1 : cur1.size = G * 3 := by
          rw [← hc1]
          simp only [List.size_toArray, List.length_append, List.length_take, List.length_drop, Array.length_toList, hRS, hyl]
          omega
        obtain ⟨r1, r2, r3, r4, r5, r6⟩ := setCells_heap w.heap.size ((cellsOf Y).drop (i * 3)) ((i + 1) * 3) (((w.alloc (.cells ROW 84)).drew.setCells w.heap.size (i * 3) (enc y)).drew) cur1 _ s1 (by rw [hl1, hdl]; omega)
        have hsz : (w.alloc (.cells ROW 84)).drew.heap.size = w.heap.size + 1 := by simp
        refine ⟨_, rfl, ?_, ⟨r4.trans s4, r5.trans s5, r6.trans s6, ?_, fun k hk _ => ?_⟩, .inr rfl⟩
        · refine own_set hB r1 hG1 hG2 ?_ (by rw [cellsOf_len, hins]) ?_
          · simp only [List.size_toArray, List.length_append, List.length_take, List.length_drop, Array.length_toList, hl1, hxl]
            omega
          · show List.take _ (_ ++ _ ++ _) = _
            rw [ins_cells]
            have e1 : cur1.toList.take ((i + 1) * 3) = (cellsOf Y).take (i * 3) ++ enc y := by
              rw [← hc1]
              show List.take _ (_ ++ _ ++ _) = _
              rw [List.take_left' (by simp only [List.length_append, List.length_take, Array.length_toList, hRS, hyl]; omega), hRT]
            rw [e1, List.take_left' (by simp only [List.length_append, List.length_take, hdl, hyl, hxl]; omega), List.append_assoc]
        · rw [r3]
          show w.heap.size ≤ ((w.alloc (.cells ROW 84)).drew.setCells w.heap.size (i * 3) (enc y)).heap.size
          rw [s3, hsz]; omega
        · have hkg : k ≠ w.heap.size := by omega
          exact ((r2 k hkg).trans (s2 k hkg)).trans (heap_alloc_old w _ hk)
end Go.Proofs.YtlpgdfdadkljfaaGreat.Cat
