/-
  One entry more: the library's Insert over a row of entries.
-/
import Derived.Test.YtlpgdfdadkljfaaGreatCtDel
import Derived.Test.YtlpgdfdadkljfaaGreatMgF
namespace Go.Proofs.YtlpgdfdadkljfaaGreat.Cat
open Go.RowKit Route Tree

theorem ecells_one (Y : List (Ent × Value)) : ∀ u ∈ cellsOf Y, u.oneCell' = true := by
  intro u hu
  simp only [cellsOf, List.mem_flatMap] at hu
  obtain ⟨z, _, hu⟩ := hu
  simp [enc] at hu
  rcases hu with rfl | rfl | rfl
  · rfl
  · rfl
  · exact fix_one _
theorem ecells_take (Y : List (Ent × Value)) (i : Nat) : cellsOf (Y.take i) = (cellsOf Y).take (i * 3) := by
  have h : cellsOf Y = cellsOf (Y.take i) ++ cellsOf (Y.drop i) := by rw [← cellsOf_app, List.take_append_drop]
  by_cases hi : i ≤ Y.length
  · rw [h, List.take_left' (by rw [cellsOf_len, List.length_take, Nat.min_eq_left hi])]
  · rw [List.take_of_length_le (by omega), List.take_of_length_le (by rw [cellsOf_len]; omega)]
theorem ecells_drop (Y : List (Ent × Value)) (i : Nat) : cellsOf (Y.drop i) = (cellsOf Y).drop (i * 3) := by
  have h : cellsOf Y = cellsOf (Y.take i) ++ cellsOf (Y.drop i) := by rw [← cellsOf_app, List.take_append_drop]
  by_cases hi : i ≤ Y.length
  · rw [h, List.drop_left' (by rw [cellsOf_len, List.length_take, Nat.min_eq_left hi])]
  · rw [List.drop_eq_nil_of_le (by omega), List.drop_eq_nil_of_le (by rw [cellsOf_len]; omega)]
    rfl

/-- An entry put into a row at its place. -/
def insY (Y : List (Ent × Value)) (i : Nat) (y : Ent × Value) : List (Ent × Value) := Y.take i ++ y :: Y.drop i
theorem ins_cells (Y : List (Ent × Value)) (i : Nat) (y : Ent × Value) : cellsOf (insY Y i y) = (cellsOf Y).take (i * 3) ++ (enc y ++ (cellsOf Y).drop (i * 3)) := by
  rw [insY, cellsOf_app, ecells_take, ← ecells_drop]
  simp [cellsOf]

set_option maxHeartbeats 8000000 in
set_option maxRecDepth 100000 in
/-- There is room, and it isn't the last one: what stands from the place on moves down, in place. -/
theorem insert_shift (g cap n i vb : Nat) (xs ys : List Value) (cur : Array Value) (w : World) (hg : w.heap[g]? = some (.cells cur 84 (0, 0))) (hcm : cap ≤ maxLen) (hcs : cur.size = cap * 3) (ht : cur.toList.take (n * 3) = xs) (hxl : xs.length = n * 3) (h1 : ∀ u ∈ xs, u.oneCell' = true) (hi : i < n) (hroom : n + 1 ≤ cap)
    (hv : w.heap[vb]? = some (.cells ys.toArray 84 (0, 0))) (hyl : ys.length = 3) (h1y : ∀ u ∈ ys, u.oneCell' = true) (hvb : vb ≠ g) :
    Calls Tryz.prog 45 #[.slice (some ⟨g, 0, none⟩) n cap, .int .i64 (i : Int), .slice (some ⟨vb, 0, none⟩) 1 1] w fun e w' =>
      e = .returned (.slice (some ⟨g, 0, none⟩) (n + 1) cap) ∧ w' = (w.drew.setCells g ((i + 1) * 3) (xs.drop (i * 3))).setCells g (i * 3) ys := by
  have t28 := Tryz.underlying29
  have hsz : (Tryz.prog.info? 84).map (·.size) = some 3 := by
    obtain ⟨i0, hi0, h0, h1, h2⟩ := info_parts info30
    rw [hi0]; simp [h1]
  have hcell : ∀ j, j < n * 3 → w.cell? ⟨g, j, none⟩ = xs[j]? := fun j hj => by
    rw [cell_of_row w g j cur _ (0, 0) hg, ← Array.getElem?_toList, ← ht, List.getElem?_take, if_pos hj]
  have hsome : ∀ j, j < cap * 3 → (w.cell? ⟨g, j, none⟩).isSome = true := fun j hj => by
    rw [cell_of_row w g j cur _ (0, 0) hg, Array.getElem?_eq_getElem (by rw [hcs]; exact hj)]; rfl
  have hfz : ∀ j, w.frozen? ⟨g, j, none⟩ = false := fun j =>
    World.ownsRow.frozenAt (w := w) (base := 0) (e := 84) (size := 3) (n := n) (xs := xs) ⟨hxl, .inr ⟨g, cap, cur, rfl, Nat.zero_le _, hg, by omega, hcm, hcs, ht⟩⟩ j
  have hvc : ∀ j v, ys[j]? = some v → w.cell? ⟨vb, j, none⟩ = some v := fun j v hj => by
    rw [cell_of_row w vb j _ _ (0, 0) hv]; simpa using hj
  have hvf : ∀ j, w.frozen? ⟨vb, j, none⟩ = false := fun j =>
    World.ownsRow.frozenAt (w := w) (base := 0) (e := 84) (size := 3) (n := 1) (cap := 1) (xs := ys) ⟨by omega, .inr ⟨vb, 1, ys.toArray, rfl, Nat.zero_le _, hv, Nat.le_refl _, by unfold maxLen; omega, by simp [hyl], by show List.take (1 * 3) ys = ys; exact List.take_of_length_le (by omega)⟩⟩ j
  have hov : ∀ lb cb, (callFunc 66 #[.slice (some ⟨vb, 0, none⟩) 1 1, .slice (some ⟨g, (i + 1) * 3, none⟩) lb cb]).run Tryz.prog w = .ok (.value (.bool false)) w := fun lb cb => by
    rw [run_callFunc_extern Tryz.func66 (by kernel_rfl) (by kernel_rfl) (by kernel_rfl) (e := Extern.SlicesOverlaps.overlaps #[29, 29] #[4]) (by kernel_rfl),
      Lib.run_overlaps_apart w 29 4 84 t28 3 (fun w => by kernel_rfl) ⟨vb, 0, none⟩ ⟨g, (i + 1) * 3, none⟩ 1 1 lb cb hvb 84 84 3 (cap * 3) (by simp [World.shape?, hv, hyl]) (by simp [World.shape?, hg, hcs]) (by omega) (hvf 0) (hvf 3)]
    rfl
  have hdl : (xs.drop (i * 3)).length = (n - i) * 3 := by rw [List.length_drop, hxl, Nat.sub_mul]
  have hcp1 : ∀ ty dc sc, (Builtin.copy_ #[29, 29] ty #[.slice (some ⟨g, (i + 1) * 3, none⟩) (n + 1 - (i + 1)) dc, .slice (some ⟨g, i * 3, none⟩) (n + 1 - i) sc]).run Tryz.prog w.drew = .ok (goInt (Nat.min (n + 1 - i) (n + 1 - (i + 1)))) (w.drew.setCells g ((i + 1) * 3) (xs.drop (i * 3))) := fun ty dc sc =>
    run_copy_s w.drew _ _ ty 84 3 g ((i + 1) * 3) (n + 1 - (i + 1)) dc ⟨g, i * 3, none⟩ (n + 1 - i) sc (xs.drop (i * 3)) t28 hsz (by rw [hdl]; simp only [Nat.min_def]; split <;> omega)
      (fun j v hj => by
        have hj' := (List.getElem?_eq_some_iff.1 hj).1
        rw [hdl] at hj'
        rw [Addr.add_lit]
        show w.cell? ⟨g, i * 3 + j, none⟩ = some v
        rw [hcell _ (by omega), ← hj, List.getElem?_drop])
      (fun j hj => hsome _ (by rw [hdl] at hj; omega)) (fun j hj => hfz _) (fun v hv => h1 v (List.mem_of_mem_drop hv))
  obtain ⟨W1, hW1⟩ : ∃ W1, W1 = w.drew.setCells g ((i + 1) * 3) (xs.drop (i * 3)) := ⟨_, rfl⟩
  obtain ⟨s1, s2, s3, _⟩ := setCells_heap g (xs.drop (i * 3)) ((i + 1) * 3) w.drew cur _ hg (by rw [hdl, hcs]; omega)
  rw [← hW1] at s1 s2 s3 hcp1
  have hcp2 : ∀ (W : World), (∀ x, W.cell? x = W1.cell? x) → (∀ x, W.frozen? x = W1.frozen? x) → ∀ ty dc, (Builtin.copy_ #[29, 29] ty #[.slice (some ⟨g, i * 3, none⟩) (n + 1 - i) dc, .slice (some ⟨vb, 0, none⟩) 1 1]).run Tryz.prog W = .ok (goInt (Nat.min 1 (n + 1 - i))) (W.setCells g (i * 3) ys) := fun W hWc hWf ty dc =>
    run_copy_s W _ _ ty 84 3 g (i * 3) (n + 1 - i) dc ⟨vb, 0, none⟩ 1 1 ys t28 hsz (by rw [hyl]; simp only [Nat.min_def]; split <;> omega)
      (fun j v hj => by
        rw [Addr.add_lit, hWc, Nat.zero_add, World.cell?_of_block (w := w) (a := ⟨vb, j, none⟩) (s2 vb hvb)]
        exact hvc j v hj)
      (fun j hj => by
        rw [hWc, cell_of_row W1 g _ _ _ (0, 0) s1, Array.getElem?_eq_getElem (by simp only [List.size_toArray, List.length_append, List.length_take, List.length_drop, Array.length_toList, hcs, hxl]; omega)]; rfl)
      (fun j hj => by rw [hWf, hW1, World.frozen?_setCells]; exact hfz _) h1y
  have HW : Hid (W1 = w.drew.setCells g ((i + 1) * 3) (xs.drop (i * 3))) := hW1
  have hz2 : ((i : Int) == (n : Int)) = false := by simp; omega
  have hz3 : ¬ ((cap : Int) < (n : Int) + 1) := by omega
  have hb1 : (0 : Int) ≤ (i : Int) + 1 := by omega
  have hw1 : IntKind.i64.wrap ((i : Int) + 1) = (i : Int) + 1 := by rw [IntKind.wrap_i64]; unfold maxLen at hcm; omega
  have hin : i ≤ n := by omega
  have hin1 : i + 1 ≤ n + 1 := by omega
  have hin2 : i ≤ n + 1 := by omega
  have htn : ((i : Int) + 1).toNat = i + 1 := by omega
  have hb2 : ¬ (cap = i + 1) := by omega
  have hb3 : (i : Int) ≤ (n : Int) + 1 := by omega
  have hb4 : ¬ (cap = i) := by omega
  have hb5 : (i : Int) + 1 ≤ (n : Int) + 1 := by omega
  unfold maxLen at hcm
  clear hW1 hcell hsome hfz hvc hvf hdl s1 s2 s3 hg hcs ht hxl h1 hv hyl h1y
  go_enter Tryz.func45, Tryz.ntmps45
  go_wp2_with (simp only [hov])
  go_region_law (refine step_copy_run rfl _ _ 29 29 rfl (.slice (some ⟨g, (i + 1) * 3, none⟩) (n + 1 - (i + 1)) (cap - (i + 1))) (.slice (some ⟨g, i * 3, none⟩) (n + 1 - i) (cap - i)) (by simp [Act.eval, Act.put]) (by simp [Act.eval, Act.put]) (hcp1 3 (cap - (i + 1)) (cap - i)) ?_)
  all_goals
    go_wp2_with (at_builtin; refine wpList_copy_run _ rfl _ _ 29 29 rfl _ _ rfl rfl (hcp2 _ (fun _ => rfl) (fun _ => rfl) _ _) ?_)
    go_ret
    exact ⟨rfl, by rw [HW.out]⟩

set_option maxHeartbeats 8000000 in
set_option maxRecDepth 100000 in
/-- There is no room, and it isn't the last one: a new row. -/
theorem insert_grow (g cap n i vb : Nat) (xs ys : List Value) (cur : Array Value) (w : World) (hg : w.heap[g]? = some (.cells cur 84 (0, 0))) (hcm : cap ≤ maxLen) (hn : n ≤ cap) (ht : cur.toList.take (n * 3) = xs) (hxl : xs.length = n * 3) (h1 : ∀ u ∈ xs, u.oneCell' = true) (hi : i < n) (hroom : cap < n + 1) (hbig : n + 1 ≤ 1000000)
    (hv : w.heap[vb]? = some (.cells ys.toArray 84 (0, 0))) (hyl : ys.length = 3) (h1y : ∀ u ∈ ys, u.oneCell' = true) :
    Calls Tryz.prog 45 #[.slice (some ⟨g, 0, none⟩) n cap, .int .i64 (i : Int), .slice (some ⟨vb, 0, none⟩) 1 1] w fun e w' =>
      ∃ (G : Nat) (ROW : Array Value), n + 1 ≤ G ∧ G ≤ maxLen ∧ ROW.size = G * 3 ∧ ROW.toList.take (i * 3) = xs.take (i * 3) ∧ e = .returned (.slice (some ⟨w.heap.size, 0, none⟩) (n + 1) G) ∧ w' = (((w.alloc (.cells ROW 84)).drew.setCells w.heap.size (i * 3) ys).drew).setCells w.heap.size ((i + 1) * 3) (xs.drop (i * 3)) := by
  have t28 := Tryz.underlying29
  have t3 := Tryz.underlying3
  obtain ⟨i0, hi0, hz0, hzs, hzb⟩ := info_parts info30
  have hsz : (Tryz.prog.info? 84).map (·.size) = some 3 := by rw [hi0]; simp [hzs]
  have hgw : g < w.heap.size := (Array.getElem?_eq_some_iff.1 hg).1
  have hvw : vb < w.heap.size := (Array.getElem?_eq_some_iff.1 hv).1
  have hcell : ∀ j, j < n * 3 → w.cell? ⟨g, j, none⟩ = xs[j]? := fun j hj => by
    rw [cell_of_row w g j cur _ (0, 0) hg, ← Array.getElem?_toList, ← ht, List.getElem?_take, if_pos hj]
  have hvc : ∀ j v, ys[j]? = some v → w.cell? ⟨vb, j, none⟩ = some v := fun j v hj => by
    rw [cell_of_row w vb j _ _ (0, 0) hv]; simpa using hj
  have hold : (Builtin.firstCells i0.size i (.slice (some ⟨g, 0, none⟩) i cap)).run Tryz.prog w.drew = .ok (xs.take (i * 3)).toArray w.drew := by
    rw [hzs]
    exact run_firstCells_some w.drew 3 i ⟨g, 0, none⟩ i cap (xs.take (i * 3)) (by rw [List.length_take, hxl]; omega) (fun j v hj => by
      rw [Addr.add_lit, Nat.zero_add]
      rw [List.getElem?_take] at hj
      split at hj
      · rename_i hlt
        exact (hcell j (by omega)).trans hj
      · cases hj)
  have hkk : (n : Int) + 1 - (i : Int) = ((n + 1 - i : Nat) : Int) := by omega
  have hik : i + (n + 1 - i) = n + 1 := by omega
  have hrz : ∀ ty, (Builtin.append_ #[29, 3] ty #[.slice (some ⟨g, 0, none⟩) i cap, .int .i64 ((n : Int) + 1 - (i : Int))]).run Tryz.prog w =
      .ok (.slice (some ⟨w.heap.size, 0, none⟩) (n + 1) (grownCap w (n + 1) cap 84)) (w.drew.alloc (.cells ((xs.take (i * 3)).toArray ++ Builtin.zeroCells (Value.agg #[.string ByteArray.empty, .int .i64 0, .slice none 0 0]).cells (n + 1 - i) ++ Builtin.zeroCells (Value.agg #[.string ByteArray.empty, .int .i64 0, .slice none 0 0]).cells (grownCap w (n + 1) cap 84 - (n + 1))) 84)) := fun ty => by
    have h := Lib.run_append_grow_zeros w 29 3 ty 84 i0 _ .i64 .i64 t28 t3 hi0 hz0 (some ⟨g, 0, none⟩) i cap (xs.take (i * 3)) hold (n + 1 - i) (by omega) (by omega) (by omega) (by omega) (by rw [hzb]; omega) (by rw [hzb, hik]; exact growslice_fits hroom (by omega))
    rw [hik] at h
    rw [hkk]
    exact h
  have hGn : n + 1 ≤ grownCap w (n + 1) cap 84 := grownCap_ge w _ _ _
  have hGm : grownCap w (n + 1) cap 84 ≤ maxLen := grownCap_le_maxLen w (n + 1) cap 84 (by unfold maxLen; omega)
  obtain ⟨G, hG⟩ : ∃ G, G = grownCap w (n + 1) cap 84 := ⟨_, rfl⟩
  rw [← hG] at hrz hGn hGm
  obtain ⟨ROW, hROW⟩ : ∃ ROW : Array Value, ROW = (xs.take (i * 3)).toArray ++ Builtin.zeroCells (Value.agg #[.string ByteArray.empty, .int .i64 0, .slice none 0 0]).cells (n + 1 - i) ++ Builtin.zeroCells (Value.agg #[.string ByteArray.empty, .int .i64 0, .slice none 0 0]).cells (G - (n + 1)) := ⟨_, rfl⟩
  rw [← hROW] at hrz
  have hzz : ∀ k, (Builtin.zeroCells (Value.agg #[.string ByteArray.empty, .int .i64 0, .slice none 0 0]).cells k).size = k * 3 := fun k => by
    simp [Builtin.zeroCells, Value.cells]
  have HRS : Hid (ROW.size = G * 3) := by
    show _ = _
    rw [hROW, Array.size_append, Array.size_append, hzz, hzz]
    simp only [List.size_toArray, List.length_take, hxl]
    omega
  have HRT : Hid (ROW.toList.take (i * 3) = xs.take (i * 3)) := by
    show _ = _
    rw [hROW, Array.toList_append, Array.toList_append, List.append_assoc, List.take_left' (by simp [hxl]; omega)]
  obtain ⟨W1, hW1⟩ : ∃ W1, W1 = w.drew.alloc (.cells ROW 84) := ⟨_, rfl⟩
  rw [← hW1] at hrz
  have hN : ∀ j, j < G * 3 → (W1.cell? ⟨w.heap.size, j, none⟩).isSome = true := fun j hj => by
    rw [hW1, World.cell?_alloc_at (w := w.drew) ROW _ w.heap.size j rfl, Array.getElem?_eq_getElem (by rw [HRS.out]; exact hj)]; rfl
  have hNf : ∀ j, W1.frozen? ⟨w.heap.size, j, none⟩ = false := fun j => by rw [hW1]; exact World.frozen?_alloc_at (w := w.drew) ROW _ w.heap.size j rfl
  have hOb : ∀ j v, w.cell? ⟨g, j, none⟩ = some v → W1.cell? ⟨g, j, none⟩ = some v := fun j v h => by rw [hW1, World.cell?_alloc_past (w := w.drew) _ g j hgw]; exact h
  have hOv : ∀ j v, w.cell? ⟨vb, j, none⟩ = some v → W1.cell? ⟨vb, j, none⟩ = some v := fun j v h => by rw [hW1, World.cell?_alloc_past (w := w.drew) _ vb j hvw]; exact h
  have hdl : (xs.drop (i * 3)).length = (n - i) * 3 := by rw [List.length_drop, hxl, Nat.sub_mul]
  have hcpA : ∀ (W : World), (∀ x, W.cell? x = W1.cell? x) → (∀ x, W.frozen? x = W1.frozen? x) → ∀ ty dc, (Builtin.copy_ #[29, 29] ty #[.slice (some ⟨w.heap.size, i * 3, none⟩) (n + 1 - i) dc, .slice (some ⟨vb, 0, none⟩) 1 1]).run Tryz.prog W = .ok (goInt (Nat.min 1 (n + 1 - i))) (W.setCells w.heap.size (i * 3) ys) := fun W hWc hWf ty dc =>
    run_copy_s W _ _ ty 84 3 w.heap.size (i * 3) (n + 1 - i) dc ⟨vb, 0, none⟩ 1 1 ys t28 hsz (by rw [hyl]; simp only [Nat.min_def]; split <;> omega)
      (fun j v hj => by rw [Addr.add_lit, hWc, Nat.zero_add]; exact hOv _ v (hvc j v hj))
      (fun j hj => by rw [hWc]; exact hN _ (by omega)) (fun j hj => by rw [hWf]; exact hNf _) h1y
  have hbN : g ≠ w.heap.size := by omega
  have hsc : ∀ j, j < G * 3 → ((W1.setCells w.heap.size (i * 3) ys).cell? ⟨w.heap.size, j, none⟩).isSome = true := fun j hj => by
    have hh : W1.heap[w.heap.size]? = some (.cells ROW 84 (0, 0)) := by rw [hW1]; exact heap_alloc_new w.drew _
    obtain ⟨s1, _⟩ := setCells_heap w.heap.size ys (i * 3) W1 ROW _ hh (by rw [HRS.out, hyl]; omega)
    rw [cell_of_row _ w.heap.size _ _ _ (0, 0) s1, Array.getElem?_eq_getElem (by
      have := HRS.out
      simp only [List.size_toArray, List.length_append, List.length_take, List.length_drop, Array.length_toList, this, hyl]
      omega)]; rfl
  have hcpB : ∀ (W : World), (∀ x, W.cell? x = (W1.setCells w.heap.size (i * 3) ys).cell? x) → (∀ x, W.frozen? x = (W1.setCells w.heap.size (i * 3) ys).frozen? x) → ∀ ty dc sc, (Builtin.copy_ #[29, 29] ty #[.slice (some ⟨w.heap.size, (i + 1) * 3, none⟩) (n + 1 - (i + 1)) dc, .slice (some ⟨g, i * 3, none⟩) (n - i) sc]).run Tryz.prog W = .ok (goInt (Nat.min (n - i) (n + 1 - (i + 1)))) (W.setCells w.heap.size ((i + 1) * 3) (xs.drop (i * 3))) := fun W hWc hWf ty dc sc =>
    run_copy_s W _ _ ty 84 3 w.heap.size ((i + 1) * 3) (n + 1 - (i + 1)) dc ⟨g, i * 3, none⟩ (n - i) sc (xs.drop (i * 3)) t28 hsz (by rw [hdl]; simp only [Nat.min_def]; split <;> omega)
      (fun j v hj => by
        have hj' := (List.getElem?_eq_some_iff.1 hj).1
        rw [hdl] at hj'
        rw [Addr.add_lit, hWc, World.cell?_setCells_out _ _ _ _ _ (fun h _ => absurd h hbN)]
        exact hOb _ v (by rw [hcell _ (by omega), ← hj, List.getElem?_drop]))
      (fun j hj => by rw [hWc]; exact hsc _ (by rw [hdl] at hj; omega))
      (fun j hj => by rw [hWf, World.frozen?_setCells]; exact hNf _) (fun v hv => h1 v (List.mem_of_mem_drop hv))
  subst hW1
  have hE1 : ∀ x, ((w.alloc (.cells ROW 84)).drew).cell? x = (w.drew.alloc (.cells ROW 84)).cell? x := fun x => rfl
  have hE2 : ∀ x, ((w.alloc (.cells ROW 84)).drew).frozen? x = (w.drew.alloc (.cells ROW 84)).frozen? x := fun x => rfl
  have hF1 : ∀ x, (((w.alloc (.cells ROW 84)).drew.setCells w.heap.size (i * 3) ys).drew).cell? x = ((w.drew.alloc (.cells ROW 84)).setCells w.heap.size (i * 3) ys).cell? x := fun x => rfl
  have hF2 : ∀ x, (((w.alloc (.cells ROW 84)).drew.setCells w.heap.size (i * 3) ys).drew).frozen? x = ((w.drew.alloc (.cells ROW 84)).setCells w.heap.size (i * 3) ys).frozen? x := fun x => rfl
  have HGM : Hid (G ≤ maxLen) := hGm
  have hz2 : ((i : Int) == (n : Int)) = false := by simp; omega
  have hz3 : (cap : Int) < (n : Int) + 1 := by omega
  have hGi : ¬ (G = i) := by omega
  have hGim : ¬ (G = i + 1) := by omega
  have hci : ¬ (cap = i) := by omega
  have hb1 : (0 : Int) ≤ (i : Int) + 1 := by omega
  have hw1 : IntKind.i64.wrap ((i : Int) + 1) = (i : Int) + 1 := by rw [IntKind.wrap_i64]; unfold maxLen at hcm; omega
  have hin : i ≤ n := by omega
  have hic : i ≤ cap := by omega
  have htn : ((i : Int) + 1).toNat = i + 1 := by omega
  have hb3 : (i : Int) ≤ (n : Int) := by omega
  have hb5 : (i : Int) + 1 ≤ (n : Int) + 1 := by omega
  have hin1 : i + 1 ≤ n + 1 := by omega
  have hin2 : i ≤ n + 1 := by omega
  unfold maxLen at hcm hGm
  clear hkk hik hold hROW hG hcell hvc hzz hN hNf hOb hOv hdl hsc hg ht hxl h1 hv hyl h1y
  go_enter Tryz.func45, Tryz.ntmps45
  go_wp2_with (first
    | (at_builtin; refine Lib.wpList_append_run _ rfl _ _ _ _ rfl _ _ rfl rfl _ _ (hrz _) ?_)
    | (at_builtin; refine wpList_copy_run _ rfl _ _ 29 29 rfl _ _ rfl rfl (hcpA _ hE1 hE2 _ _) ?_))
  go_region_law (refine step_copy_run rfl _ _ 29 29 rfl (.slice (some ⟨w.heap.size, (i + 1) * 3, none⟩) (n + 1 - (i + 1)) (G - (i + 1))) (.slice (some ⟨g, i * 3, none⟩) (n - i) (cap - i)) (by simp [Act.eval, Act.put]) (by simp [Act.eval, Act.put]) (hcpB _ hF1 hF2 3 (G - (i + 1)) (cap - i)) ?_)
  all_goals
    go_wp2
    go_ret
    exact ⟨G, ROW, by omega, HGM.out, HRS.out, HRT.out, rfl, rfl⟩
end Go.Proofs.YtlpgdfdadkljfaaGreat.Cat
