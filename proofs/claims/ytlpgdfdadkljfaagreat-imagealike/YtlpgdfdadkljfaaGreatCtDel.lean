/-
  One snapshot less: the library's Delete over the catalog's row.
-/
import Derived.Test.YtlpgdfdadkljfaaGreatMgF
import Derived.Deep.RegionLaw
namespace Go.Proofs.YtlpgdfdadkljfaaGreat.Cat
open Go.RowKit Route Tree

theorem zero52 (w : World) : (zeroValue 71).run Tryz.prog w = .ok (.agg #[.int .i64 0, .string ⟨#[]⟩, .bool false, .slice none 0 0]) w := by kernel_rfl

/-- The cells of one that isn't there any more. -/
def gone4 : List Value := [.int .i64 0, .string ⟨#[]⟩, .bool false, .slice none 0 0]
theorem gone4_is : (Builtin.zeroCells (Value.agg #[.int .i64 0, .string ⟨#[]⟩, .bool false, .slice none 0 0]).cells 1).toList = gone4 := by first | kernel_rfl | decide | simp [Builtin.zeroCells, Value.cells, gone4, Array.range]

theorem scells_one (Z : List SZ) : ∀ u ∈ scells Z, u.oneCell' = true := by
  intro u hu
  simp only [scells, List.mem_flatMap] at hu
  obtain ⟨z, _, hu⟩ := hu
  simp [encS] at hu
  rcases hu with rfl | rfl | rfl | rfl
  · rfl
  · rfl
  · rfl
  · exact fix_one _

theorem scells_drop (Z : List SZ) (i : Nat) : scells (Z.drop i) = (scells Z).drop (i * 4) := by
  have h : scells Z = scells (Z.take i) ++ scells (Z.drop i) := by rw [← scells_app, List.take_append_drop]
  by_cases hi : i ≤ Z.length
  · rw [h, List.drop_left' (by rw [scells_len, List.length_take, Nat.min_eq_left hi])]
  · rw [List.drop_eq_nil_of_le (by omega), List.drop_eq_nil_of_le (by rw [scells_len]; omega)]
    rfl
theorem scells_take (Z : List SZ) (i : Nat) : scells (Z.take i) = (scells Z).take (i * 4) := by
  have h : scells Z = scells (Z.take i) ++ scells (Z.drop i) := by rw [← scells_app, List.take_append_drop]
  by_cases hi : i ≤ Z.length
  · rw [h, List.take_left' (by rw [scells_len, List.length_take, Nat.min_eq_left hi])]
  · rw [List.take_of_length_le (by omega), List.take_of_length_le (by rw [scells_len]; omega)]

set_option maxHeartbeats 8000000 in
set_option maxRecDepth 100000 in
/-- In memory: what stood behind the i-th moves up by one, and the last place is emptied. -/
theorem delete_run (g cap n i : Nat) (xs : List Value) (cur : Array Value) (w : World) (hg : w.heap[g]? = some (.cells cur 71 (0, 0))) (hn : n ≤ cap) (hm : cap ≤ maxLen) (hcs : cur.size = cap * 4) (ht : cur.toList.take (n * 4) = xs) (hxl : xs.length = n * 4) (h1 : ∀ u ∈ xs, u.oneCell' = true) (hi : i < n) :
    Calls Tryz.prog 47 #[.slice (some ⟨g, 0, none⟩) n cap, .int .i64 (i : Int), .int .i64 ((i : Int) + 1)] w fun e w' =>
      e = .returned (.slice (some ⟨g, 0, none⟩) (n - 1) cap) ∧ ∃ q, w' = ((w.drewN q).setCells g (i * 4) (xs.drop ((i + 1) * 4))).setCells g ((n - 1) * 4) gone4 := by
  obtain ⟨i0, hi0, hz0, hz1, hz2⟩ := info_parts info52
  have t42 := Tryz.underlying44
  have hcell : ∀ j, j < n * 4 → w.cell? ⟨g, j, none⟩ = xs[j]? := fun j hj => by
    rw [cell_of_row w g j cur _ (0, 0) hg, ← Array.getElem?_toList, ← ht, List.getElem?_take, if_pos hj]
  have hfz : ∀ j, w.frozen? ⟨g, j, none⟩ = false := fun j => by
    have := World.ownsRow.frozenAt (w := w) (base := 0) (e := 71) (size := 4) (n := n) (xs := xs) ⟨hxl, .inr ⟨g, cap, cur, rfl, Nat.zero_le _, hg, hn, hm, hcs, ht⟩⟩ j
    exact this
  obtain ⟨news, hnews⟩ : ∃ news, news = xs.drop ((i + 1) * 4) := ⟨_, rfl⟩
  have hnl : news.length = (n - (i + 1)) * 4 := by rw [hnews, List.length_drop, hxl, Nat.sub_mul]
  obtain ⟨A, hA, hsrc⟩ : ∃ A : Addr, (if cap = i + 1 then some (⟨g, 0, none⟩ : Addr) else some ⟨g, (i + 1) * 4, none⟩) = some A ∧ Hid (∀ j u, news[j]? = some u → w.drew.cell? (A.add j) = some u) := by
    by_cases h : cap = i + 1
    · refine ⟨⟨g, 0, none⟩, by rw [if_pos h], fun j u hu => ?_⟩
      have h0 : news.length = 0 := by rw [hnl]; omega
      rw [List.length_eq_zero_iff.1 h0] at hu
      simp at hu
    · refine ⟨⟨g, (i + 1) * 4, none⟩, by rw [if_neg h], fun j u hu => ?_⟩
      have hj : j < news.length := (List.getElem?_eq_some_iff.1 hu).1
      rw [Addr.add_lit]
      have := hcell ((i + 1) * 4 + j) (by rw [hnl] at hj; omega)
      rw [hnews, List.getElem?_drop] at hu
      exact this.trans hu
  have HNL : Hid (news.length = (n - (i + 1)) * 4) := hnl
  have HN1 : Hid (∀ u ∈ news, u.oneCell' = true) := fun u hu => h1 u (by rw [hnews] at hu; exact List.mem_of_mem_drop hu)
  have HSP : Hid (∀ j, j < news.length → (w.drew.cell? ⟨g, 0 + i * 4 + j, none⟩).isSome = true ∧ w.drew.frozen? ⟨g, 0 + i * 4 + j, none⟩ = false) := fun j hj => by
    refine ⟨?_, hfz _⟩
    show (w.cell? _).isSome = true
    rw [Nat.zero_add, hcell _ (by rw [hnl] at hj; omega), List.getElem?_eq_getElem (by rw [hxl]; rw [hnl] at hj; omega)]
    rfl
  obtain ⟨W1, hW1⟩ : ∃ W1, W1 = w.drew.setCells g (i * 4) news := ⟨_, rfl⟩
  obtain ⟨s1, s2, s3, _⟩ := setCells_heap g news (i * 4) w.drew cur _ hg (by rw [hnl, hcs]; omega)
  rw [← hW1] at s1 s2 s3
  have hee : i + (n - (i + 1)) = n - 1 := by omega
  have hcl : ∀ ty c, (Builtin.clear_ #[44] ty #[.slice (some ⟨g, (n - 1) * 4, none⟩) 1 c]).run Tryz.prog W1 = .ok (.tuple #[]) (W1.setCells g ((n - 1) * 4) gone4) := fun ty c =>
    run_clear_s W1 _ _ ty _ t42 zero52 g ((n - 1) * 4) 1 c (by omega) gone4 gone4_is (by intro v hv; simp [gone4] at hv; rcases hv with rfl | rfl | rfl | rfl <;> rfl)
      (fun j hj => by
        have : j < 4 := by simpa [gone4] using hj
        rw [cell_of_row W1 g _ _ _ (0, 0) s1]
        rw [Array.getElem?_eq_getElem (by simp; omega)]; rfl)
      (fun j hj => by
        have := hfz ((n - 1) * 4 + j)
        rw [hW1, World.frozen?_setCells]; exact this)
  have hcl2 : ∀ ty c, (Builtin.clear_ #[44] ty #[.slice (some ⟨g, (i + (n - (i + 1))) * 4, none⟩) (n - (i + (n - (i + 1)))) c]).run Tryz.prog W1 = .ok (.tuple #[]) (W1.setCells g ((n - 1) * 4) gone4) := fun ty c => by
    rw [hee, show n - (n - 1) = 1 by omega]; exact hcl ty c
  have HEE : Hid (i + (n - (i + 1)) = n - 1) := hee
  have HW : Hid (W1 = w.drew.setCells g (i * 4) news) := hW1
  have HE : Hid (news = xs.drop ((i + 1) * 4)) := hnews
  clear hW1 hnews hnl hcell hfz s1 s2 s3 hg hcs ht hxl h1 hcl hee
  have hd : ((i : Int) == (i : Int) + 1) = false := by simp; omega
  have hic : i ≤ cap := by omega
  have hic1 : i + 1 ≤ cap := by omega
  have hin1 : i + 1 ≤ n := by omega
  have hin2 : (i : Int) + 1 ≤ (n : Int) := by omega
  have hin3 : (0 : Int) ≤ (i : Int) + 1 := by omega
  have hin4 : ((i : Int) + 1).toNat = i + 1 := by omega
  go_enter Tryz.func47, Tryz.ntmps47
  go_wp2_with fail
  go_region_law (refine step_append_room rfl (.tmp 22) (.tmp 25) 44 rfl 71 i0 4 t42 hi0 hz1 g 0 i cap (by simp [Act.eval, Act.put]) A (n - (i + 1)) (cap - (i + 1)) news (by simp [Act.eval, Act.put]) HNL.out hsrc.out HN1.out (by omega) HSP.out ?_; rw [Nat.zero_add, ← HW.out])
  all_goals
    go_wp2
    go_ret
    exact ⟨by first | rfl | (rw [HEE.out]; rfl), 1, by rw [HW.out, HE.out]; rfl⟩

theorem erase_cells (Z : List SZ) (i : Nat) : scells (Z.eraseIdx i) = (scells Z).take (i * 4) ++ (scells Z).drop ((i + 1) * 4) := by
  rw [List.eraseIdx_eq_take_drop_succ, scells_app, scells_take, scells_drop]

theorem delete_any {B : Nat} {v : Value} {Z : List SZ} {w : World} {i : Nat} (h : SRow B v Z w) (hi : i < Z.length) :
    Calls Tryz.prog 47 #[v, .int .i64 (i : Int), .int .i64 ((i : Int) + 1)] w fun e w' => ∃ v', e = .returned v' ∧ SRow B v' (Z.eraseIdx i) w' ∧ v'.ownBlock = v.ownBlock ∧ w.grownBy w' v.ownBlock := by
  rcases h.own.2 with ⟨rfl, h0⟩ | ⟨g, cap, cur, rfl, hb, hg, hnc, hcm, hcs, ht⟩
  · omega
  · have hxl := h.own.1
    refine (delete_run g cap Z.length i (scells Z) cur w hg hnc hcm hcs ht hxl (scells_one Z) hi).mono ?_
    rintro e w' ⟨rfl, q, rfl⟩
    have hg0 : (w.drewN q).heap[g]? = some (.cells cur 71 (0, 0)) := hg
    have hnl : ((scells Z).drop ((i + 1) * 4)).length = (Z.length - (i + 1)) * 4 := by rw [List.length_drop, hxl, Nat.sub_mul]
    obtain ⟨s1, s2, s3, s4, s5, s6⟩ := setCells_heap g ((scells Z).drop ((i + 1) * 4)) (i * 4) (w.drewN q) cur _ hg0 (by rw [hnl, hcs]; omega)
    generalize hc1 : (cur.toList.take (i * 4) ++ (scells Z).drop ((i + 1) * 4) ++ cur.toList.drop (i * 4 + ((scells Z).drop ((i + 1) * 4)).length)).toArray = cur1 at s1
    have hl1 : cur1.size = cap * 4 := by
      rw [← hc1]
      simp only [List.size_toArray, List.length_append, List.length_take, List.length_drop, Array.length_toList, hcs, hxl]
      omega
    have ht1 : cur1.toList.take ((Z.length - 1) * 4) = scells (Z.eraseIdx i) := by
      rw [← hc1, erase_cells]
      have hti : cur.toList.take (i * 4) = (scells Z).take (i * 4) := by rw [← ht, List.take_take, Nat.min_eq_left (by omega)]
      rw [hti]
      show List.take _ (_ ++ _ ++ _) = _
      rw [List.take_left' (by rw [List.length_append, hnl, List.length_take, hxl]; omega)]
    obtain ⟨r1, r2, r3, r4, r5, r6⟩ := setCells_heap g gone4 ((Z.length - 1) * 4) _ cur1 _ s1 (by rw [hl1]; simp [gone4]; omega)
    have hgr : w.grownBy (((w.drewN q).setCells g (i * 4) ((scells Z).drop ((i + 1) * 4))).setCells g ((Z.length - 1) * 4) gone4) (Value.slice (some ⟨g, 0, none⟩) Z.length cap).ownBlock :=
      ⟨r4.trans s4, r5.trans s5, r6.trans s6, by rw [r3, s3]; exact Nat.le_refl _, fun k _ hk => by
        have hne : k ≠ g := fun e => hk (by rw [e]; rfl)
        exact (r2 k hne).trans (s2 k hne)⟩
    have hel : (Z.eraseIdx i).length = Z.length - 1 := List.length_eraseIdx_of_lt hi
    refine ⟨_, rfl, ⟨?_, fun z hz => (h.ents z ((List.eraseIdx_sublist _ _).subset hz)).kept h.own hgr, h.apart.sublist (List.eraseIdx_sublist _ _)⟩, rfl, hgr⟩
    rw [hel]
    refine own_set hb r1 (by omega) hcm ?_ (by rw [← hel]; exact scells_len _) ?_
    · simp only [List.size_toArray, List.length_append, List.length_take, List.length_drop, Array.length_toList, hl1]
      simp [gone4]
      omega
    · show List.take _ (_ ++ _ ++ _) = _
      have h9 : (cur1.toList.take ((Z.length - 1) * 4)).length = (Z.length - 1) * 4 := by
        have : cur1.toList.length = cap * 4 := by rw [← hl1]; exact Array.length_toList
        rw [List.length_take, this]
        omega
      rw [List.append_assoc, List.take_left' h9, ht1]
end Go.Proofs.YtlpgdfdadkljfaaGreat.Cat
