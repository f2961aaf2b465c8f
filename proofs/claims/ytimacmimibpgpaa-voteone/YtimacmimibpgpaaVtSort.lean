/-
  Numbers sorted, and each once: the library's Sort and Compact over a row that a call owns.
-/
import Derived.Test.YtimacmimibpgpaaVtMem
import Derived.Test.YtimacmimibpgpaaShelf
namespace Go.Proofs.Ytimacmimibpgpaa.Vote
open Go.RowKit Go.Sort

abbrev encN : Int → Value := Value.int .i64
theorem put_heap {w : World} {g q : Nat} {cur : Array Value} {t : TypeId} {ys : List Int} (hg : w.heap[g]? = some (.cells cur t (0, 0))) :
    (putRow encN (Sort.ahead w q) g 0 ys.toArray).heap[g]? = some (.cells (putCells encN 0 ys.toArray cur) t (0, 0)) ∧ (∀ k, k ≠ g → (putRow encN (Sort.ahead w q) g 0 ys.toArray).heap[k]? = w.heap[k]?) ∧ (putRow encN (Sort.ahead w q) g 0 ys.toArray).heap.size = w.heap.size := by
  refine ⟨?_, fun k hk => ?_, ?_⟩
  · simp [putRow, mapBlock, Sort.ahead, Array.getElem?_modify, hg, onCells]
  · simp [putRow, mapBlock, Sort.ahead, Array.getElem?_modify, Ne.symm hk]
  · simp [putRow, mapBlock, Sort.ahead]

theorem put_take {cur : Array Value} {ys : List Int} {m : Nat} (hm : m ≤ ys.length) (hc : ys.length ≤ cur.size) : (putCells encN 0 ys.toArray cur).toList.take m = (ys.take m).map encN := by
  apply List.ext_getElem?
  intro j
  by_cases hj : j < m
  · have hjc : j < cur.size := by omega
    have hjy : j < ys.length := by omega
    rw [List.getElem?_take_of_lt hj, Array.getElem?_toList]
    simp [putCells, hj, hjc, hjy]
  · rw [List.getElem?_take_eq_none (by omega), List.getElem?_eq_none (by simp; omega)]

theorem holds_own {B : Nat} {w : World} {g cap : Nat} {l : List Int} (h : w.ownsRow B 3 1 (.slice (some ⟨g, 0, none⟩) l.length cap) l.length (iv l)) : Holds encN w g 0 l.toArray := by
  intro j hj
  have hj' : j < l.length := by simpa using hj
  rw [Nat.zero_add]
  refine ⟨?_, World.ownsRow.frozenAt h j⟩
  rw [World.ownsRow.cellAt h j (by omega), iv]
  simp [hj', getElem!_pos]

/-- Sorted. -/
def sorted (l : List Int) : List Int := l.mergeSort fun x y => decide (x ≤ y)
theorem len_sorted (l : List Int) : (sorted l).length = l.length := by simp [sorted]

theorem compact_le (zs : List Int) : (Lib.compact zs).length ≤ zs.length := by
  unfold Lib.compact Lib.compactUpTo
  rw [List.length_map]
  exact Nat.le_trans (List.length_filter_le _ _) (by simp)

theorem compact_mem (zs : List Int) (x : Int) : x ∈ Lib.compact zs ↔ x ∈ zs := by
  unfold Lib.compact Lib.compactUpTo
  simp only [List.mem_map, List.mem_filter, List.mem_range]
  have hat : ∀ j, j < zs.length → zs.toArray[j]! = zs[j]! := fun j hj => by simp [hj]
  constructor
  · rintro ⟨j, ⟨hj, _⟩, rfl⟩
    rw [hat j hj, getElem!_pos zs j hj]
    exact List.getElem_mem hj
  · intro hx
    obtain ⟨j, hj, rfl⟩ := List.mem_iff_getElem.1 hx
    have : ∀ j, (hj : j < zs.length) → ∃ i, (i < zs.length ∧ Lib.keeps zs.toArray i = true) ∧ zs.toArray[i]! = zs[j] := by
      intro j
      induction j with
      | zero => intro hj; exact ⟨0, ⟨hj, Lib.keeps_lt_one _ 0 (by omega)⟩, by rw [hat 0 hj, getElem!_pos zs 0 hj]⟩
      | succ j ih =>
        intro hj
        by_cases e : zs.toArray[j + 1]! = zs.toArray[j + 1 - 1]!
        · obtain ⟨i, hi, h⟩ := ih (by omega)
          refine ⟨i, hi, ?_⟩
          rw [h]
          rw [Nat.add_sub_cancel, hat (j + 1) hj, hat j (by omega), getElem!_pos zs (j + 1) hj, getElem!_pos zs j (by omega)] at e
          exact e.symm
        · exact ⟨j + 1, ⟨hj, Lib.keeps_pos e⟩, by rw [hat _ hj, getElem!_pos zs _ hj]⟩
    exact this j hj

theorem compact_asc {zs : List Int} (hs : zs.Pairwise (· ≤ ·)) : (Lib.compact zs).Pairwise (· < ·) := by
  unfold Lib.compact Lib.compactUpTo
  rw [List.pairwise_map, List.pairwise_filter]
  refine List.Pairwise.imp_of_mem ?_ (List.pairwise_lt_range (n := zs.length))
  intro i j hi hj hij _ hk
  have hi := List.mem_range.1 hi
  have hj := List.mem_range.1 hj
  have hat : ∀ k, k < zs.length → zs.toArray[k]! = zs[k]! := fun k hk => by simp [hk]
  simp only [Lib.keeps, decide_eq_true_eq] at hk
  have hne : zs.toArray[j]! ≠ zs.toArray[j - 1]! := hk.resolve_left (by omega)
  rw [hat j hj, hat (j - 1) (by omega), getElem!_pos zs j hj, getElem!_pos zs (j - 1) (by omega)] at hne
  rw [hat i hi, hat j hj, getElem!_pos zs i hi, getElem!_pos zs j hj]
  have h2 : zs[j - 1] ≤ zs[j] := List.pairwise_iff_getElem.1 hs (j - 1) j (by omega) hj (by omega)
  by_cases e : i = j - 1
  · subst e; omega
  · have h1 : zs[i] ≤ zs[j - 1] := List.pairwise_iff_getElem.1 hs i (j - 1) hi (by omega) (by omega)
    omega

/-- Sorted and each once: who says it. -/
theorem single_sorted (l : List Vt) (t : ByteArray) : Lib.compact (sorted (saying l t)) = who l t := by
  have hs : (sorted (saying l t)).Pairwise fun x y => x ≤ y := by
    have := List.pairwise_mergeSort (le := fun x y : Int => decide (x ≤ y)) (fun a b c h1 h2 => by
      rw [decide_eq_true_eq] at *; omega) (fun a b => by
      rw [Bool.or_eq_true, decide_eq_true_eq, decide_eq_true_eq]; omega) (saying l t)
    exact this.imp fun h => by simpa using h
  refine rise_unique (compact_asc hs) (rise_who l t) fun x => ?_
  rw [compact_mem, sorted, (List.mergeSort_perm _ _).mem_iff, mem_saying, mem_who]

theorem sort_any {B : Nat} {v : Value} {l : List Int} {W0 w : World} (h : Ints B v l W0 w) (hl : l.length ≤ 1000000000) :
    Calls Try.prog 14 #[v] w fun e w' => e = .returned (.tuple #[]) ∧ Ints B v (sorted l) W0 w' := by
  rcases h.1.2 with ⟨rfl, h0⟩ | ⟨g, cap, cur, rfl, hb, hg, hnc, hcm, hcs, ht⟩
  · have : l = [] := List.eq_nil_of_length_eq_zero h0
    subst this
    refine (Try.slices_Sort_int_none none 0 w).mono ?_
    rintro e w' ⟨rfl, rfl⟩
    exact ⟨rfl, by simpa [sorted] using h⟩
  · have hlt : g < w.heap.size := (Array.getElem?_eq_some_iff.1 hg).1
    have hc := Try.slices_Sort_int g 0 cap l w (holds_own h.1) hlt (by omega)
    refine hc.mono ?_
    rintro e w' ⟨rfl, n, os, rfl⟩
    have hrl : (l.mergeSort fun x y => decide (x ≤ y)).length = l.length := by simp
    obtain ⟨p1, p2, p3⟩ := put_heap (q := n) (ys := l.mergeSort fun x y => decide (x ≤ y)) hg
    have hst := put_take (cur := cur) (ys := l.mergeSort fun x y => decide (x ≤ y)) (m := l.length) (by rw [hrl]; exact Nat.le_refl _) (by rw [hrl, hcs]; omega)
    refine ⟨rfl, ⟨by rw [iv_len, Nat.mul_one], .inr ⟨g, cap, putCells encN 0 (l.mergeSort fun x y => decide (x ≤ y)).toArray cur, by rw [len_sorted], hb, ?_, by rw [len_sorted]; omega, hcm, by simp [putCells, hcs], ?_⟩⟩, ?_, ?_⟩
    · rw [heap_grow_old _ _ (by rw [p3]; exact hlt)]
      exact p1
    · rw [len_sorted, Nat.mul_one, hst, List.take_of_length_le (by rw [hrl]; exact Nat.le_refl _)]
      rfl
    · refine h.2.1.trans ⟨rfl, rfl, rfl, by simp [grow, putRow, mapBlock, Sort.ahead], fun k hk => ?_⟩
      rw [heap_grow_old _ _ (by rw [p3]; have := h.2.2; omega)]
      exact p2 k (by omega)
    · have := h.2.2
      simp [grow, putRow, mapBlock, Sort.ahead]
      omega

theorem compact_any {B : Nat} {v : Value} {l : List Int} {W0 w : World} (h : Ints B v l W0 w) (hl : l.length ≤ 1000000000) :
    Calls Try.prog 15 #[v] w fun e w' => ∃ v', e = .returned v' ∧ Ints B v' (Lib.compact l) W0 w' := by
  rcases h.1.2 with ⟨rfl, h0⟩ | ⟨g, cap, cur, rfl, hb, hg, hnc, hcm, hcs, ht⟩
  · have : l = [] := List.eq_nil_of_length_eq_zero h0
    subst this
    refine (Try.slices_Compact_int_empty none 0 w).mono ?_
    rintro e w' ⟨rfl, rfl⟩
    exact ⟨_, rfl, by simpa [Lib.compact, Lib.compactUpTo] using h⟩
  · have hlt : g < w.heap.size := (Array.getElem?_eq_some_iff.1 hg).1
    have hc := Try.slices_Compact_int g 0 cap l w (holds_own h.1) (by omega) hnc
    refine hc.mono ?_
    rintro e w' ⟨rfl, n, rfl⟩
    have hle := compact_le l
    obtain ⟨p1, p2, p3⟩ := put_heap (q := n) (ys := Lib.compact l ++ List.replicate (l.length - (Lib.compact l).length) 0) hg
    have hst := put_take (cur := cur) (ys := Lib.compact l ++ List.replicate (l.length - (Lib.compact l).length) 0) (m := (Lib.compact l).length) (by simp) (by simp; omega)
    refine ⟨_, rfl, ⟨by rw [iv_len, Nat.mul_one], .inr ⟨g, cap, putCells encN 0 (Lib.compact l ++ List.replicate (l.length - (Lib.compact l).length) 0).toArray cur, rfl, hb, p1, by omega, hcm, by simp [putCells, hcs], ?_⟩⟩, ?_, ?_⟩
    · rw [Nat.mul_one, hst, List.take_left]
      rfl
    · refine h.2.1.trans ⟨rfl, rfl, rfl, by rw [p3]; exact Nat.le_refl _, fun k hk => p2 k (by omega)⟩
    · rw [p3]; exact h.2.2
end Go.Proofs.Ytimacmimibpgpaa.Vote
