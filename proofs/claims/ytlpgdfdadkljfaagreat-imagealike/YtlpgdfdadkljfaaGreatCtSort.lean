/-
  Texts sorted, and each once: the library's Sort and Compact over a row that a call owns.
-/
import Derived.Test.YtlpgdfdadkljfaaGreatMgF
import Derived.Test.YtlpgdfdadkljfaaGreatShelf2
namespace Go.Proofs.YtlpgdfdadkljfaaGreat.Cat
open Go.RowKit Route Tree Go.Sort

/-- Texts as the library's sort has them. -/
def raw (l : List ByteArray) : List (List UInt8) := l.map fun s => s.data.toList
def back (l : List (List UInt8)) : List ByteArray := l.map fun s => ⟨s.toArray⟩
theorem back_raw (l : List ByteArray) : back (raw l) = l := by simp [back, raw, Function.comp_def]
theorem sv_back (l : List (List UInt8)) : sv (back l) = l.map encStr := by simp [sv, back, Function.comp_def]
theorem sv_raw (l : List ByteArray) : sv l = (raw l).map encStr := by rw [← sv_back, back_raw]

theorem lt_iff {a b : ByteArray} : lt a b = true ↔ a.data.toList < b.data.toList := by
  rw [lt, less_lex, Sort.ltStr, decide_eq_true_eq, ByteArray.toList_eq, ByteArray.toList_eq]

/-- A block that the library has written over. -/
theorem put_heap {w : World} {g q : Nat} {cur : Array Value} {t : TypeId} {ys : List (List UInt8)} (hg : w.heap[g]? = some (.cells cur t (0, 0))) :
    (putRow encStr (Sort.ahead w q) g 0 ys.toArray).heap[g]? = some (.cells (putCells encStr 0 ys.toArray cur) t (0, 0)) ∧ (∀ k, k ≠ g → (putRow encStr (Sort.ahead w q) g 0 ys.toArray).heap[k]? = w.heap[k]?) ∧ (putRow encStr (Sort.ahead w q) g 0 ys.toArray).heap.size = w.heap.size := by
  refine ⟨?_, fun k hk => ?_, ?_⟩
  · simp [putRow, mapBlock, Sort.ahead, Array.getElem?_modify, hg, onCells]
  · simp [putRow, mapBlock, Sort.ahead, Array.getElem?_modify, Ne.symm hk]
  · simp [putRow, mapBlock, Sort.ahead]

theorem put_take {cur : Array Value} {ys : List (List UInt8)} {m : Nat} (hm : m ≤ ys.length) (hc : ys.length ≤ cur.size) : (putCells encStr 0 ys.toArray cur).toList.take m = (ys.take m).map encStr := by
  apply List.ext_getElem?
  intro j
  by_cases hj : j < m
  · have hjc : j < cur.size := by omega
    have hjy : j < ys.length := by omega
    rw [List.getElem?_take_of_lt hj, Array.getElem?_toList]
    simp [putCells, hj, hjc, hjy]
  · rw [List.getElem?_take_eq_none (by omega), List.getElem?_eq_none (by simp; omega)]

theorem holds_own {B : Nat} {w : World} {g cap : Nat} {l : List ByteArray} (h : w.ownsRow B 9 1 (.slice (some ⟨g, 0, none⟩) l.length cap) l.length (sv l)) : Holds encStr w g 0 (raw l).toArray := by
  intro j hj
  have hj' : j < l.length := by simpa [raw] using hj
  rw [Nat.zero_add]
  refine ⟨?_, World.ownsRow.frozenAt h j⟩
  rw [World.ownsRow.cellAt h j (by omega), sv_raw]
  simp [raw, hj', getElem!_pos]

theorem len_raw (l : List ByteArray) : (raw l).length = l.length := by simp [raw]

/-- Sorted. -/
def sorted (l : List ByteArray) : List ByteArray := back ((raw l).mergeSort fun x y => decide (x ≤ y))
theorem len_sorted (l : List ByteArray) : (sorted l).length = l.length := by simp [sorted, back, raw]
/-- Each once. -/
def single (l : List ByteArray) : List ByteArray := back (Lib.compact (raw l))

theorem compact_le (zs : List (List UInt8)) : (Lib.compact zs).length ≤ zs.length := by
  unfold Lib.compact Lib.compactUpTo
  rw [List.length_map]
  exact Nat.le_trans (List.length_filter_le _ _) (by simp)

theorem compact_mem (zs : List (List UInt8)) (x : List UInt8) : x ∈ Lib.compact zs ↔ x ∈ zs := by
  unfold Lib.compact Lib.compactUpTo
  simp only [List.mem_map, List.mem_filter, List.mem_range]
  have hat : ∀ j, j < zs.length → zs.toArray[j]! = zs[j]! := fun j hj => by simp [hj]
  constructor
  · rintro ⟨j, ⟨hj, _⟩, rfl⟩
    rw [hat j hj, getElem!_pos zs j hj]
    exact List.getElem_mem hj
  · intro hx
    obtain ⟨j, hj, rfl⟩ := List.mem_iff_getElem.1 hx
    have : ∀ j, (hj : j < zs.length) → ∃ i, (i < zs.length ∧ Lib.keeps zs.toArray i = true) ∧ zs.toArray[i]! = zs[j] := by
      intro j
      induction j with
      | zero => intro hj; exact ⟨0, ⟨hj, Lib.keeps_lt_one _ 0 (by omega)⟩, by rw [hat 0 hj, getElem!_pos zs 0 hj]⟩
      | succ j ih =>
        intro hj
        by_cases e : zs.toArray[j + 1]! = zs.toArray[j + 1 - 1]!
        · obtain ⟨i, hi, h⟩ := ih (by omega)
          refine ⟨i, hi, ?_⟩
          rw [h]
          rw [Nat.add_sub_cancel, hat (j + 1) hj, hat j (by omega), getElem!_pos zs (j + 1) hj, getElem!_pos zs j (by omega)] at e
          exact e.symm
        · exact ⟨j + 1, ⟨hj, Lib.keeps_pos e⟩, by rw [hat _ hj, getElem!_pos zs _ hj]⟩
    exact this j hj

theorem compact_asc {zs : List (List UInt8)} (hs : zs.Pairwise (· ≤ ·)) : (Lib.compact zs).Pairwise (· < ·) := by
  unfold Lib.compact Lib.compactUpTo
  rw [List.pairwise_map, List.pairwise_filter]
  refine List.Pairwise.imp_of_mem ?_ (List.pairwise_lt_range (n := zs.length))
  intro i j hi hj hij _ hk
  have hi := List.mem_range.1 hi
  have hj := List.mem_range.1 hj
  have hat : ∀ k, k < zs.length → zs.toArray[k]! = zs[k]! := fun k hk => by simp [hk]
  simp only [Lib.keeps, decide_eq_true_eq] at hk
  have hne : zs.toArray[j]! ≠ zs.toArray[j - 1]! := hk.resolve_left (by omega)
  rw [hat j hj, hat (j - 1) (by omega), getElem!_pos zs j hj, getElem!_pos zs (j - 1) (by omega)] at hne
  rw [hat i hi, hat j hj, getElem!_pos zs i hi, getElem!_pos zs j hj]
  have h2 : zs[j - 1] ≤ zs[j] := List.pairwise_iff_getElem.1 hs (j - 1) j (by omega) hj (by omega)
  have h3 : zs[j - 1] < zs[j] := by
    rcases List.le_iff_lt_or_eq.1 h2 with h | h
    · exact h
    · exact absurd h.symm hne
  by_cases e : i = j - 1
  · subst e; exact h3
  · have h1 : zs[i] ≤ zs[j - 1] := List.pairwise_iff_getElem.1 hs i (j - 1) hi (by omega) (by omega)
    rcases List.le_iff_lt_or_eq.1 h1 with h | h
    · exact List.lt_trans h h3
    · rw [h]; exact h3

/-- Sorted and each once: rising, and just those that there are. -/
theorem single_sorted (l : List ByteArray) : (single (sorted l)).Pairwise (fun a b => lt a b = true) ∧ ∀ x, x ∈ single (sorted l) ↔ x ∈ l := by
  have hr : raw (sorted l) = (raw l).mergeSort fun x y => decide (x ≤ y) := by simp [sorted, raw, back, Function.comp_def]
  have hs : ((raw l).mergeSort fun x y => decide (x ≤ y)).Pairwise fun x y => x ≤ y := by
    have := List.pairwise_mergeSort (le := fun x y : List UInt8 => decide (x ≤ y)) (fun a b c h1 h2 => by
      rw [decide_eq_true_eq] at *; exact List.le_trans h1 h2) (fun a b => by
      rw [Bool.or_eq_true, decide_eq_true_eq, decide_eq_true_eq]; exact List.le_total a b) (raw l)
    exact this.imp fun h => by simpa using h
  unfold single
  rw [hr]
  constructor
  · refine List.pairwise_map.2 ((compact_asc hs).imp fun h => ?_)
    rw [lt_iff]; simpa using h
  · intro x
    unfold back
    rw [List.mem_map]
    constructor
    · rintro ⟨y, hy, rfl⟩
      rw [compact_mem, (List.mergeSort_perm _ _).mem_iff] at hy
      obtain ⟨s, hs, rfl⟩ := List.mem_map.1 hy
      exact hs
    · intro hx
      exact ⟨x.data.toList, (compact_mem _ _).2 ((List.mergeSort_perm _ _).mem_iff.2 (List.mem_map.2 ⟨x, hx, rfl⟩)), by simp⟩

theorem sort_any {B : Nat} {v : Value} {l : List ByteArray} {W0 w : World} (h : Strs B v l W0 w) (hl : l.length ≤ 1000000000) :
    Calls Tryz.prog 50 #[v] w fun e w' => e = .returned (.tuple #[]) ∧ Strs B v (sorted l) W0 w' := by
  rcases h.1.2 with ⟨rfl, h0⟩ | ⟨g, cap, cur, rfl, hb, hg, hnc, hcm, hcs, ht⟩
  · have : l = [] := List.eq_nil_of_length_eq_zero h0
    subst this
    refine (Tryz.slices_Sort_string_none none 0 w).mono ?_
    rintro e w' ⟨rfl, rfl⟩
    exact ⟨rfl, by simpa [sorted, raw, back] using h⟩
  · have hlt : g < w.heap.size := (Array.getElem?_eq_some_iff.1 hg).1
    have hc := Tryz.slices_Sort_string g 0 cap (raw l) w (holds_own h.1) hlt (by rw [len_raw]; omega)
    rw [len_raw] at hc
    refine hc.mono ?_
    rintro e w' ⟨rfl, n, os, rfl⟩
    have hrl : ((raw l).mergeSort fun x y => decide (x ≤ y)).length = l.length := by simp [raw]
    obtain ⟨p1, p2, p3⟩ := put_heap (q := n) (ys := (raw l).mergeSort fun x y => decide (x ≤ y)) hg
    have hst := put_take (cur := cur) (ys := (raw l).mergeSort fun x y => decide (x ≤ y)) (m := l.length) (by rw [hrl]; exact Nat.le_refl _) (by rw [hrl, hcs]; omega)
    refine ⟨rfl, ⟨by rw [sv_len, Nat.mul_one], .inr ⟨g, cap, putCells encStr 0 ((raw l).mergeSort fun x y => decide (x ≤ y)).toArray cur, by rw [len_sorted], hb, ?_, by rw [len_sorted]; omega, hcm, by simp [putCells, hcs], ?_⟩⟩, ?_, ?_⟩
    · rw [heap_grow_old _ _ (by rw [p3]; exact hlt)]
      exact p1
    · rw [len_sorted, Nat.mul_one, hst, List.take_of_length_le (by rw [hrl]; exact Nat.le_refl _), sorted, sv_back]
    · refine h.2.1.trans ⟨rfl, rfl, rfl, by simp [grow, putRow, mapBlock, Sort.ahead], fun k hk => ?_⟩
      rw [heap_grow_old _ _ (by rw [p3]; have := h.2.2; omega)]
      exact p2 k (by omega)
    · have := h.2.2
      simp [grow, putRow, mapBlock, Sort.ahead]
      omega

theorem compact_any {B : Nat} {v : Value} {l : List ByteArray} {W0 w : World} (h : Strs B v l W0 w) (hl : l.length ≤ 1000000000) :
    Calls Tryz.prog 52 #[v] w fun e w' => ∃ v', e = .returned v' ∧ Strs B v' (single l) W0 w' := by
  rcases h.1.2 with ⟨rfl, h0⟩ | ⟨g, cap, cur, rfl, hb, hg, hnc, hcm, hcs, ht⟩
  · have : l = [] := List.eq_nil_of_length_eq_zero h0
    subst this
    refine (Tryz.slices_Compact_string_empty none 0 w).mono ?_
    rintro e w' ⟨rfl, rfl⟩
    exact ⟨_, rfl, by simpa [single, raw, back, Lib.compact, Lib.compactUpTo] using h⟩
  · have hlt : g < w.heap.size := (Array.getElem?_eq_some_iff.1 hg).1
    have hc := Tryz.slices_Compact_string g 0 cap (raw l) w (holds_own h.1) (by rw [len_raw]; omega) (by rw [len_raw]; exact hnc)
    rw [len_raw] at hc
    refine hc.mono ?_
    rintro e w' ⟨rfl, n, rfl⟩
    have hle := compact_le (raw l)
    rw [len_raw] at hle
    have hsl : (single l).length = (Lib.compact (raw l)).length := by simp [single, back]
    obtain ⟨p1, p2, p3⟩ := put_heap (q := n) (ys := Lib.compact (raw l) ++ List.replicate (l.length - (Lib.compact (raw l)).length) []) hg
    have hst := put_take (cur := cur) (ys := Lib.compact (raw l) ++ List.replicate (l.length - (Lib.compact (raw l)).length) []) (m := (Lib.compact (raw l)).length) (by simp) (by simp; omega)
    refine ⟨_, rfl, ⟨by rw [sv_len, Nat.mul_one], .inr ⟨g, cap, putCells encStr 0 (Lib.compact (raw l) ++ List.replicate (l.length - (Lib.compact (raw l)).length) []).toArray cur, by rw [hsl], hb, p1, by rw [hsl]; omega, hcm, by simp [putCells, hcs], ?_⟩⟩, ?_, ?_⟩
    · rw [hsl, Nat.mul_one, hst, List.take_left, single, sv_back]
    · refine h.2.1.trans ⟨rfl, rfl, rfl, by rw [p3]; exact Nat.le_refl _, fun k hk => p2 k (by omega)⟩
    · rw [p3]; exact h.2.2
end Go.Proofs.YtlpgdfdadkljfaaGreat.Cat
