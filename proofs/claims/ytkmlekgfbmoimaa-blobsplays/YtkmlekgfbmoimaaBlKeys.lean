/-
  The contract of Keys: all chunks, rising.
-/
import Derived.Test.YtkmlekgfbmoimaaBlPut
import Derived.Laws.MakeOwn
namespace Go.Proofs.Ytkmlekgfbmoimaa.Blobs
open Go.RowKit Route Go.Maps Go.ChangeMaps Go.Sort

/-- 'append(out, s)', with where the row lies then. -/
theorem wpList_text {ops : Array Oper} {rest : List Oper} {o : Oper} {a : Act} {Q : Exit → Act → World → Prop} (hgd : o.guard = none) (s x : Operand)
    (ho : o.op = .call { callee := .builtin .append, args := #[s, x], argTypes := #[30, 30] })
    (B : Nat) (v : Value) (l : List ByteArray) (hs : a.eval s = v) (w0 : World) (d : ByteArray) (hb : Row B w0 v l) (hB : B ≤ w0.heap.size)
    (hx : a.eval x = .slice (some ⟨w0.heap.size, 0, none⟩) 1 1) (hlen : l.length + 1 ≤ 1000000000000)
    (h : ∀ v' w', Row B w' v' (l ++ [d]) → (w0.alloc (.cells #[.string d] 9)).grownBy w' v.ownBlock → (v'.ownBlock = v.ownBlock ∨ v'.ownBlock = some (w0.heap.size + 1)) → wpList Try.prog ops Q rest (a.put o.dst v') w') : wpList Try.prog ops Q (o :: rest) a (w0.alloc (.cells #[.string d] 9)) := by
  obtain ⟨i0, hi, hz0, hz1, hz2⟩ := info_parts info9
  have hb' : (w0.alloc (.cells #[.string d] 9)).ownsRow B 9 1 v l.length (sv l) := World.ownsRow.alloc hb _
  refine wpList_append_own_at _ hgd s x 30 ho B 9 i0 (.string ByteArray.empty) 1 16 Try.underlying30 hi hz0 hz1 hz2 rfl (by decide) v l.length (sv l) hs hb' ⟨w0.heap.size, 0, none⟩ 1 1 [.string d] hx rfl ?_ ?_ (by unfold maxLen; omega) (by omega) (by simp; omega) ?_
  · intro j u hj
    match j, hj with
    | 0, hj => simp at hj; subst hj; simp [Addr.add]
    | (j + 1), hj => simp at hj
  · intro u hu; simp at hu; subst hu; rfl
  · intro v' w' ho' hg _ hat
    refine h v' w' ?_ hg (by simpa using hat)
    have e : sv (l ++ [d]) = sv l ++ [.string d] := by simp [sv]
    unfold Row
    rw [e]
    simpa using ho'

/-- Texts as the library's sort has them. -/
def raw (l : List ByteArray) : List (List UInt8) := l.map fun s => s.data.toList
def back (l : List (List UInt8)) : List ByteArray := l.map fun s => ⟨s.toArray⟩
theorem back_raw (l : List ByteArray) : back (raw l) = l := by
  simp [back, raw, Function.comp_def]
theorem sv_back (l : List (List UInt8)) : sv (back l) = l.map encStr := by
  simp [sv, back, Function.comp_def]
theorem sv_raw (l : List ByteArray) : sv l = (raw l).map encStr := by
  rw [← sv_back, back_raw]

/-- Sorted. -/
def sorted (l : List ByteArray) : List ByteArray := back ((raw l).mergeSort fun x y => decide (x ≤ y))

theorem mem_sorted' {l : List ByteArray} {s : ByteArray} : s ∈ sorted l ↔ s ∈ l := by
  have hp : (back ((raw l).mergeSort fun x y => decide (x ≤ y))).Perm (back (raw l)) := (List.mergeSort_perm _ _).map _
  rw [back_raw] at hp
  exact hp.mem_iff

theorem lt_iff {a b : ByteArray} : lt a b = true ↔ a.data.toList < b.data.toList := by
  rw [lt, less_lex, Sort.ltStr, decide_eq_true_eq, ByteArray.toList_eq, ByteArray.toList_eq]

theorem asc_sorted {l : List ByteArray} (hn : l.Nodup) : Asc (sorted l) := by
  have hp : (sorted l).Perm l := by
    have hp : (back ((raw l).mergeSort fun x y => decide (x ≤ y))).Perm (back (raw l)) := (List.mergeSort_perm _ _).map _
    rw [back_raw] at hp
    exact hp
  have hnd : (sorted l).Nodup := hp.nodup_iff.2 hn
  have hs : ((raw l).mergeSort fun x y => decide (x ≤ y)).Pairwise fun x y => x ≤ y := by
    have := List.pairwise_mergeSort (le := fun x y : List UInt8 => decide (x ≤ y)) (fun a b c h1 h2 => by
      rw [decide_eq_true_eq] at *; exact List.le_trans h1 h2) (fun a b => by
      rw [Bool.or_eq_true, decide_eq_true_eq, decide_eq_true_eq]; exact List.le_total a b) (raw l)
    exact this.imp fun h => by simpa using h
  have hs2 : (sorted l).Pairwise fun x y => x.data.toList ≤ y.data.toList := by
    refine List.pairwise_map.2 (hs.imp fun h => ?_)
    simpa using h
  refine (hs2.and hnd).imp fun {x y} h => ?_
  rw [lt_iff]
  rcases List.le_iff_lt_or_eq.1 h.1 with h1 | h1
  · exact h1
  · exact absurd (ByteArray.ext (Array.ext' h1)) h.2

theorem sorted_is {l S : List ByteArray} (hn : l.Nodup) (hS : Asc S) (h : ∀ s, s ∈ l ↔ s ∈ S) : sorted l = S :=
  asc_unique (asc_sorted hn) hS fun s => mem_sorted'.trans (h s)

theorem len_sorted (l : List ByteArray) : (sorted l).length = l.length := by
  simp [sorted, back, raw]

theorem sort_row {B : Nat} {w : World} {v : Value} {l : List ByteArray} (h : Row B w v l) (hl : l.length ≤ 1000000000) :
    Calls Try.prog 23 #[v] w fun e w' => e = .returned (.tuple #[]) ∧ Row B w' v (sorted l) ∧ w.grownBy w' v.ownBlock := by
  rcases h.2 with ⟨rfl, h0⟩ | ⟨g, cap, cur, rfl, hb, hg, hnc, hcm, hcs, ht⟩
  · have : l = [] := List.eq_nil_of_length_eq_zero h0
    subst this
    refine (Try.slices_Sort_string_none none 0 w).mono ?_
    rintro e w' ⟨rfl, rfl⟩
    exact ⟨rfl, by simpa [sorted, raw, back] using Row.nil B w', ⟨rfl, rfl, rfl, Nat.le_refl _, fun _ _ _ => rfl⟩⟩
  · have hlt : g < w.heap.size := (Array.getElem?_eq_some_iff.1 hg).1
    have hH : Holds encStr w g 0 (raw l).toArray := by
      intro j hj
      have hj' : j < l.length := by simpa [raw] using hj
      rw [Nat.zero_add]
      refine ⟨?_, World.ownsRow.frozenAt h j⟩
      rw [World.ownsRow.cellAt h j (by omega), sv_raw]
      simp [raw, hj', getElem!_pos]
    have hlen : (raw l).length = l.length := by simp [raw]
    have hc := Try.slices_Sort_string g 0 cap (raw l) w hH hlt (by omega)
    rw [hlen] at hc
    refine hc.mono ?_
    rintro e w' ⟨rfl, n, os, rfl⟩
    have hrl : ((raw l).mergeSort fun x y => decide (x ≤ y)).length = l.length := by simp [raw]
    refine ⟨rfl, ⟨by rw [sv_len, Nat.mul_one], .inr ⟨g, cap, putCells encStr 0 ((raw l).mergeSort fun x y => decide (x ≤ y)).toArray cur, by rw [len_sorted], hb, ?_, by rw [len_sorted]; omega, hcm, by simp [putCells, hcs], ?_⟩⟩, ⟨rfl, rfl, rfl, ?_, fun k hk hne => ?_⟩⟩
    · rw [heap_grow_old _ _ (by simpa [putRow, mapBlock, Sort.ahead] using hlt)]
      simp [putRow, mapBlock, Sort.ahead, Array.getElem?_modify, hg, onCells]
    · rw [sorted, sv_back]
      apply List.ext_getElem?
      intro j
      by_cases hj : j < l.length
      · have hjc : j < cur.size := by rw [hcs]; omega
        rw [List.getElem?_take_of_lt (by simpa [back, hrl] using hj), Array.getElem?_toList]
        simp [putCells, hj, hjc, raw]
      · rw [List.getElem?_take_eq_none (by simpa [back, hrl] using hj), List.getElem?_eq_none (by simpa [raw] using hj)]
    · simp [grow, putRow, mapBlock, Sort.ahead]
    · have hgk : g ≠ k := fun e => hne (by rw [e]; rfl)
      rw [heap_grow_old _ _ (by simpa [putRow, mapBlock, Sort.ahead] using hk)]
      simp [putRow, mapBlock, Sort.ahead, Array.getElem?_modify, hgk]
end Go.Proofs.Ytkmlekgfbmoimaa.Blobs
