/-
  A row of entries that a call owns, sorted by the library: the same entries, each ahead of the next.
-/
import Derived.Test.YtcjkficpiedpfabDoorTrRow
namespace Go.Proofs.YtcjkficpiedpfabDoor.Tree
open Go.RowKit Route Chunk Go.Sort Go.Shelf

/-- What the program's comparison tells of two entries. -/
def cf (x y : (ByteArray × Int × List ByteArray) × Value) : Int := Lib.compareBytes x.1.1.data.toList y.1.1.data.toList

set_option maxHeartbeats 1000000 in
theorem cmp_any (x y : (ByteArray × Int × List ByteArray) × Value) (W : World) :
    Calls Tryd.prog 16 #[.agg #[.string x.1.1, .int .i64 x.1.2.1, fix x.2], .agg #[.string y.1.1, .int .i64 y.1.2.1, fix y.2]] W fun e w' => e = .returned (.int .i64 (cf x y)) ∧ ∃ q os', w' = grow (W.drewN q) os' := by
  have hc := fun W => Tryd.strings_Compare x.1.1 y.1.1 W
  have hcf : cf x y = Lib.compareBytes x.1.1.data.toList y.1.1.data.toList := rfl
  rw [← hcf] at hc
  have h1 := fix_one x.2
  have h2 := fix_one y.2
  generalize fix x.2 = f1 at h1
  generalize fix y.2 = f2 at h2
  generalize cf x y = r at hc
  clear hcf
  go_enter Tryd.func16, Tryd.ntmps16
  go_wp2_with (go_at_call 17; refine (hc _).mono ?_; rintro e w' ⟨rfl, rfl⟩)
  go_ret
  exact ⟨rfl, 0, _, by rw [alloc_eq_grow, alloc_eq_grow, grow_grow]; rfl⟩

theorem compare_less : ∀ (x y : List UInt8), decide (Lib.compareBytes x y < 0) = Op.bytesLess x y
  | [], [] => by simp [Op.bytesLess, Lib.compareBytes]
  | [], _ :: _ => by simp [Op.bytesLess, Lib.compareBytes]
  | _ :: _, [] => by simp [Op.bytesLess, Lib.compareBytes]
  | a :: x, b :: y => by
    have ih := compare_less x y
    rw [Op.bytesLess, Lib.compareBytes]
    by_cases h1 : a < b
    · simp [h1]
    · by_cases h2 : b < a
      · have h3 : a ≠ b := fun e => by subst e; exact h1 h2
        simp [h1, h2, h3]
      · have h3 : a = b := UInt8.le_antisymm (UInt8.not_lt.1 h2) (UInt8.not_lt.1 h1)
        subst h3
        simp only [h1, if_false]
        rw [ih]
        simp

theorem cmp_lt (x y : (ByteArray × Int × List ByteArray) × Value) : ltOf cf x y = lt x.1.1 y.1.1 := by
  rw [ltOf, cf, compare_less, lt, ByteArray.toList_eq, ByteArray.toList_eq]

theorem cmp_swo : SWO (ltOf cf) where
  irrefl x := by rw [cmp_lt]; exact lt_irrefl _
  trans x y z h1 h2 := by rw [cmp_lt] at *; exact lt_trans h1 h2
  ntrans x y z h1 h2 := by rw [cmp_lt] at *; exact lt_ntrans h1 h2

theorem holds_row {w : World} {B g cap : Nat} {Z : List ((ByteArray × Int × List ByteArray) × Value)} (h : w.ownsRow B 37 3 (.slice (some ⟨g, 0, none⟩) Z.length cap) Z.length (cellsOf Z)) : HoldsK enc 3 w g 0 Z.toArray := by
  intro j hj
  have hj' : j < Z.length * 3 := by simpa using hj
  rw [Nat.zero_add]
  refine ⟨?_, h.frozenAt j⟩
  rw [h.cellAt j hj', ← cellsOf_flat, Array.getElem?_toList, Array.getElem?_eq_getElem (by simpa using hj'), getElem!_pos _ _ (by simpa using hj')]
  rfl

theorem grown_sorted {w : World} {g n : Nat} {os : Array Obj} (d : Array ((ByteArray × Int × List ByteArray) × Value)) : w.grownBy (sortWorldK enc 3 w g 0 n d os) (some g) := by
  refine ⟨rfl, rfl, rfl, ?_, fun k hk hne => ?_⟩
  · simp [sortWorldK, grow, putRowK, putRow, mapBlock, Sort.ahead]
  · have hgk : g ≠ k := fun e => hne (by rw [e])
    simp only [sortWorldK]
    rw [heap_grow_old _ _ (by simpa [putRowK, putRow, mapBlock, Sort.ahead] using hk)]
    simp [putRowK, putRow, mapBlock, Sort.ahead, Array.getElem?_modify, hgk]

theorem own_sorted {w : World} {B g cap n : Nat} {os : Array Obj} {Z Y : List ((ByteArray × Int × List ByteArray) × Value)} (h : w.ownsRow B 37 3 (.slice (some ⟨g, 0, none⟩) Z.length cap) Z.length (cellsOf Z)) (hl : Y.length = Z.length) :
    (sortWorldK enc 3 w g 0 n Y.toArray os).ownsRow B 37 3 (.slice (some ⟨g, 0, none⟩) Z.length cap) Y.length (cellsOf Y) := by
  rcases h.2 with ⟨e, _⟩ | ⟨g', cap', cur, e, hb, hg, hnc, hcm, hcs, ht⟩
  · simp at e
  · simp only [Value.slice.injEq, Option.some.injEq, Addr.mk.injEq, and_true, true_and] at e
    obtain ⟨rfl, rfl⟩ := e
    refine ⟨cellsOf_len Y, .inr ⟨g, cap, putCells id 0 (flatK enc 3 Y.toArray) cur, by rw [hl], hb, ?_, by omega, hcm, by simp [putCells, hcs], ?_⟩⟩
    · have hlt : g < w.heap.size := (Array.getElem?_eq_some_iff.1 hg).1
      simp only [sortWorldK]
      rw [heap_grow_old _ _ (by simpa [putRowK, putRow, mapBlock, Sort.ahead] using hlt)]
      simp [putRowK, putRow, mapBlock, Sort.ahead, Array.getElem?_modify, hg, onCells]
    · rw [← cellsOf_flat]
      apply List.ext_getElem?
      intro j
      by_cases hj : j < Y.length * 3
      · have hjc : j < cur.size := by rw [hcs]; have := Nat.mul_le_mul_right 3 hnc; omega
        rw [List.getElem?_take_of_lt hj, Array.getElem?_toList, Array.getElem?_toList]
        simp [putCells, hj, hjc]
      · rw [List.getElem?_take_eq_none (by omega), Array.getElem?_toList, Array.getElem?_eq_none (by simpa using hj)]

/-- Each ahead of the next, by their paths. -/
def SortedZ (Z : List ((ByteArray × Int × List ByteArray) × Value)) : Prop := Z.Pairwise fun x y => lt x.1.1 y.1.1 = true

theorem sort_ents (v : Value) (Z : List ((ByteArray × Int × List ByteArray) × Value)) (B : Nat) (W0 w : World) (hb : Ents B v Z W0 w) (hd : Z.Pairwise fun x y => x.1.1 ≠ y.1.1) (hn : Z.length ≤ 1000) :
    Calls Tryd.prog 15 #[v, .func (.func 16) #[] #[]] w fun e w' => e = .returned (.tuple #[]) ∧ ∃ Y, Y.Perm Z ∧ SortedZ Y ∧ Ents B v Y W0 w' := by
  have hone : ∀ x : (ByteArray × Int × List ByteArray) × Value, ∀ u ∈ enc x, u.oneCell' = true := by
    intro x u hu
    simp only [enc, List.mem_cons, List.not_mem_nil, or_false] at hu
    rcases hu with rfl | rfl | rfl
    · rfl
    · rfl
    · exact fix_one _
  rcases hb.1.2 with ⟨rfl, h0⟩ | ⟨g, cap, cur, rfl, hBg, hg, hnc, hcm, hcs, ht⟩
  · have hZ : Z = [] := List.eq_nil_of_length_eq_zero h0
    subst hZ
    refine (AnyF.slices_SortFunc_none (P := Tryd.prog) (ρ := Tryd.sortEnt_ren) { Tryd.sortEnt with } none 0 (.func (.func 16) #[] #[]) w).mono ?_
    rintro e w' ⟨rfl, rfl⟩
    exact ⟨rfl, [], List.Perm.nil, List.Pairwise.nil, hb⟩
  · have eg : ∀ args w, (callFunc 16 args).run Tryd.prog w = .ok (.enter 16 args) w := enters_of Tryd.func16 (by kernel_rfl) rfl
    have hlt : g < w.heap.size := (Array.getElem?_eq_some_iff.1 hg).1
    have hcon := AnyQ.slices_SortFunc (P := Tryd.prog) (ρ := Tryd.sortEnt_ren) Tryd.sortEnt 3 (fun w => agg30 w) (fun w => size30 w) enc (fun _ => rfl) hone cf cmp_swo 16 #[] g 0 cap Z.toArray w eg (fun _ _ _ _ x y => cmp_any x y _) (holds_row hb.1) hlt (by simp; omega)
    refine hcon.mono ?_
    rintro e w' ⟨rfl, d', n, os, ⟨hs, _, hp⟩, hso, rfl⟩
    have hsz : d'.size = Z.length := by simpa using hs
    have hperm : d'.toList.Perm Z := by
      have e1 : d'.extract 0 Z.toArray.size = d' := by rw [← hs]; exact Array.extract_size
      have e2 : Z.toArray.extract 0 Z.toArray.size = Z.toArray := Array.extract_size
      rw [e1, e2] at hp
      simpa using hp
    refine ⟨rfl, d'.toList, hperm, ?_, ?_⟩
    · have hd' : d'.toList.Pairwise fun x y => x.1.1 ≠ y.1.1 := (hperm.pairwise_iff (fun {x y} h => h.symm)).2 hd
      refine List.pairwise_iff_getElem.2 fun i j hi hj hij => ?_
      have h1 := List.pairwise_iff_getElem.1 hd' i j hi hj hij
      have h2 := hso i j (Nat.zero_le _) hij (by simp at hj ⊢; omega)
      rw [cmp_lt, getElem!_pos _ _ (by simpa using hj), getElem!_pos _ _ (by simpa using hi)] at h2
      cases h3 : lt (d'.toList[i]).1.1 (d'.toList[j]).1.1 with
      | true => rfl
      | false => exact absurd (lt_total h3 (by simpa using h2)) h1
    · have hown := own_sorted (n := n) (os := os) (Y := d'.toList) hb.1 (by simpa using hsz)
      rw [Array.toArray_toList] at hown
      have hgr := grown_sorted (w := w) (g := g) (n := n) (os := os) d'
      exact hb.grown hown hgr (fun z hz => hb.2.2.2 z (hperm.mem_iff.1 hz))
end Go.Proofs.YtcjkficpiedpfabDoor.Tree
