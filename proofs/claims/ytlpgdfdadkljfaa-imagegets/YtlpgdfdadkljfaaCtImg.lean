/-
  What From wants of the texts of Do, for a seat without Do.
-/
import Derived.Test.YtlpgdfdadkljfaaCtOps
import Derived.Test.YtlpgdfdadkljfaaCtTake
namespace Go.Proofs.Ytlpgdfdadkljfaa.Cat
open Go.RowKit Route Tree Order

theorem place_no {c : Int} {nm : ByteArray} {S : List Snap} (h : ∀ s ∈ S, isOne c nm s = false) : place c nm S = none := by
  unfold place
  rw [List.findIdx?_eq_none_iff]
  exact h

def EntsFit (E : List Ent) : Prop := isTree E ∧ ∀ e ∈ E, EOk e

theorem EntsFit.ok {E : List Ent} (h : EntsFit E) : EntsOk E.length E := by
  refine ⟨rfl, by have := h.1.1; omega, fun j hj => ?_⟩
  have := h.2 _ (ent_mem hj)
  refine ⟨by have := this.1; omega, by have := this.2.1; omega, fun k hk => ?_⟩
  have := this.2.2 ((entOf E j).2.2.getD k ByteArray.empty) (by simp [List.getD_eq_getElem?_getD, hk])
  omega

theorem cat_new {B : Nat} {w : World} (hB : B ≤ w.heap.size) : Cat B w.heap.size (.slice none 0 0) [] (w.alloc (.cells #[.slice none 0 0] 60)) :=
  ⟨by exact heap_alloc_new w _, hB, World.ownsRow_nil _ _ _ _, fun z hz => by simp at hz, List.Pairwise.nil⟩

theorem new_any (w : World) : Calls Try.prog 19 #[] w fun e w' => e = .returned (.pointer (some ⟨w.heap.size, 0, none⟩)) ∧ w' = w.alloc (.cells #[.slice none 0 0] 60) := by
  go_enter Try.func19, Try.ntmps19
  go_wp2
  exact bodyPost_ret (by simp [results, Try.results19, go_sem]) rfl ⟨rfl, rfl⟩

end Go.Proofs.Ytlpgdfdadkljfaa.Cat
