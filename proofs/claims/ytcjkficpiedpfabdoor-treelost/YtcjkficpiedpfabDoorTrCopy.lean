/-
  An entry in new memory: the program's 'copyOf'.
-/
import Derived.Test.YtcjkficpiedpfabDoorTrCheck2
import Derived.Deep.RegionWith
namespace Go.Proofs.YtcjkficpiedpfabDoor.Tree
open Go.RowKit Route Chunk

theorem own_far {w : World} {B g i : Nat} {x v : Value} {n : Nat} {xs : List Value} (h : w.ownsRow B 9 1 v n xs) (hg : g < B) : (w.setCell ⟨g, i, none⟩ x).ownsRow B 9 1 v n xs := by
  refine ⟨h.1, h.2.imp id fun ⟨g', cap, cur, h1, h2, h3, h4⟩ => ⟨g', cap, cur, h1, h2, ?_, h4⟩⟩
  rw [← h3, World.setCell]
  simp [Array.getElem?_modify, show g ≠ g' by omega]

/-- What lies ahead of a world stays in it where nothing below has turned. -/
theorem cell_kept {W wr : World} (hb : Below W.heap.size W wr) {x : Addr} {v : Value} (h : W.cell? x = some v) : wr.cell? x = some v := cell_below hb (Nat.le_refl _) h
end Go.Proofs.YtcjkficpiedpfabDoor.Tree
