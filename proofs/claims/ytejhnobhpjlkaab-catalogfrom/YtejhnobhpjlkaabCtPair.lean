/-
  Two catalogs of a law's own, apart from each other.
-/
import Derived.Test.YtejhnobhpjlkaabCtLw2
import Derived.Test.YtejhnobhpjlkaabCtAlike
namespace Go.Proofs.Ytejhnobhpjlkaab.Cat
open Go.RowKit Route Tree Order

/-- The one catalog's deed leaves the other one as it is, and they stay apart. -/
theorem apart_first {w0 w w' : World} {p p2 : Nat} {v v2 v' : Value} {Z Z2 Z' : List SZ} {r : Rq} {y : An} (h : Lw w0 p p v Z w) (h2 : Lw w0 p2 p2 v2 Z2 w) (hd : ∀ k, Owns p v Z k → ¬ Owns p2 v2 Z2 k) (hD : Did p p v Z r w y v' Z' w') :
    Lw w0 p p v' Z' w' ∧ Lw w0 p2 p2 v2 Z2 w' ∧ (∀ k, Owns p v' Z' k → ¬ Owns p2 v2 Z2 k) ∧ ∃ B1, (∀ k, Owns p2 v2 Z2 k → k < B1) ∧ AnsV B1 (full (Z.map snapOf) r).1 (.returned y.val) w' := by
  have h' := h.did hD
  refine ⟨h', ⟨h2.cat.beside h.cat hD.next fun k h1 h3 => hd k h3 h1, h2.inv, h'.bel, h2.low, Nat.le_trans h2.fit hD.next.turn.size⟩, fun k hk h3 => ?_, w.heap.size, fun k hk => (h2.cat.owns hk).2, hD.ans⟩
  rcases hD.next.owns k hk with h1 | h1
  · exact hd k h1 h3
  · have := (h2.cat.owns h3).2
    omega

/-- The other catalog's deed. -/
theorem apart_second {w0 w w' : World} {p p2 : Nat} {v v2 v' : Value} {Z Z2 Z' : List SZ} {r : Rq} {y : An} (h : Lw w0 p p v Z w) (h2 : Lw w0 p2 p2 v2 Z2 w) (hd : ∀ k, Owns p v Z k → ¬ Owns p2 v2 Z2 k) (hD : Did p2 p2 v2 Z2 r w y v' Z' w') :
    Lw w0 p p v Z w' ∧ Lw w0 p2 p2 v' Z' w' ∧ ∀ k, Owns p v Z k → ¬ Owns p2 v' Z' k := by
  have h' := h2.did hD
  refine ⟨⟨h.cat.beside h2.cat hD.next hd, h.inv, h'.bel, h.low, Nat.le_trans h.fit hD.next.turn.size⟩, h', fun k hk h3 => ?_⟩
  rcases hD.next.owns k h3 with h1 | h1
  · exact hd k hk h1
  · have := (h.cat.owns hk).2
    omega

end Go.Proofs.Ytejhnobhpjlkaab.Cat
