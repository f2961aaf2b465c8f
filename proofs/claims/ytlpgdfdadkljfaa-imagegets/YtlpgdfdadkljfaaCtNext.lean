/-
  What an operation leaves behind: the catalog as it is then, and what it has turned.
-/
import Derived.Test.YtlpgdfdadkljfaaCtSnaps
import Derived.Test.YtlpgdfdadkljfaaCtDel
namespace Go.Proofs.Ytlpgdfdadkljfaa.Cat
open Go.RowKit Route Tree

theorem Cat.srow {B p : Nat} {v : Value} {Z : List SZ} {w : World} (h : Cat B p v Z w) : SRow B v Z w := ⟨h.row, h.ents, h.apart⟩
theorem Cat.of {B p : Nat} {v : Value} {Z : List SZ} {w : World} (hb : w.heap[p]? = some (.cells #[v] 60 (0, 0))) (hl : B ≤ p) (h : SRow B v Z w) : Cat B p v Z w := ⟨hb, hl, h.own, h.ents, h.apart⟩

/-- The blocks that chunks' rows lie in. -/
def KB (Z : List SZ) (k : Nat) : Prop := ∃ z ∈ Z, ∃ y ∈ z.2.2.2.2, y.2.ownBlock = some k

/-- Behind an operation the catalog has v' and Z', nothing but its own blocks has turned, and its blocks are its own, or new. -/
structure Next (B p : Nat) (v : Value) (Z : List SZ) (w : World) (v' : Value) (Z' : List SZ) (w' : World) : Prop where
  cat : Cat B p v' Z' w'
  turn : Turn (Owns p v Z) w w'
  owns : ∀ k, Owns p v' Z' k → Owns p v Z k ∨ w.heap.size ≤ k
  keys : ∀ k, KB Z' k → KB Z k ∨ w.heap.size ≤ k

theorem Next.of_below {B p : Nat} {v : Value} {Z : List SZ} {w w' : World} (h : Cat B p v Z w) (hb : Below w.heap.size w w') : Next B p v Z w v Z w' := ⟨h.below hb, Turn.of_below hb, fun _ h => .inl h, fun _ h => .inl h⟩

/-- Behind memory that was made ahead. -/
theorem Next.ahead {B p : Nat} {v : Value} {Z : List SZ} {w W : World} {v' : Value} {Z' : List SZ} {w' : World} (hb : Below w.heap.size w W) (h : Next B p v Z W v' Z' w') : Next B p v Z w v' Z' w' :=
  ⟨h.cat, (Turn.of_below hb).trans h.turn, fun k hk => (h.owns k hk).imp id fun h => Nat.le_trans hb.size h, fun k hk => (h.keys k hk).imp id fun h => Nat.le_trans hb.size h⟩

theorem Next.trans {B p : Nat} {v v1 v2 : Value} {Z Z1 Z2 : List SZ} {w w1 w2 : World} (h : Next B p v Z w v1 Z1 w1) (g : Next B p v1 Z1 w1 v2 Z2 w2) : Next B p v Z w v2 Z2 w2 := by
  refine ⟨g.cat, ⟨g.turn.os.trans h.turn.os, g.turn.tape.trans h.turn.tape, g.turn.output.trans h.turn.output, Nat.le_trans h.turn.size g.turn.size, fun k hk hn => ?_⟩, fun k hk => ?_, fun k hk => ?_⟩
  · refine (g.turn.block k (Nat.lt_of_lt_of_le hk h.turn.size) fun ho => ?_).trans (h.turn.block k hk hn)
    rcases h.owns k ho with h1 | h1
    · exact hn h1
    · omega
  · rcases g.owns k hk with h1 | h1
    · exact h.owns k h1
    · exact .inr (Nat.le_trans h.turn.size h1)
  · rcases g.keys k hk with h1 | h1
    · exact h.keys k h1
    · exact .inr (Nat.le_trans h.turn.size h1)

theorem Next.below {B p : Nat} {v : Value} {Z : List SZ} {w : World} {v' : Value} {Z' : List SZ} {w' w2 : World} (h : Next B p v Z w v' Z' w') (hb : Below w'.heap.size w' w2) : Next B p v Z w v' Z' w2 := h.trans (Next.of_below h.cat hb)

/-- Blocks of another kind may turn. -/
theorem Cat.same {B p : Nat} {v : Value} {Z : List SZ} {w w' : World} {r : Nat} {cs : Array Value} {T : TypeId} {fz : Nat × Nat} (h : Cat B p v Z w) (hr : w.heap[r]? = some (.cells cs T fz)) (hT : T ≠ 60 ∧ T ≠ 52 ∧ T ≠ 57 ∧ T ≠ 9) (hk : ∀ k, k < w.heap.size → k ≠ r → w'.heap[k]? = w.heap[k]?) : Cat B p v Z w' := by
  have hne : ∀ {e : TypeId} {k : Nat} {c : Array Value} {f : Nat × Nat}, w.heap[k]? = some (.cells c e f) → T ≠ e → w'.heap[k]? = w.heap[k]? := fun {e k c f} hk1 hte => hk k (Array.getElem?_eq_some_iff.1 hk1).1 fun e1 => by
    rw [e1, hr] at hk1
    simp at hk1
    exact hte hk1.2.1
  have hrow : ∀ {e s n : Nat} {v : Value} {us : List Value}, w.ownsRow B e s v n us → T ≠ e → w'.ownsRow B e s v n us := fun {e s n v us} h1 hte => by
    refine ⟨h1.1, h1.2.imp id fun ⟨g, cap, cur, a, b, c, d⟩ => ⟨g, cap, cur, a, b, ?_, d⟩⟩
    rw [hne c hte]; exact c
  exact ⟨by rw [hne h.box hT.1]; exact h.box, h.low, hrow h.row hT.2.1, fun z hz => ⟨hrow (h.ents z hz).1 hT.2.2.1, fun y hy => hrow ((h.ents z hz).2 y hy) hT.2.2.2⟩, h.apart⟩

theorem heap_setCell {w : World} {r i : Nat} {x : Value} : (∀ k, k ≠ r → (w.setCell ⟨r, i, none⟩ x).heap[k]? = w.heap[k]?) ∧ (w.setCell ⟨r, i, none⟩ x).heap.size = w.heap.size ∧ (w.setCell ⟨r, i, none⟩ x).os = w.os ∧ (w.setCell ⟨r, i, none⟩ x).tape = w.tape ∧ (w.setCell ⟨r, i, none⟩ x).output = w.output := by
  refine ⟨fun k hk => ?_, by simp, rfl, rfl, rfl⟩
  rw [World.setCell]
  simp [Array.getElem?_modify, Ne.symm hk]

theorem heap_setCell_at {w : World} {r i : Nat} {x : Value} {cs : Array Value} {T : TypeId} {fz : Nat × Nat} (h : w.heap[r]? = some (.cells cs T fz)) : ∃ cs', (w.setCell ⟨r, i, none⟩ x).heap[r]? = some (.cells cs' T fz) := by
  refine ⟨cs.setIfInBounds i x, ?_⟩
  rw [World.setCell]
  simp [Array.getElem?_modify, h]

theorem below_set5 {w W : World} {a b c d e : Value} (hb : Below w.heap.size w W) : Below w.heap.size w (((((W.setCell ⟨w.heap.size, 0, none⟩ a).setCell ⟨w.heap.size, 1, none⟩ b).setCell ⟨w.heap.size, 2, none⟩ c).setCell ⟨w.heap.size, 3, none⟩ d).setCell ⟨w.heap.size, 4, none⟩ e) :=
  ((((hb.setCell (show w.heap.size ≤ w.heap.size from Nat.le_refl _) _).setCell (show w.heap.size ≤ w.heap.size from Nat.le_refl _) _).setCell (show w.heap.size ≤ w.heap.size from Nat.le_refl _) _).setCell (show w.heap.size ≤ w.heap.size from Nat.le_refl _) _).setCell (show w.heap.size ≤ w.heap.size from Nat.le_refl _) _

/-- One snapshot's cell turned. -/
theorem scells_set : ∀ (Z : List SZ) (i c : Nat) (z' : SZ) (u : Value), i < Z.length → c < 4 → encS z' = (encS (szAt Z i)).set c u → scells (Z.set i z') = (scells Z).set (i * 4 + c) u
  | [], i, c, z', u, h, _, _ => by simp at h
  | z :: Z, 0, c, z', u, _, hc, he => by
    have e1 : scells (z :: Z) = encS z ++ scells Z := by simp [scells]
    have e2 : scells (z' :: Z) = encS z' ++ scells Z := by simp [scells]
    rw [List.set_cons_zero, e1, e2, Nat.zero_mul, Nat.zero_add, List.set_append_left _ _ (by simp [encS]; omega)]
    have : szAt (z :: Z) 0 = z := rfl
    rw [this] at he
    rw [he]
  | z :: Z, i + 1, c, z', u, h, hc, he => by
    have e1 : scells (z :: Z) = encS z ++ scells Z := by simp [scells]
    have e2 : scells (z :: Z.set i z') = encS z ++ scells (Z.set i z') := by simp [scells]
    have h4 : (encS z).length = 4 := rfl
    have ih := scells_set Z i c z' u (by simpa using h) hc (by simpa [szAt] using he)
    rw [List.set_cons_succ, e1, e2, ih, List.set_append_right _ _ (by rw [h4]; omega), h4, show (i + 1) * 4 + c - 4 = i * 4 + c by omega]
end Go.Proofs.Ytlpgdfdadkljfaa.Cat
