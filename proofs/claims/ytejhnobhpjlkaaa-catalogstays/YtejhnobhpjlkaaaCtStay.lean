/-
  What was told and handed in is written over: how all stands meanwhile.
-/
import Derived.Test.YtejhnobhpjlkaaaCtSplit
import Derived.Test.YtejhnobhpjlkaaaCtFrom
namespace Go.Proofs.Ytejhnobhpjlkaaa.Cat
open Go.RowKit Route Tree Order

theorem Cat.turned {B p : Nat} {v : Value} {Z : List SZ} {w w' : World} {F : Nat → Prop} (h : Cat B p v Z w) (ht : Turn F w w') (hF : ∀ k, F k → ¬ Owns p v Z k ∧ ¬ KB Z k) : Cat B p v Z w' := by
  have hk : ∀ k, Owns p v Z k → w'.heap[k]? = w.heap[k]? := fun k ho => ht.block k (h.owns ho).2 fun hf => (hF k hf).1 ho
  exact ⟨(hk p (.inl rfl)).trans h.box, h.low, own_keep h.row fun g hg => hk g (.inr (.inl hg)), fun z hz => ⟨own_keep (h.ents z hz).1 fun g hg => hk g (.inr (.inr ⟨z, hz, hg⟩)), fun y hy => own_keep ((h.ents z hz).2 y hy) fun g hg => ht.block g (((h.ents z hz).2 y hy).lt g hg).2 fun hf => (hF g hf).2 ⟨z, hz, y, hy, hg⟩⟩, h.apart⟩

theorem SRow.turned {B : Nat} {v : Value} {Z : List SZ} {w w' : World} {F : Nat → Prop} (h : SRow B v Z w) (ht : Turn F w w') (hF : ∀ k, F k → k < B) : SRow B v Z w' := by
  have hk : ∀ {e s n : Nat} {u : Value} {us : List Value}, w.ownsRow B e s u n us → w'.ownsRow B e s u n us := fun {e s n u us} ho => own_keep ho fun g hg => ht.block g (ho.lt g hg).2 fun hf => by
    have h1 := hF g hf
    have h2 := (ho.lt g hg).1
    omega
  exact ⟨hk h.own, fun z hz => ⟨hk (h.ents z hz).1, fun y hy => hk ((h.ents z hz).2 y hy)⟩, h.apart⟩

theorem cell_other {w : World} {g i k : Nat} {u : Value} {cur : Array Value} {T : TypeId} (h : w.heap[g]? = some (.cells cur T (0, 0))) (hk : i ≠ k) : (w.setCell ⟨g, i, none⟩ u).cell? ⟨g, k, none⟩ = w.cell? ⟨g, k, none⟩ := by
  simp [World.setCell, World.cell?, Array.getElem?_modify, h, hk]

/-- While what was handed in and what was told is written over. -/
structure St (F : Nat → Prop) (w8 : World) (ob : Value) (on : Nat) (kb : Value) (kn : Nat) (ev : Value) (en : Nat) (Y : List (Ent × Value)) (wr : World) : Prop where
  turn : Turn F w8 wr
  size : wr.heap.size = w8.heap.size
  o : RowAny 0 9 1 ob on wr
  k : RowAny 0 9 1 kb kn wr
  e : RowAny 0 39 3 ev en wr
  y : ∀ z ∈ Y, RowAny 0 9 1 z.2 z.1.2.2.length wr
  c : ∀ g, ev.ownBlock = some g → ∀ j, j < en → wr.cell? ⟨g, j * 3 + 2, none⟩ = some (zOf Y j).2

theorem RowAny.block {B : Nat} {e : TypeId} {s n g : Nat} {v : Value} {w : World} (h : RowAny B e s v n w) (hg : v.ownBlock = some g) : ∃ cur, w.heap[g]? = some (.cells cur e (0, 0)) := by
  obtain ⟨xs, h⟩ := h
  exact own_block h hg

theorem St.set {F : Nat → Prop} {w8 wr : World} {ob kb ev : Value} {on kn en : Nat} {Y : List (Ent × Value)} (h : St F w8 ob on kb kn ev en Y wr) {g i : Nat} (u : Value) (hF : F g) (hc : ev.ownBlock = some g → ∀ j, j < en → i ≠ j * 3 + 2) : St F w8 ob on kb kn ev en Y (wr.setCell ⟨g, i, none⟩ u) := by
  obtain ⟨s1, s2, s3, s4, s5⟩ := heap_setCell (w := wr) (r := g) (i := i) (x := u)
  refine ⟨⟨s3.trans h.turn.os, s4.trans h.turn.tape, s5.trans h.turn.output, by rw [s2]; exact h.turn.size, fun k hk hn => ?_⟩, s2.trans h.size, h.o.set g i u, h.k.set g i u, h.e.set g i u, fun z hz => (h.y z hz).set g i u, fun g' hg' j hj => ?_⟩
  · rw [s1 k fun e => hn (by rw [e]; exact hF)]
    exact h.turn.block k hk hn
  · by_cases e : g = g'
    · subst e
      obtain ⟨cur, hcur⟩ := h.e.block hg'
      rw [cell_other hcur (hc hg' j hj)]
      exact h.c g hg' j hj
    · rw [World.cell?_setCell_far _ _ _ _ e]
      exact h.c g' hg' j hj

theorem Turn.box {F : Nat → Prop} {w w' : World} {k : Nat} {c : Array Value} {T : TypeId} (ht : Turn F w w') (hk : w.heap[k]? = some (.cells c T (0, 0))) (hF : ∀ g, F g → ∃ c, w.heap[g]? = some (.cells c 9 (0, 0)) ∨ w.heap[g]? = some (.cells c 39 (0, 0))) (h1 : T ≠ 9) (h2 : T ≠ 39) : w'.heap[k]? = some (.cells c T (0, 0)) := by
  rw [ht.block k (Array.getElem?_eq_some_iff.1 hk).1 fun hf => ?_]
  · exact hk
  · obtain ⟨c', h | h⟩ := hF k hf
    · rw [hk] at h; simp at h; exact h1 h.2
    · rw [hk] at h; simp at h; exact h2 h.2

/-- While snapshots that were told are written over. -/
structure Sx (B9 : Nat) (w9 : World) (v : Value) (n : Nat) (Zx : List SZ) (wr : World) : Prop where
  bel : Below B9 w9 wr
  size : wr.heap.size = w9.heap.size
  row : RowAny B9 52 4 v n wr
  ents : ∀ z ∈ Zx, RowAny B9 39 3 z.2.2.2.1 z.2.2.2.2.length wr
  cell : ∀ g, v.ownBlock = some g → ∀ j, j < n → wr.cell? ⟨g, j * 4 + 3, none⟩ = some (szAt Zx j).2.2.2.1

theorem Sx.set {B9 n : Nat} {w9 wr : World} {v : Value} {Zx : List SZ} (h : Sx B9 w9 v n Zx wr) {g i : Nat} (u : Value) (hg : B9 ≤ g) (hc : v.ownBlock = some g → ∀ j, j < n → i ≠ j * 4 + 3) : Sx B9 w9 v n Zx (wr.setCell ⟨g, i, none⟩ u) := by
  refine ⟨h.bel.setCell hg _, heap_setCell.2.1.trans h.size, h.row.set g i u, fun z hz => (h.ents z hz).set g i u, fun g' hg' j hj => ?_⟩
  by_cases e : g = g'
  · subst e
    obtain ⟨cur, hcur⟩ := h.row.block hg'
    rw [cell_other hcur (hc hg' j hj)]
    exact h.cell g hg' j hj
  · rw [World.cell?_setCell_far _ _ _ _ e]
    exact h.cell g' hg' j hj

theorem SRow.sx {B9 : Nat} {v : Value} {Zx : List SZ} {w9 : World} (h : SRow B9 v Zx w9) : Sx B9 w9 v Zx.length Zx w9 := by
  refine ⟨Below.refl _ _, rfl, ⟨_, h.own⟩, fun z hz => ⟨_, (h.ents z hz).1⟩, fun g hg j hj => ?_⟩
  rcases h.own.2 with ⟨rfl, _⟩ | ⟨g', cap, cur, rfl, _⟩
  · simp [Value.ownBlock] at hg
  · simp [Value.ownBlock] at hg
    subst hg
    rw [h.own.cellAt (j * 4 + 3) (by omega), scells_at Zx j 3 hj (by decide)]
    simp [encS, fix_own (h.ents _ (sz_mem hj)).1]

theorem index_ent0 (g n cap i : Nat) (hi : i < n) (w : World) : (Instr.indexAt 28 (.slice (some ⟨g, 0, none⟩) n cap) (.int .i64 (i : Int))).run Try.prog w = .ok (.pointer (some ⟨g, i * 3, none⟩)) w := by
  rw [index_ent _ n cap i hi, Go.WideShapes.add_plain, Nat.zero_add]
theorem index_snap0 (g n cap i : Nat) (hi : i < n) (w : World) : (Instr.indexAt 42 (.slice (some ⟨g, 0, none⟩) n cap) (.int .i64 (i : Int))).run Try.prog w = .ok (.pointer (some ⟨g, i * 4, none⟩)) w := by
  rw [index_snap _ n cap i hi, Go.WideShapes.add_plain, Nat.zero_add]

theorem op_box {w wr : World} {c0 c1 c2 c3 c4 : Value} (hb : Below (w.alloc (.cells #[c0, c1, c2, c3, c4] 33)).heap.size (w.alloc (.cells #[c0, c1, c2, c3, c4] 33)) wr) :
    wr.heap[w.heap.size]? = some (.cells #[c0, c1, c2, c3, c4] 33 (0, 0)) := by
  rw [hb.block _ (by simp)]
  exact heap_alloc_new w _

theorem put_op {W : World} {b : Nat} {c0 c1 c2 c3 c4 u : Value} {T : TypeId} (h : W.heap[b]? = some (.cells #[c0, c1, c2, c3, c4] T (0, 0))) : (W.setCell ⟨b, 3, none⟩ u).heap[b]? = some (.cells #[c0, c1, c2, u, c4] T (0, 0)) := by
  simp [World.setCell, Array.getElem?_modify, h]
end Go.Proofs.Ytejhnobhpjlkaaa.Cat
