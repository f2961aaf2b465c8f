/-
  A row of texts that a call owns ('Strs'), what it reads as, and the laws that hand it on: an append of one text, of a row of texts; a store of what stands there.
-/
import Derived.Test.YtbcemghkmmbmdabRows
import Derived.WalkKit
import Derived.WalkSpells
import Derived.WalkSmall
import Derived.WalkLawsBesides
import Derived.Laws.OwnMore
import Derived.Laws.AppendOwnNone
import Derived.Laws.IdiomStrings
namespace Go.Proofs.Ytbcemghkmmbmdab.Route
open Go.RowKit

/-- Texts as a row's cells. -/
def sv (l : List ByteArray) : List Value := l.map Value.string
theorem sv_len (l : List ByteArray) : (sv l).length = l.length := by simp [sv]
theorem sv_app (l r : List ByteArray) : sv (l ++ r) = sv l ++ sv r := by simp [sv]
theorem sv_one (l : List ByteArray) : ∀ u ∈ sv l, u.oneCell' = true := by
  intro u hu
  simp only [sv, List.mem_map] at hu
  obtain ⟨b, _, rfl⟩ := hu
  rfl
theorem sv_at (l : List ByteArray) (j : Nat) (h : j < l.length) : (sv l)[j]? = some (.string (l.getD j ByteArray.empty)) := by
  simp [sv, List.getElem?_eq_getElem h, List.getD_eq_getElem?_getD]

/-- In w the slice v owns the texts l, in a block from B on; below B the world is as W0 was. -/
def Strs (B : Nat) (v : Value) (l : List ByteArray) (W0 w : World) : Prop :=
  w.ownsRow B 9 1 v l.length (sv l) ∧ Below B W0 w ∧ B ≤ w.heap.size

/-- At the address (none where there is no text) the texts l lie. -/
def Lies (w : World) (a : Option Addr) (l : List ByteArray) : Prop :=
  l = [] ∨ ∃ x, a = some x ∧ ∀ j, j < l.length → w.cell? (x.add j) = some (.string (l.getD j ByteArray.empty))

theorem Lies.below {B : Nat} {w w' : World} {a : Option Addr} {l : List ByteArray} (h : Lies w a l) (hb : Below B w w') (hB : w.heap.size ≤ B) : Lies w' a l := by
  rcases h with h | ⟨x, rfl, h⟩
  · exact Or.inl h
  · refine Or.inr ⟨x, rfl, fun j hj => ?_⟩
    have hc := h j hj
    have hlt := World.block_lt_of_cell? w _ hc
    rw [hb.cell (by omega)]
    exact hc

theorem Lies.cellAt {w : World} {a : Option Addr} {l : List ByteArray} (h : Lies w a l) {j : Nat} (hj : j < l.length) : ∃ x, a = some x ∧ w.cell? (x.add j) = some (.string (l.getD j ByteArray.empty)) := by
  rcases h with rfl | ⟨x, rfl, h⟩
  · simp at hj
  · exact ⟨x, rfl, h j hj⟩

theorem Strs.grown {B : Nat} {v v' : Value} {l l' : List ByteArray} {W0 w w' : World} (h : Strs B v l W0 w) (ho : w'.ownsRow B 9 1 v' l'.length (sv l')) (hg : w.grownBy w' v.ownBlock) : Strs B v' l' W0 w' :=
  ⟨ho, h.2.1.grown hg h.2.2 (fun k hk => (h.1.lt k hk).1), Nat.le_trans h.2.2 hg.size⟩

theorem Strs.alloc {B : Nat} {v : Value} {l : List ByteArray} {W0 w : World} (h : Strs B v l W0 w) (o : Obj) : Strs B v l W0 (w.alloc o) :=
  ⟨h.1.alloc o, h.2.1.alloc h.2.2 o, Nat.le_trans h.2.2 ((Below.refl 0 w).alloc (Nat.zero_le _) o).size⟩

theorem own_mono {w : World} {B B' : Nat} {v : Value} {n : Nat} {xs : List Value} (h : w.ownsRow B 9 1 v n xs) (hb : B' ≤ B) : w.ownsRow B' 9 1 v n xs :=
  ⟨h.1, h.2.imp id fun ⟨g, cap, cur, h1, h2, h3⟩ => ⟨g, cap, cur, h1, Nat.le_trans hb h2, h3⟩⟩

/-- An owned row stays where nothing below the world's end has turned. -/
theorem own_later {w w' : World} {B : Nat} {v : Value} {n : Nat} {xs : List Value} (h : w.ownsRow B 9 1 v n xs) (hb : Below w.heap.size w w') : w'.ownsRow B 9 1 v n xs :=
  ⟨h.1, h.2.imp id fun ⟨g, cap, cur, h1, h2, h3, h4⟩ => ⟨g, cap, cur, h1, h2, (hb.block g (Array.getElem?_eq_some_iff.1 h3).1).trans h3, h4⟩⟩

theorem Strs.later {B : Nat} {v : Value} {l : List ByteArray} {W0 w w' : World} (h : Strs B v l W0 w) (hb : Below w.heap.size w w') : Strs B v l W0 w' :=
  ⟨own_later h.1 hb, h.2.1.trans (hb.mono h.2.2), Nat.le_trans h.2.2 hb.size⟩

/-- What is owned: the slice's own words. -/
theorem Strs.form {B : Nat} {v : Value} {l : List ByteArray} {W0 w : World} (h : Strs B v l W0 w) :
    (v = .slice none 0 0 ∧ l = []) ∨ ∃ g cap, v = .slice (some ⟨g, 0, none⟩) l.length cap ∧ l.length ≤ cap ∧ cap ≤ maxLen ∧ B ≤ g ∧ g < w.heap.size ∧ ∀ j, j < l.length → w.cell? ⟨g, j, none⟩ = some (.string (l.getD j ByteArray.empty)) := by
  obtain ⟨ho, _, _⟩ := h
  rcases ho.2 with ⟨rfl, hn⟩ | ⟨g, cap, cur, rfl, hb, hg, hnc, hcm, hcs, ht⟩
  · exact .inl ⟨rfl, List.eq_nil_of_length_eq_zero hn⟩
  · refine .inr ⟨g, cap, rfl, hnc, hcm, hb, (Array.getElem?_eq_some_iff.1 hg).1, fun j hj => ?_⟩
    rw [ho.cellAt j (by omega), sv_at l j hj]

theorem Strs.lies {B : Nat} {v : Value} {l : List ByteArray} {W0 w : World} (h : Strs B v l W0 w) :
    ∃ a cap, v = .slice a l.length cap ∧ l.length ≤ cap ∧ cap ≤ maxLen ∧ Lies w a l := by
  rcases h.form with ⟨rfl, rfl⟩ | ⟨g, cap, rfl, h1, h2, _, _, h3⟩
  · exact ⟨none, 0, rfl, Nat.le_refl _, Nat.zero_le _, Or.inl rfl⟩
  · refine ⟨_, cap, rfl, h1, h2, Or.inr ⟨_, rfl, fun j hj => ?_⟩⟩
    have := h3 j hj
    by_cases h0 : j = 0
    · subst h0; simpa [Addr.add] using this
    · simpa [Addr.add, h0] using this

theorem Strs.liesN {B n : Nat} {v : Value} {l : List ByteArray} {W0 w : World} (h : Strs B v l W0 w) (hn : n = l.length) :
    ∃ a cap, v = .slice a n cap ∧ n ≤ cap ∧ cap ≤ maxLen ∧ Lies w a l := by
  subst hn; exact h.lies

theorem Strs.formN {B n : Nat} {v : Value} {l : List ByteArray} {W0 w : World} (h : Strs B v l W0 w) (hn : n = l.length) (h0 : 0 < n) :
    ∃ g cap, v = .slice (some ⟨g, 0, none⟩) n cap ∧ n ≤ cap ∧ cap ≤ maxLen ∧ B ≤ g ∧ g < w.heap.size ∧ ∀ j, j < l.length → w.cell? ⟨g, j, none⟩ = some (.string (l.getD j ByteArray.empty)) := by
  rcases h.form with ⟨_, rfl⟩ | ⟨g, cap, e, h1⟩
  · simp at hn; omega
  · subst hn; exact ⟨g, cap, e, h1⟩

theorem Strs.nil (w : World) : Strs w.heap.size (.slice none 0 0) [] w w := ⟨World.ownsRow_nil w _ 9 1, Below.refl _ _, Nat.le_refl _⟩

theorem info9 : (Try.prog.info? 9).map (fun i => (i.zero, i.size, i.bytes)) = some (some (.string ByteArray.empty), 1, 16) := by kernel_rfl

/-- A text's equality. -/
theorem str_eq (a b : ByteArray) : (a.toList == b.toList) = decide (a = b) := by
  by_cases h : a = b
  · subst h; simp
  · have h2 : ¬ a.toList = b.toList := fun e => h (by
      rw [ByteArray.toList_eq, ByteArray.toList_eq] at e
      apply ByteArray.ext
      exact Array.ext' e)
    simp [h, h2]
end Go.Proofs.Ytbcemghkmmbmdab.Route
