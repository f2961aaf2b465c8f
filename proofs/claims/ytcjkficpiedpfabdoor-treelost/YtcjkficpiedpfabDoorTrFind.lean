/-
  A path's entry: the program's 'Find'.
-/
import Derived.Test.YtcjkficpiedpfabDoorTrCopy
namespace Go.Proofs.YtcjkficpiedpfabDoor.Tree
open Go.RowKit Route Chunk

theorem ErrV.far {B : Nat} {w : World} {v : Value} {c : Nat} {pl : Option Nat} (h : ErrV B w v c pl) {g i : Nat} {x : Value} (hg : g < B) : ErrV B (w.setCell ⟨g, i, none⟩ x) v c pl := by
  rcases h with h | h | ⟨h0, k, g', h1, h2, h3, h4, h5⟩
  · exact .inl h
  · exact .inr (.inl h)
  · refine .inr (.inr ⟨h0, k, g', h1, h2, h3, ?_, ?_⟩)
    · rw [World.cell?_setCell_far _ _ _ _ (show g ≠ g' by omega)]; exact h4
    · rw [World.cell?_setCell_far _ _ _ _ (show g ≠ g' by omega)]; exact h5

theorem ErrV.mono {B B' : Nat} {w : World} {v : Value} {c : Nat} {pl : Option Nat} (h : ErrV B w v c pl) (hB : B' ≤ B) : ErrV B' w v c pl := by
  rcases h with h | h | ⟨h0, k, g', h1, h2, h3, h4⟩
  · exact .inl h
  · exact .inr (.inl h)
  · exact .inr (.inr ⟨h0, k, g', h1, h2, Nat.le_trans hB h3, h4⟩)

theorem ErrV.below {B : Nat} {w w' : World} {v : Value} {c : Nat} {pl : Option Nat} (h : ErrV B w v c pl) (hb : Below w.heap.size w w') : ErrV B w' v c pl := by
  rcases h with h | h | ⟨h0, k, g', h1, h2, h3, h4, h5⟩
  · exact .inl h
  · exact .inr (.inl h)
  · exact .inr (.inr ⟨h0, k, g', h1, h2, h3, cell_kept hb h4, cell_kept hb h5⟩)

/-- An error that is one: what the walks ask of it. -/
def Bad (v : Value) : Prop := (∀ W, (binOp .neq 31 v .nilIface).run Tryd.prog W = .ok (.bool true) W) ∧ (∀ t W, (eqGuard .neq 31 (.tmp t) (.const .nilIface) v .nilIface).run Tryd.prog W = .ok () W)

theorem ErrV.bad {B : Nat} {w : World} {v : Value} {c : Nat} {pl : Option Nat} (h : ErrV B w v c pl) (hc : c ≠ 0) : Bad v := by
  rcases h with h | ⟨_, _, rfl⟩ | ⟨_, k, g', _, rfl, _⟩
  · exact absurd h.1 hc
  · exact ⟨fun W => by kernel_rfl, fun t W => by kernel_rfl⟩
  · exact ⟨fun W => by kernel_rfl, fun t W => by kernel_rfl⟩

/-- Is it a tree? -/
def isTree (l : List (ByteArray × Int × List ByteArray)) : Prop := l.length ≤ 32 ∧ ∀ j, j < l.length → codeOf (l.take j) (entOf l j) = 0

theorem checkAns_tree {l : List (ByteArray × Int × List ByteArray)} : (checkAns l).1 = 0 ↔ isTree l := by
  unfold checkAns isTree
  by_cases h : 32 < l.length
  · rw [if_pos h]
    exact ⟨fun h => by simp at h, fun h => by omega⟩
  · rw [if_neg h]
    cases e : firstBad l 0 l.length with
    | none => exact ⟨fun _ => ⟨by omega, fun j hj => firstBad_none _ _ e j (Nat.zero_le _) (by omega)⟩, fun _ => rfl⟩
    | some x =>
      obtain ⟨c, i⟩ := x
      obtain ⟨_, h2, h3, h4⟩ := firstBad_some _ _ e
      exact ⟨fun h => absurd h h3, fun h => absurd (h4 ▸ h.2 i (by omega)) h3⟩

/-- What 'Check' tells, of any entries that are few and short. -/
theorem check_ans (a : Option Addr) (n cap : Nat) (l : List (ByteArray × Int × List ByteArray)) (w : World) (hl : EntsOk n l) (hl0 : LiesE w a l) (hc : n ≤ cap) :
    Calls Tryd.prog 12 #[.slice a n cap] w fun e w' => (∃ v, e = .returned v ∧ ErrV w.heap.size w' v (checkAns l).1 (checkAns l).2) ∧ Below w.heap.size w w' := by
  have hn := hl.1
  by_cases h : 32 < n
  · refine (check_large a n cap w h).mono ?_
    rintro e w' ⟨rfl, rfl⟩
    rw [checkAns, if_pos (by omega)]
    exact ⟨⟨_, rfl, .inr (.inl ⟨by decide, rfl, rfl⟩)⟩, Below.refl _ _⟩
  · refine check_core a n cap l _ _ w hl hl0 hc (by omega) ?_ ?_
    · intro h0
      have e : checkAns l = (0, none) := by
        rw [checkAns, if_neg (by omega), firstBad_all _ _ fun j _ hj => h0 j (by omega)]
      rw [e]; exact ⟨rfl, rfl⟩
    · intro j hj h0 h1
      have e : checkAns l = (codeOf (l.take j) (entOf l j), some j) := by
        rw [checkAns, if_neg (by omega)]
        cases e : firstBad l 0 l.length with
        | none => exact absurd (firstBad_none _ _ e j (Nat.zero_le _) (by omega)) h1
        | some x =>
          obtain ⟨c, i⟩ := x
          obtain ⟨_, h2, h3, h4⟩ := firstBad_some _ _ e
          have hij : i = j := by
            rcases Nat.lt_trichotomy i j with h | h | h
            · exact absurd (h4 ▸ h0 i h) h3
            · exact h
            · have := firstBad_first _ _ e j (Nat.zero_le _) h
              exact absurd this h1
          subst hij
          rw [h4]
      rw [e]; exact ⟨rfl, rfl⟩

theorem check_tree (a : Option Addr) (n cap : Nat) (l : List (ByteArray × Int × List ByteArray)) (w : World) (hl : EntsOk n l) (hl0 : LiesE w a l) (hc : n ≤ cap) (ht : isTree l) :
    Calls Tryd.prog 12 #[.slice a n cap] w fun e w' => e = .returned .nilIface ∧ Below w.heap.size w w' := by
  refine (check_ans a n cap l w hl hl0 hc).mono ?_
  rintro e w' ⟨⟨v, rfl, h⟩, hb⟩
  have h0 := checkAns_tree.2 ht
  rcases h with ⟨_, _, rfl⟩ | ⟨h, _⟩ | ⟨h, _⟩
  · exact ⟨rfl, hb⟩
  · exact absurd h0 h
  · exact absurd h0 h

theorem ne_text {p q : ByteArray} (h : p ≠ q) : (p.toList == q.toList) = false := by rw [str_eq, decide_eq_false h]
end Go.Proofs.YtcjkficpiedpfabDoor.Tree
