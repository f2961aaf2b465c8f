/-
  A row of texts that a call owns ('Strs'), what it reads as, and the laws that hand it on: an append of one text, of a row of texts; a store of what stands there.
-/
import Derived.Test.YtbcemghkmmbmdaaRows
import Derived.WalkKit
import Derived.WalkSpells
import Derived.WalkSmall
import Derived.WalkLawsBesides
import Derived.Laws.OwnMore
import Derived.Laws.AppendOwnNone
import Derived.Laws.IdiomStrings
namespace Go.Proofs.Ytbcemghkmmbmdaa.Route
open Go.RowKit

/-- Texts as a row's cells. -/
def sv (l : List ByteArray) : List Value := l.map Value.string
theorem sv_len (l : List ByteArray) : (sv l).length = l.length := by simp [sv]
theorem sv_app (l r : List ByteArray) : sv (l ++ r) = sv l ++ sv r := by simp [sv]
theorem sv_one (l : List ByteArray) : ∀ u ∈ sv l, u.oneCell' = true := by
  intro u hu
  simp only [sv, List.mem_map] at hu
  obtain ⟨b, _, rfl⟩ := hu
  rfl
theorem sv_at (l : List ByteArray) (j : Nat) (h : j < l.length) : (sv l)[j]? = some (.string (l.getD j ByteArray.empty)) := by
  simp [sv, List.getElem?_eq_getElem h, List.getD_eq_getElem?_getD]

/-- In w the slice v owns the texts l, in a block from B on; below B the world is as W0 was. -/
def Strs (B : Nat) (v : Value) (l : List ByteArray) (W0 w : World) : Prop :=
  w.ownsRow B 9 1 v l.length (sv l) ∧ Below B W0 w ∧ B ≤ w.heap.size

/-- At the address (none where there is no text) the texts l lie. -/
def Lies (w : World) (a : Option Addr) (l : List ByteArray) : Prop :=
  l = [] ∨ ∃ x, a = some x ∧ ∀ j, j < l.length → w.cell? (x.add j) = some (.string (l.getD j ByteArray.empty))

theorem Lies.below {B : Nat} {w w' : World} {a : Option Addr} {l : List ByteArray} (h : Lies w a l) (hb : Below B w w') (hB : w.heap.size ≤ B) : Lies w' a l := by
  rcases h with h | ⟨x, rfl, h⟩
  · exact Or.inl h
  · refine Or.inr ⟨x, rfl, fun j hj => ?_⟩
    have hc := h j hj
    have hlt := World.block_lt_of_cell? w _ hc
    rw [hb.cell (by omega)]
    exact hc

theorem Lies.cellAt {w : World} {a : Option Addr} {l : List ByteArray} (h : Lies w a l) {j : Nat} (hj : j < l.length) : ∃ x, a = some x ∧ w.cell? (x.add j) = some (.string (l.getD j ByteArray.empty)) := by
  rcases h with rfl | ⟨x, rfl, h⟩
  · simp at hj
  · exact ⟨x, rfl, h j hj⟩

theorem Strs.grown {B : Nat} {v v' : Value} {l l' : List ByteArray} {W0 w w' : World} (h : Strs B v l W0 w) (ho : w'.ownsRow B 9 1 v' l'.length (sv l')) (hg : w.grownBy w' v.ownBlock) : Strs B v' l' W0 w' :=
  ⟨ho, h.2.1.grown hg h.2.2 (fun k hk => (h.1.lt k hk).1), Nat.le_trans h.2.2 hg.size⟩

theorem Strs.alloc {B : Nat} {v : Value} {l : List ByteArray} {W0 w : World} (h : Strs B v l W0 w) (o : Obj) : Strs B v l W0 (w.alloc o) :=
  ⟨h.1.alloc o, h.2.1.alloc h.2.2 o, Nat.le_trans h.2.2 ((Below.refl 0 w).alloc (Nat.zero_le _) o).size⟩

theorem own_mono {w : World} {B B' : Nat} {v : Value} {n : Nat} {xs : List Value} (h : w.ownsRow B 9 1 v n xs) (hb : B' ≤ B) : w.ownsRow B' 9 1 v n xs :=
  ⟨h.1, h.2.imp id fun ⟨g, cap, cur, h1, h2, h3⟩ => ⟨g, cap, cur, h1, Nat.le_trans hb h2, h3⟩⟩

/-- An owned row stays where nothing below the world's end has turned. -/
theorem own_later {w w' : World} {B : Nat} {v : Value} {n : Nat} {xs : List Value} (h : w.ownsRow B 9 1 v n xs) (hb : Below w.heap.size w w') : w'.ownsRow B 9 1 v n xs :=
  ⟨h.1, h.2.imp id fun ⟨g, cap, cur, h1, h2, h3, h4⟩ => ⟨g, cap, cur, h1, h2, (hb.block g (Array.getElem?_eq_some_iff.1 h3).1).trans h3, h4⟩⟩

theorem Strs.later {B : Nat} {v : Value} {l : List ByteArray} {W0 w w' : World} (h : Strs B v l W0 w) (hb : Below w.heap.size w w') : Strs B v l W0 w' :=
  ⟨own_later h.1 hb, h.2.1.trans (hb.mono h.2.2), Nat.le_trans h.2.2 hb.size⟩

/-- What is owned: the slice's own words. -/
theorem Strs.form {B : Nat} {v : Value} {l : List ByteArray} {W0 w : World} (h : Strs B v l W0 w) :
    (v = .slice none 0 0 ∧ l = []) ∨ ∃ g cap, v = .slice (some ⟨g, 0, none⟩) l.length cap ∧ l.length ≤ cap ∧ cap ≤ maxLen ∧ B ≤ g ∧ g < w.heap.size ∧ ∀ j, j < l.length → w.cell? ⟨g, j, none⟩ = some (.string (l.getD j ByteArray.empty)) := by
  obtain ⟨ho, _, _⟩ := h
  rcases ho.2 with ⟨rfl, hn⟩ | ⟨g, cap, cur, rfl, hb, hg, hnc, hcm, hcs, ht⟩
  · exact .inl ⟨rfl, List.eq_nil_of_length_eq_zero hn⟩
  · refine .inr ⟨g, cap, rfl, hnc, hcm, hb, (Array.getElem?_eq_some_iff.1 hg).1, fun j hj => ?_⟩
    rw [ho.cellAt j (by omega), sv_at l j hj]

theorem Strs.lies {B : Nat} {v : Value} {l : List ByteArray} {W0 w : World} (h : Strs B v l W0 w) :
    ∃ a cap, v = .slice a l.length cap ∧ l.length ≤ cap ∧ cap ≤ maxLen ∧ Lies w a l := by
  rcases h.form with ⟨rfl, rfl⟩ | ⟨g, cap, rfl, h1, h2, _, _, h3⟩
  · exact ⟨none, 0, rfl, Nat.le_refl _, Nat.zero_le _, Or.inl rfl⟩
  · refine ⟨_, cap, rfl, h1, h2, Or.inr ⟨_, rfl, fun j hj => ?_⟩⟩
    have := h3 j hj
    by_cases h0 : j = 0
    · subst h0; simpa [Addr.add] using this
    · simpa [Addr.add, h0] using this

theorem Strs.liesN {B n : Nat} {v : Value} {l : List ByteArray} {W0 w : World} (h : Strs B v l W0 w) (hn : n = l.length) :
    ∃ a cap, v = .slice a n cap ∧ n ≤ cap ∧ cap ≤ maxLen ∧ Lies w a l := by
  subst hn; exact h.lies

theorem Strs.formN {B n : Nat} {v : Value} {l : List ByteArray} {W0 w : World} (h : Strs B v l W0 w) (hn : n = l.length) (h0 : 0 < n) :
    ∃ g cap, v = .slice (some ⟨g, 0, none⟩) n cap ∧ n ≤ cap ∧ cap ≤ maxLen ∧ B ≤ g ∧ g < w.heap.size ∧ ∀ j, j < l.length → w.cell? ⟨g, j, none⟩ = some (.string (l.getD j ByteArray.empty)) := by
  rcases h.form with ⟨_, rfl⟩ | ⟨g, cap, e, h1⟩
  · simp at hn; omega
  · subst hn; exact ⟨g, cap, e, h1⟩

theorem Strs.nil (w : World) : Strs w.heap.size (.slice none 0 0) [] w w := ⟨World.ownsRow_nil w _ 9 1, Below.refl _ _, Nat.le_refl _⟩

theorem info9 : (Try.prog.info? 9).map (fun i => (i.zero, i.size, i.bytes)) = some (some (.string ByteArray.empty), 1, 16) := by kernel_rfl

/-- 'append(out, s)': the one text lies in the block that the statement has just laid. -/
theorem wpList_str {ops : Array Oper} {rest : List Oper} {o : Oper} {a : Act} {Q : Exit → Act → World → Prop} (hgd : o.guard = none) (s x : Operand)
    (ho : o.op = .call { callee := .builtin .append, args := #[s, x], argTypes := #[45, 45] })
    (B : Nat) (v : Value) (l : List ByteArray) (hs : a.eval s = v) (W0 w0 : World) (d : ByteArray) (hb : Strs B v l W0 w0)
    (hx : a.eval x = .slice (some ⟨w0.heap.size, 0, none⟩) 1 1) (hlen : l.length + 1 ≤ 1000000000000)
    (h : ∀ v' w', Strs B v' (l ++ [d]) W0 w' → wpList Try.prog ops Q rest (a.put o.dst v') w') : wpList Try.prog ops Q (o :: rest) a (w0.alloc (.cells #[.string d] 9)) := by
  obtain ⟨i0, hi, hz0, hz1, hz2⟩ := info_parts info9
  have hb' := hb.alloc (.cells #[.string d] 9)
  refine wpList_append_own _ hgd s x 45 ho B 9 i0 (.string ByteArray.empty) 1 16 Try.underlying45 hi hz0 hz1 hz2 rfl (by decide) v l.length (sv l) hs hb'.1 ⟨w0.heap.size, 0, none⟩ 1 1 [.string d] hx rfl ?_ ?_ (by unfold maxLen; omega) (by omega) hb'.2.2 ?_
  · intro j u hj
    match j, hj with
    | 0, hj => simp at hj; subst hj; simp [Addr.add]
    | (j + 1), hj => simp at hj
  · intro u hu; simp at hu; subst hu; rfl
  · intro v' w' ho' hg _
    refine h v' w' (hb'.grown (l' := l ++ [d]) ?_ hg)
    have e : sv (l ++ [d]) = sv l ++ [.string d] := by simp [sv]
    rw [e]
    simpa using ho'

/-- 'append(out, l...)', l texts that lie somewhere, or nil. -/
theorem wpList_strs {ops : Array Oper} {rest : List Oper} {o : Oper} {a : Act} {Q : Exit → Act → World → Prop} {w : World} (hgd : o.guard = none) (sl x : Operand)
    (ho : o.op = .call { callee := .builtin .append, args := #[sl, x], argTypes := #[45, 45] })
    (B : Nat) (v : Value) (l : List ByteArray) (hs : a.eval sl = v) (W0 : World) (hb : Strs B v l W0 w) (r : List ByteArray) (ad : Option Addr) (k c : Nat) (hx : a.eval x = .slice ad k c) (hk : k = r.length) (hr : Lies w ad r) (hnil : ad = none → c = 0) (hkc : k ≤ c) (hlen : l.length + k ≤ 1000000000000)
    (h : ∀ v' w', Strs B v' (l ++ r) W0 w' → wpList Try.prog ops Q rest (a.put o.dst v') w') : wpList Try.prog ops Q (o :: rest) a w := by
  subst hk
  cases ad with
  | none =>
    obtain ⟨i0, hi, _, _, _⟩ := info_parts info9
    have hc : c = 0 := hnil rfl
    have hr0 : r = [] := List.eq_nil_of_length_eq_zero (by omega)
    subst hr0; subst hc
    refine wpList_append_own_none hgd sl x 45 ho B 9 i0 1 Try.underlying45 hi v l.length (sv l) hs hb.1 hx ?_
    exact h v w (by rw [List.append_nil]; exact hb)
  | some ad =>
    obtain ⟨i0, hi, hz0, hz1, hz2⟩ := info_parts info9
    refine wpList_append_own w hgd sl x 45 ho B 9 i0 (.string ByteArray.empty) 1 16 Try.underlying45 hi hz0 hz1 hz2 rfl (by decide) v l.length (sv l) hs hb.1 ad r.length c (sv r) hx (by simp [sv]) ?_ (sv_one r) (by unfold maxLen; omega) (by omega) hb.2.2 ?_
    · intro j u hj
      have hjl : j < r.length := by
        have := (List.getElem?_eq_some_iff.1 hj).1
        rwa [sv_len] at this
      obtain ⟨y, hy, hc⟩ := hr.cellAt hjl
      simp only [Option.some.injEq] at hy
      subst hy
      rw [hc, ← sv_at r j hjl, hj]
    · intro v' w' ho' hg _
      refine h v' w' (hb.grown (l' := l ++ r) ?_ hg)
      rw [sv_app, List.length_append]
      exact ho'

/-- A text's equality. -/
theorem str_eq (a b : ByteArray) : (a.toList == b.toList) = decide (a = b) := by
  by_cases h : a = b
  · subst h; simp
  · have h2 : ¬ a.toList = b.toList := fun e => h (by
      rw [ByteArray.toList_eq, ByteArray.toList_eq] at e
      apply ByteArray.ext
      exact Array.ext' e)
    simp [h, h2]
end Go.Proofs.Ytbcemghkmmbmdaa.Route
