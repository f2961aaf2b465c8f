/-
  A row of bytes that a call owns ('Buf'), what it reads as, and the laws that hand it on: an append of one byte, of a text; a copy into new room.
-/
import Derived.Test.YtbcemghkmmbmdaaRows
import Derived.Test.YtbcemghkmmbmdaaMath
import Derived.WalkKit
import Derived.WalkSpells
import Derived.WalkLawsBesides
import Derived.Lib.AppendStr
import Derived.Laws.CopyOwn
import Derived.Laws.IdiomStrings
namespace Go.Proofs.Ytbcemghkmmbmdaa
open Go.RowKit

/-- Bytes as a row's cells. -/
def bv (l : List UInt8) : List Value := l.map fun b => Value.int .u8 (b.toNat : Int)
theorem bv_len (l : List UInt8) : (bv l).length = l.length := by simp [bv]
theorem bv_app (l r : List UInt8) : bv (l ++ r) = bv l ++ bv r := by simp [bv]
theorem bv_one (l : List UInt8) : ∀ u ∈ bv l, u.oneCell' = true := by
  intro u hu
  simp only [bv, List.mem_map] at hu
  obtain ⟨b, _, rfl⟩ := hu
  rfl

/-- In w the slice v owns the bytes l, in a block from B on; below B the world is as W0 was. -/
def Buf (B : Nat) (v : Value) (l : List UInt8) (W0 w : World) : Prop :=
  w.ownsRow B 5 1 v l.length (bv l) ∧ Below B W0 w ∧ B ≤ w.heap.size

/-- At the address (none where there is no byte) the bytes l lie. -/
def Lies (w : World) (a : Option Addr) (l : List UInt8) : Prop :=
  l = [] ∨ ∃ x, a = some x ∧ ∀ j u, (bv l)[j]? = some u → w.cell? (x.add j) = some u

theorem Lies.below {B : Nat} {w w' : World} {a : Option Addr} {l : List UInt8} (h : Lies w a l) (hb : Below B w w') (hB : w.heap.size ≤ B) : Lies w' a l := by
  rcases h with h | ⟨x, rfl, h⟩
  · exact Or.inl h
  · refine Or.inr ⟨x, rfl, fun j u hj => ?_⟩
    have hc := h j u hj
    have hlt := World.block_lt_of_cell? w _ hc
    rw [hb.cell (by omega)]
    exact hc

theorem Buf.grown {B : Nat} {v v' : Value} {l l' : List UInt8} {W0 w w' : World} (h : Buf B v l W0 w) (ho : w'.ownsRow B 5 1 v' l'.length (bv l')) (hg : w.grownBy w' v.ownBlock) : Buf B v' l' W0 w' :=
  ⟨ho, h.2.1.grown hg h.2.2 (fun k hk => (h.1.lt k hk).1), Nat.le_trans h.2.2 hg.size⟩

theorem Buf.alloc {B : Nat} {v : Value} {l : List UInt8} {W0 w : World} (h : Buf B v l W0 w) (o : Obj) : Buf B v l W0 (w.alloc o) :=
  ⟨h.1.alloc o, h.2.1.alloc h.2.2 o, Nat.le_trans h.2.2 ((Below.refl 0 w).alloc (Nat.zero_le _) o).size⟩

/-- What is owned: the slice's own words. -/
theorem Buf.form {B : Nat} {v : Value} {l : List UInt8} {W0 w : World} (h : Buf B v l W0 w) :
    ∃ a cap, v = .slice a l.length cap ∧ l.length ≤ cap ∧ cap ≤ maxLen ∧ Lies w a l ∧ (a = none → l = [] ∧ cap = 0) ∧ (∀ x, a = some x → B ≤ x.block ∧ x.block < w.heap.size) := by
  obtain ⟨ho, _, _⟩ := h
  rcases ho.2 with ⟨rfl, hn⟩ | ⟨g, cap, cur, rfl, hb, hg, hnc, hcm, hcs, ht⟩
  · have : l = [] := List.eq_nil_of_length_eq_zero hn
    subst this
    exact ⟨none, 0, rfl, Nat.le_refl _, Nat.zero_le _, Or.inl rfl, fun _ => ⟨rfl, rfl⟩, fun x hx => by cases hx⟩
  · refine ⟨some ⟨g, 0, none⟩, cap, rfl, hnc, hcm, Or.inr ⟨_, rfl, ho.cells rfl⟩, fun h => (by cases h), fun x hx => ?_⟩
    simp only [Option.some.injEq] at hx
    subst hx
    exact ⟨hb, (Array.getElem?_eq_some_iff.1 hg).1⟩

/-- 'string(b)'. -/
theorem conv_lies {w : World} {a : Option Addr} {l : List UInt8} {cap : Nat} (h : Lies w a l) :
    (convert 31 9 (.slice a l.length cap)).run Try.prog w = .ok (.string ⟨l.toArray⟩) w := by
  rcases h with rfl | ⟨x, rfl, h⟩
  · show (convert 31 9 (.slice a 0 cap)).run Try.prog w = _
    rw [run_convert_bytes_string w 31 9 5 a 0 cap Try.underlying31 Try.underlying5 Try.underlying9]
    cases a <;> rfl
  · refine run_convert_bytes_back w 31 9 5 x cap l Try.underlying31 Try.underlying5 Try.underlying9 (fun j hj => ?_)
    exact h j _ (by simp [bv, List.getElem?_eq_getElem hj])

theorem info5 : (Try.prog.info? 5).map (fun i => (i.zero, i.size, i.bytes)) = some (some (.int .u8 0), 1, 1) := by kernel_rfl

/-- 'append(out, c)': the one byte lies in the block that the statement has just laid. -/
theorem wpList_byte {ops : Array Oper} {rest : List Oper} {o : Oper} {a : Act} {Q : Exit → Act → World → Prop} (hgd : o.guard = none) (s x : Operand)
    (ho : o.op = .call { callee := .builtin .append, args := #[s, x], argTypes := #[31, 31] })
    (B : Nat) (v : Value) (l : List UInt8) (hs : a.eval s = v) (W0 w0 : World) (c : Int) (d : UInt8) (hc : c = (d.toNat : Int)) (hb : Buf B v l W0 w0)
    (hx : a.eval x = .slice (some ⟨w0.heap.size, 0, none⟩) 1 1) (hlen : l.length + 1 ≤ 140737488355328)
    (h : ∀ v' w', Buf B v' (l ++ [d]) W0 w' → wpList Try.prog ops Q rest (a.put o.dst v') w') : wpList Try.prog ops Q (o :: rest) a (w0.alloc (.cells #[.int .u8 c] 5)) := by
  obtain ⟨i0, hi, hz0, hz1, hz2⟩ := info_parts info5
  subst hc
  have hb' := hb.alloc (.cells #[.int .u8 (d.toNat : Int)] 5)
  refine wpList_append_own _ hgd s x 31 ho B 5 i0 (.int .u8 0) 1 1 Try.underlying31 hi hz0 hz1 hz2 rfl (by decide) v l.length (bv l) hs hb'.1 ⟨w0.heap.size, 0, none⟩ 1 1 [.int .u8 (d.toNat : Int)] hx rfl ?_ ?_ (by unfold maxLen; omega) (by omega) hb'.2.2 ?_
  · intro j u hj
    match j, hj with
    | 0, hj => simp at hj; subst hj; simp [Addr.add]
    | (j + 1), hj => simp at hj
  · intro u hu; simp at hu; subst hu; rfl
  · intro v' w' ho' hg _
    refine h v' w' (hb'.grown (l' := l ++ [d]) ?_ hg)
    have e : bv (l ++ [d]) = bv l ++ [.int .u8 (d.toNat : Int)] := by simp [bv]
    rw [e]
    simpa using ho'

/-- 'append(out, s...)', s a text. -/
theorem wpList_text {ops : Array Oper} {rest : List Oper} {o : Oper} {a : Act} {Q : Exit → Act → World → Prop} {w : World} (hgd : o.guard = none) (sl x : Operand)
    (ho : o.op = .call { callee := .builtin .append, args := #[sl, x], argTypes := #[31, 9] })
    (B : Nat) (v : Value) (l : List UInt8) (hs : a.eval sl = v) (W0 : World) (hb : Buf B v l W0 w) (s : ByteArray) (hx : a.eval x = .string s) (hlen : l.length + s.size ≤ 140737488355328)
    (h : ∀ v' w', Buf B v' (l ++ s.data.toList) W0 w' → wpList Try.prog ops Q rest (a.put o.dst v') w') : wpList Try.prog ops Q (o :: rest) a w := by
  obtain ⟨i0, hi, hz0, hz1, hz2⟩ := info_parts info5
  refine Lib.wpList_append_own_string w hgd sl x 31 9 ho B 5 i0 Try.underlying31 Try.underlying9 hi hz0 hz1 hz2 v l.length (bv l) hs hb.1 s hx (by unfold maxLen; omega) hlen hb.2.2 ?_
  intro v' w' ho' hg _
  refine h v' w' (hb.grown (l' := l ++ s.data.toList) ?_ hg)
  have e : bv (l ++ s.data.toList) = bv l ++ Lib.strCells s := by simp [bv, Lib.strCells]
  have e2 : (l ++ s.data.toList).length = l.length + s.size := by simp
  rw [e, e2]
  exact ho'

/-- 'append(out, b...)', b bytes that lie somewhere. -/
theorem wpList_bytes {ops : Array Oper} {rest : List Oper} {o : Oper} {a : Act} {Q : Exit → Act → World → Prop} {w : World} (hgd : o.guard = none) (sl x : Operand)
    (ho : o.op = .call { callee := .builtin .append, args := #[sl, x], argTypes := #[31, 31] })
    (B : Nat) (v : Value) (l : List UInt8) (hs : a.eval sl = v) (W0 : World) (hb : Buf B v l W0 w) (r : List UInt8) (ad : Addr) (c : Nat) (hx : a.eval x = .slice (some ad) r.length c) (hr : Lies w (some ad) r) (hlen : l.length + r.length ≤ 140737488355328)
    (h : ∀ v' w', Buf B v' (l ++ r) W0 w' → wpList Try.prog ops Q rest (a.put o.dst v') w') : wpList Try.prog ops Q (o :: rest) a w := by
  obtain ⟨i0, hi, hz0, hz1, hz2⟩ := info_parts info5
  refine wpList_append_own w hgd sl x 31 ho B 5 i0 (.int .u8 0) 1 1 Try.underlying31 hi hz0 hz1 hz2 rfl (by decide) v l.length (bv l) hs hb.1 ad r.length c (bv r) hx (by simp [bv]) ?_ (bv_one r) (by unfold maxLen; omega) (by omega) hb.2.2 ?_
  · intro j u hj
    rcases hr with rfl | ⟨y, hy, h⟩
    · simp [bv] at hj
    · simp only [Option.some.injEq] at hy
      subst hy
      exact h j u hj
  · intro v' w' ho' hg _
    refine h v' w' (hb.grown (l' := l ++ r) ?_ hg)
    rw [bv_app, List.length_append]
    exact ho'

end Go.Proofs.Ytbcemghkmmbmdaa
