/-
  Messages: as plain data, and as they lie in memory.
-/
import Derived.Test.YtbcemghkmmbmdaaRtStrs
import Derived.BigQuiet
import Derived.Deep.RegionHeld
namespace Go.Proofs.Ytbcemghkmmbmdaa.Msg
open Go.RowKit Route

/-- A proof: View, Seq, Body, From. A change: From, View, Proofs. -/
abbrev Pf := Int × Int × ByteArray × List Int
abbrev Ch := Int × Int × List Pf
/-- A message. -/
structure Ms where
  k : Int
  f : Int
  v : Int
  s : Int
  b : ByteArray
  p : List Pf
  c : List Ch

def noPf : Pf := (0, 0, ByteArray.empty, [])
def noCh : Ch := (0, 0, [])
def pfAt (l : List Pf) (j : Nat) : Pf := l.getD j noPf
def chAt (l : List Ch) (j : Nat) : Ch := l.getD j noCh
def inAt (l : List Int) (j : Nat) : Int := l.getD j 0
theorem pfAt_mem {l : List Pf} {j : Nat} (h : j < l.length) : pfAt l j ∈ l := by simp [pfAt, List.getD_eq_getElem?_getD, h]
theorem chAt_mem {l : List Ch} {j : Nat} (h : j < l.length) : chAt l j ∈ l := by simp [chAt, List.getD_eq_getElem?_getD, h]
theorem inAt_mem {l : List Int} {j : Nat} (h : j < l.length) : inAt l j ∈ l := by simp [inAt, List.getD_eq_getElem?_getD, h]
theorem pfAt_get {l : List Pf} {j : Nat} (h : j < l.length) : pfAt l j = l[j] := by simp [pfAt, List.getD_eq_getElem?_getD, h]
theorem chAt_get {l : List Ch} {j : Nat} (h : j < l.length) : chAt l j = l[j] := by simp [chAt, List.getD_eq_getElem?_getD, h]
theorem inAt_get {l : List Int} {j : Nat} (h : j < l.length) : inAt l j = l[j] := by simp [inAt, List.getD_eq_getElem?_getD, h]

theorem cell_below {B : Nat} {w w' : World} {x : Addr} {v : Value} (hb : Below B w w') (hB : w.heap.size ≤ B) (h : w.cell? x = some v) : w'.cell? x = some v := by
  rw [hb.cell (by have := World.block_lt_of_cell? w _ h; omega)]; exact h

/-- At the address numbers lie. -/
def LiesI (w : World) (a : Option Addr) (l : List Int) : Prop := l = [] ∨ ∃ x, a = some x ∧ ∀ j, j < l.length → w.cell? (x.add j) = some (.int .i64 (inAt l j))
/-- At the place p a proof lies. -/
def PfIn (w : World) (p : Addr) (e : Pf) : Prop :=
  w.cell? p = some (.int .i64 e.1) ∧ w.cell? ⟨p.block, p.off + 1, none⟩ = some (.int .i64 e.2.1) ∧ w.cell? ⟨p.block, p.off + 2, none⟩ = some (.string e.2.2.1) ∧
    ∃ a c, w.cell? ⟨p.block, p.off + 3, none⟩ = some (.slice a e.2.2.2.length c) ∧ LiesI w a e.2.2.2
def LiesP (w : World) (a : Option Addr) (l : List Pf) : Prop := l = [] ∨ ∃ x, a = some x ∧ ∀ j, j < l.length → PfIn w (x.add (j * 4)) (pfAt l j)
/-- At the place p a change lies. -/
def ChIn (w : World) (p : Addr) (e : Ch) : Prop :=
  w.cell? p = some (.int .i64 e.1) ∧ w.cell? ⟨p.block, p.off + 1, none⟩ = some (.int .i64 e.2.1) ∧
    ∃ a c, w.cell? ⟨p.block, p.off + 2, none⟩ = some (.slice a e.2.2.length c) ∧ LiesP w a e.2.2
def LiesC (w : World) (a : Option Addr) (l : List Ch) : Prop := l = [] ∨ ∃ x, a = some x ∧ ∀ j, j < l.length → ChIn w (x.add (j * 3)) (chAt l j)

theorem LiesI.below {B : Nat} {w w' : World} {a : Option Addr} {l : List Int} (h : LiesI w a l) (hb : Below B w w') (hB : w.heap.size ≤ B) : LiesI w' a l := by
  rcases h with h | ⟨x, rfl, h⟩
  · exact .inl h
  · exact .inr ⟨x, rfl, fun j hj => cell_below hb hB (h j hj)⟩
theorem PfIn.below {B : Nat} {w w' : World} {p : Addr} {e : Pf} (h : PfIn w p e) (hb : Below B w w') (hB : w.heap.size ≤ B) : PfIn w' p e := by
  obtain ⟨h0, h1, h2, a, c, h3, h4⟩ := h
  exact ⟨cell_below hb hB h0, cell_below hb hB h1, cell_below hb hB h2, a, c, cell_below hb hB h3, h4.below hb hB⟩
theorem LiesP.below {B : Nat} {w w' : World} {a : Option Addr} {l : List Pf} (h : LiesP w a l) (hb : Below B w w') (hB : w.heap.size ≤ B) : LiesP w' a l := by
  rcases h with h | ⟨x, rfl, h⟩
  · exact .inl h
  · exact .inr ⟨x, rfl, fun j hj => (h j hj).below hb hB⟩
theorem ChIn.below {B : Nat} {w w' : World} {p : Addr} {e : Ch} (h : ChIn w p e) (hb : Below B w w') (hB : w.heap.size ≤ B) : ChIn w' p e := by
  obtain ⟨h0, h1, a, c, h3, h4⟩ := h
  exact ⟨cell_below hb hB h0, cell_below hb hB h1, a, c, cell_below hb hB h3, h4.below hb hB⟩
theorem LiesC.below {B : Nat} {w w' : World} {a : Option Addr} {l : List Ch} (h : LiesC w a l) (hb : Below B w w') (hB : w.heap.size ≤ B) : LiesC w' a l := by
  rcases h with h | ⟨x, rfl, h⟩
  · exact .inl h
  · exact .inr ⟨x, rfl, fun j hj => (h j hj).below hb hB⟩
theorem LiesI.at {w : World} {a : Option Addr} {l : List Int} (h : LiesI w a l) {j : Nat} (hj : j < l.length) : ∃ x, a = some x ∧ w.cell? (x.add (j * 1)) = some (.int .i64 (inAt l j)) := by
  rcases h with rfl | ⟨x, rfl, h⟩
  · simp at hj
  · exact ⟨x, rfl, by rw [Nat.mul_one]; exact h j hj⟩
theorem LiesP.at {w : World} {a : Option Addr} {l : List Pf} (h : LiesP w a l) {j : Nat} (hj : j < l.length) : ∃ x, a = some x ∧ PfIn w (x.add (j * 4)) (pfAt l j) := by
  rcases h with rfl | ⟨x, rfl, h⟩
  · simp at hj
  · exact ⟨x, rfl, h j hj⟩
theorem LiesC.at {w : World} {a : Option Addr} {l : List Ch} (h : LiesC w a l) {j : Nat} (hj : j < l.length) : ∃ x, a = some x ∧ ChIn w (x.add (j * 3)) (chAt l j) := by
  rcases h with rfl | ⟨x, rfl, h⟩
  · simp at hj
  · exact ⟨x, rfl, h j hj⟩

set_option maxRecDepth 100000 in
theorem index_int (x : Addr) (n cap i : Nat) (hi : i < n) (w : World) : (Instr.indexAt 87 (.slice (some x) n cap) (.int .i64 (i : Int))).run Try.prog w = .ok (.pointer (some (x.add (i * 1)))) w := by
  rw [run_indexAt_slice w 87 x n cap .i64 i (by kernel_rfl), if_pos (by omega)]
  rfl
set_option maxRecDepth 100000 in
theorem index_pf (x : Addr) (n cap i : Nat) (hi : i < n) (w : World) : (Instr.indexAt 22 (.slice (some x) n cap) (.int .i64 (i : Int))).run Try.prog w = .ok (.pointer (some (x.add (i * 4)))) w := by
  rw [run_indexAt_slice w 22 x n cap .i64 i (by kernel_rfl), if_pos (by omega)]
  rfl
set_option maxRecDepth 100000 in
theorem index_ch (x : Addr) (n cap i : Nat) (hi : i < n) (w : World) : (Instr.indexAt 23 (.slice (some x) n cap) (.int .i64 (i : Int))).run Try.prog w = .ok (.pointer (some (x.add (i * 3)))) w := by
  rw [run_indexAt_slice w 23 x n cap .i64 i (by kernel_rfl), if_pos (by omega)]
  rfl
theorem len_text (s : ByteArray) (z : Nat) (hz : z = s.size) (w : World) : (Builtin.len_ #[9] 3 #[.string s]).run Try.prog w = .ok (.int .i64 (z : Int)) w := by
  rw [run_len_string w 9 3 s Try.underlying9, hz]; rfl

/-- A proof's value, a change's, a message's. -/
abbrev pfV (e : Pf) (a : Option Addr) (n c : Nat) : Array Value := #[.int .i64 e.1, .int .i64 e.2.1, .string e.2.2.1, .slice a n c]
abbrev chV (e : Ch) (a : Option Addr) (n c : Nat) : Array Value := #[.int .i64 e.1, .int .i64 e.2.1, .slice a n c]
abbrev msV (m : Ms) (a : Option Addr) (n c : Nat) (a' : Option Addr) (n' c' : Nat) : Array Value := #[.int .i64 m.k, .int .i64 m.f, .int .i64 m.v, .int .i64 m.s, .string m.b, .slice a n c, .slice a' n' c']

theorem three3 {w : World} {b : Nat} {x y z : Value} {T : TypeId} (h : w.heap[b]? = some (.cells #[x, y, z] T (0, 0))) :
    w.cell? ⟨b, 0, none⟩ = some x ∧ w.cell? ⟨b, 1, none⟩ = some y ∧ w.cell? ⟨b, 2, none⟩ = some z := by
  simp [World.cell?, h]
theorem four4 {w : World} {b : Nat} {x y z u : Value} {T : TypeId} (h : w.heap[b]? = some (.cells #[x, y, z, u] T (0, 0))) :
    w.cell? ⟨b, 0, none⟩ = some x ∧ w.cell? ⟨b, 1, none⟩ = some y ∧ w.cell? ⟨b, 2, none⟩ = some z ∧ w.cell? ⟨b, 3, none⟩ = some u := by
  simp [World.cell?, h]
theorem seven7 {w : World} {b : Nat} {x0 x1 x2 x3 x4 x5 x6 : Value} {T : TypeId} (h : w.heap[b]? = some (.cells #[x0, x1, x2, x3, x4, x5, x6] T (0, 0))) :
    w.cell? ⟨b, 0, none⟩ = some x0 ∧ w.cell? ⟨b, 1, none⟩ = some x1 ∧ w.cell? ⟨b, 2, none⟩ = some x2 ∧ w.cell? ⟨b, 3, none⟩ = some x3 ∧ w.cell? ⟨b, 4, none⟩ = some x4 ∧ w.cell? ⟨b, 5, none⟩ = some x5 ∧ w.cell? ⟨b, 6, none⟩ = some x6 := by
  simp [World.cell?, h]
theorem box_new (w : World) (cs : Array Value) (T : TypeId) : (w.alloc (.cells cs T)).heap[w.heap.size]? = some (.cells cs T (0, 0)) := heap_alloc_new w _
theorem box_stays {w w' : World} {b B : Nat} {o : Obj} (h : w.heap[b]? = some o) (hb : Below B w w') (hB : w.heap.size ≤ B) : w'.heap[b]? = some o := by
  rw [hb.block b (by have := (Array.getElem?_eq_some_iff.1 h).1; omega)]; exact h

/-! ### What may be -/
def isIn (n a b : Int) : Bool := decide (a ≤ n) && decide (n ≤ b)
def nodeB (n : Int) : Bool := isIn n 0 12
def pfB (e : Pf) : Bool := isIn e.1 0 64 && (isIn e.2.1 0 64 && (decide (e.2.2.1.size ≤ 4096) && (decide (e.2.2.2.length ≤ 13) && e.2.2.2.all nodeB)))
def pfsB (l : List Pf) (m : Nat) : Bool := decide (l.length ≤ m) && l.all pfB
def chB (e : Ch) : Bool := nodeB e.1 && (isIn e.2.1 0 64 && pfsB e.2.2 64)
def mayB (m : Ms) : Bool := isIn m.k 1 7 && (isIn m.f 0 12 && (isIn m.v 0 64 && (isIn m.s 0 (if m.k = 7 then 1000 else 64) && (decide (m.b.size ≤ 4096) && (pfsB m.p (if m.k = 5 then 64 else 0) && (decide (m.c.length ≤ (if m.k = 6 then 13 else 0)) && m.c.all chB))))))
end Go.Proofs.Ytbcemghkmmbmdaa.Msg
