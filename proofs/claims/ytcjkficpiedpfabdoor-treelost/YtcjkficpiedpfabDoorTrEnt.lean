/-
  Rows of entries and of files in memory: what they read as, and that they stay so where nothing below has turned.
-/
import Derived.Test.YtcjkficpiedpfabDoorRtStrs
import Derived.BigQuiet
import Derived.Deep.RegionHeld
namespace Go.Proofs.YtcjkficpiedpfabDoor.Tree
open Go.RowKit Route

/-- No entry. -/
def noEnt : ByteArray × Int × List ByteArray := (ByteArray.empty, 0, [])
/-- No file. -/
def noFile : ByteArray × ByteArray := (ByteArray.empty, ByteArray.empty)

/-- The j-th entry. -/
def entOf (l : List (ByteArray × Int × List ByteArray)) (j : Nat) : ByteArray × Int × List ByteArray := l.getD j noEnt
/-- The j-th file. -/
def fileOf (l : List (ByteArray × ByteArray)) (j : Nat) : ByteArray × ByteArray := l.getD j noFile

/-- At the slice's address texts lie, and the slice is one that may be. -/
def KeysIn (w : World) (a : Option Addr) (cap : Nat) (l : List ByteArray) : Prop :=
  Lies w a l ∧ l.length ≤ cap ∧ cap ≤ maxLen ∧ (a = none → cap = 0)

theorem KeysIn.below {B : Nat} {w w' : World} {a : Option Addr} {cap : Nat} {l : List ByteArray} (h : KeysIn w a cap l) (hb : Below B w w') (hB : w.heap.size ≤ B) : KeysIn w' a cap l :=
  ⟨h.1.below hb hB, h.2⟩

/-- At the place p an entry lies. -/
def EntAt (w : World) (p : Addr) (e : ByteArray × Int × List ByteArray) : Prop :=
  w.cell? p = some (.string e.1) ∧ w.cell? ⟨p.block, p.off + 1, none⟩ = some (.int .i64 e.2.1) ∧ ∃ ka kc, w.cell? ⟨p.block, p.off + 2, none⟩ = some (.slice ka e.2.2.length kc) ∧ KeysIn w ka kc e.2.2

/-- At the place p a file lies. -/
def FileAt (w : World) (p : Addr) (e : ByteArray × ByteArray) : Prop :=
  w.cell? p = some (.string e.1) ∧ w.cell? ⟨p.block, p.off + 1, none⟩ = some (.string e.2)

theorem cell_below {B : Nat} {w w' : World} {x : Addr} {v : Value} (hb : Below B w w') (hB : w.heap.size ≤ B) (h : w.cell? x = some v) : w'.cell? x = some v := by
  rw [hb.cell (by have := World.block_lt_of_cell? w _ h; omega)]; exact h

theorem EntAt.below {B : Nat} {w w' : World} {p : Addr} {e : ByteArray × Int × List ByteArray} (h : EntAt w p e) (hb : Below B w w') (hB : w.heap.size ≤ B) : EntAt w' p e := by
  obtain ⟨h0, h1, ka, kc, h2, h3⟩ := h
  exact ⟨cell_below hb hB h0, cell_below hb hB h1, ka, kc, cell_below hb hB h2, h3.below hb hB⟩

theorem FileAt.below {B : Nat} {w w' : World} {p : Addr} {e : ByteArray × ByteArray} (h : FileAt w p e) (hb : Below B w w') (hB : w.heap.size ≤ B) : FileAt w' p e :=
  ⟨cell_below hb hB h.1, cell_below hb hB h.2⟩

/-- At the address entries lie. -/
def LiesE (w : World) (a : Option Addr) (l : List (ByteArray × Int × List ByteArray)) : Prop :=
  l = [] ∨ ∃ x, a = some x ∧ ∀ j, j < l.length → EntAt w (x.add (j * 3)) (entOf l j)

/-- At the address files lie. -/
def LiesF (w : World) (a : Option Addr) (l : List (ByteArray × ByteArray)) : Prop :=
  l = [] ∨ ∃ x, a = some x ∧ ∀ j, j < l.length → FileAt w (x.add (j * 2)) (fileOf l j)

theorem LiesE.below {B : Nat} {w w' : World} {a : Option Addr} {l : List (ByteArray × Int × List ByteArray)} (h : LiesE w a l) (hb : Below B w w') (hB : w.heap.size ≤ B) : LiesE w' a l := by
  rcases h with h | ⟨x, rfl, h⟩
  · exact .inl h
  · exact .inr ⟨x, rfl, fun j hj => (h j hj).below hb hB⟩

theorem LiesF.below {B : Nat} {w w' : World} {a : Option Addr} {l : List (ByteArray × ByteArray)} (h : LiesF w a l) (hb : Below B w w') (hB : w.heap.size ≤ B) : LiesF w' a l := by
  rcases h with h | ⟨x, rfl, h⟩
  · exact .inl h
  · exact .inr ⟨x, rfl, fun j hj => (h j hj).below hb hB⟩

theorem LiesE.take {w : World} {a : Option Addr} {l : List (ByteArray × Int × List ByteArray)} (h : LiesE w a l) (m : Nat) : LiesE w a (l.take m) := by
  rcases h with rfl | ⟨x, rfl, h⟩
  · exact .inl (by simp)
  · refine .inr ⟨x, rfl, fun j hj => ?_⟩
    rw [List.length_take] at hj
    have := h j (by omega)
    rw [show entOf (l.take m) j = entOf l j by simp [entOf, List.getD_eq_getElem?_getD, show j < m by omega]]
    exact this

theorem LiesF.take {w : World} {a : Option Addr} {l : List (ByteArray × ByteArray)} (h : LiesF w a l) (m : Nat) : LiesF w a (l.take m) := by
  rcases h with rfl | ⟨x, rfl, h⟩
  · exact .inl (by simp)
  · refine .inr ⟨x, rfl, fun j hj => ?_⟩
    rw [List.length_take] at hj
    have := h j (by omega)
    rw [show fileOf (l.take m) j = fileOf l j by simp [fileOf, List.getD_eq_getElem?_getD, show j < m by omega]]
    exact this

theorem LiesE.at {w : World} {a : Option Addr} {l : List (ByteArray × Int × List ByteArray)} (h : LiesE w a l) {j : Nat} (hj : j < l.length) : ∃ x, a = some x ∧ EntAt w (x.add (j * 3)) (entOf l j) := by
  rcases h with rfl | ⟨x, rfl, h⟩
  · simp at hj
  · exact ⟨x, rfl, h j hj⟩

theorem LiesF.at {w : World} {a : Option Addr} {l : List (ByteArray × ByteArray)} (h : LiesF w a l) {j : Nat} (hj : j < l.length) : ∃ x, a = some x ∧ FileAt w (x.add (j * 2)) (fileOf l j) := by
  rcases h with rfl | ⟨x, rfl, h⟩
  · simp at hj
  · exact ⟨x, rfl, h j hj⟩

theorem len_text (s : ByteArray) (z : Nat) (hz : z = s.size) (w : World) : (Builtin.len_ #[9] 3 #[.string s]).run Tryd.prog w = .ok (.int .i64 (z : Int)) w := by
  rw [run_len_string w 9 3 s Tryd.underlying9, hz]; rfl

set_option maxRecDepth 100000 in
theorem index_ent (x : Addr) (n cap i : Nat) (hi : i < n) (w : World) : (Instr.indexAt 29 (.slice (some x) n cap) (.int .i64 (i : Int))).run Tryd.prog w = .ok (.pointer (some (x.add (i * 3)))) w := by
  rw [run_indexAt_slice w 29 x n cap .i64 i (by kernel_rfl), if_pos (by omega)]
  rfl
set_option maxRecDepth 100000 in
theorem index_file (x : Addr) (n cap i : Nat) (hi : i < n) (w : World) : (Instr.indexAt 22 (.slice (some x) n cap) (.int .i64 (i : Int))).run Tryd.prog w = .ok (.pointer (some (x.add (i * 2)))) w := by
  rw [run_indexAt_slice w 22 x n cap .i64 i (by kernel_rfl), if_pos (by omega)]
  rfl
theorem size30 (w : World) : (sizeOf 37).run Tryd.prog w = .ok 3 w := by kernel_rfl
theorem agg30 (w : World) : (isAgg 37).run Tryd.prog w = .ok true w := by kernel_rfl
theorem size58 (w : World) : (sizeOf 24).run Tryd.prog w = .ok 2 w := by kernel_rfl
theorem agg58 (w : World) : (isAgg 24).run Tryd.prog w = .ok true w := by kernel_rfl

theorem load_ent (p : Addr) (c0 c1 c2 : Value) (w : World) (h0 : w.cell? p = some c0) (h1 : w.cell? ⟨p.block, p.off + 1, none⟩ = some c1) (h2 : w.cell? ⟨p.block, p.off + 2, none⟩ = some c2) :
    (Instr.loadAt 37 (.pointer (some p))).run Tryd.prog w = .ok (.agg #[c0, c1, c2]) w := by
  have h := run_loadCells_list (P := Tryd.prog) w p [c0, c1, c2] (by
    intro j v hj
    match j, hj with
    | 0, hj => simp at hj; subst hj; exact h0
    | 1, hj => simp at hj; subst hj; exact h1
    | 2, hj => simp at hj; subst hj; exact h2
    | (j + 3), hj => simp at hj)
  have h' : (loadCells p 3).run Tryd.prog w = .ok #[c0, c1, c2] w := h
  simp [Instr.loadAt, Instr.sureAddr, loadVar, Result.andThen, h']

theorem load_file (p : Addr) (c0 c1 : Value) (w : World) (h0 : w.cell? p = some c0) (h1 : w.cell? ⟨p.block, p.off + 1, none⟩ = some c1) :
    (Instr.loadAt 24 (.pointer (some p))).run Tryd.prog w = .ok (.agg #[c0, c1]) w := by
  have h := run_loadCells_list (P := Tryd.prog) w p [c0, c1] (by
    intro j v hj
    match j, hj with
    | 0, hj => simp at hj; subst hj; exact h0
    | 1, hj => simp at hj; subst hj; exact h1
    | (j + 2), hj => simp at hj)
  have h' : (loadCells p 2).run Tryd.prog w = .ok #[c0, c1] w := h
  simp [Instr.loadAt, Instr.sureAddr, loadVar, Result.andThen, h']

/-- Is an entry short? -/
def shortE (e : ByteArray × Int × List ByteArray) : Prop := e.1.size ≤ 2000 ∧ e.2.2.length ≤ 1200 ∧ ∀ k, k < e.2.2.length → (e.2.2.getD k ByteArray.empty).size ≤ 2000

/-- What 'Short' tells: if true, the entries are few and short. -/
def Shorts (e : Ending) (n : Nat) (l : List (ByteArray × Int × List ByteArray)) : Prop := ∃ b, e = .returned (.bool b) ∧ (b = true → n ≤ 100 ∧ ∀ j, j < n → shortE (entOf l j))

theorem Shorts.no {e : Ending} {n : Nat} {l : List (ByteArray × Int × List ByteArray)} (h : e = .returned (.bool false)) : Shorts e n l := ⟨false, h, fun h => by cases h⟩
theorem Shorts.yes {e : Ending} {n : Nat} {l : List (ByteArray × Int × List ByteArray)} (h : e = .returned (.bool true)) (h1 : n ≤ 100) (h2 : ∀ j, j < n → shortE (entOf l j)) : Shorts e n l := ⟨true, h, fun _ => ⟨h1, h2⟩⟩
end Go.Proofs.YtcjkficpiedpfabDoor.Tree
