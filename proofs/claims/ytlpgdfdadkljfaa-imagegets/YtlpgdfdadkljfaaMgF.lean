/-
  Contracts that the walks stand on, several texts in one: CtMath, CtMem, CtRead, CtCount, CtFault, CtCopy, CtRow, CtLib, CtStep.
-/
import Derived.Test.YtlpgdfdadkljfaaMgE
import Derived.Test.YtlpgdfdadkljfaaMgA
import Derived.Test.YtlpgdfdadkljfaaMgD
import Derived.Deep.RegionHeld
import Derived.Maps.AppendAt
import Derived.Lib.SliceRun
import Derived.Lib.AppendZerosOnto
import Derived.Lib.Overlaps
import Derived.Lib.JoinLaws
import Derived.Laws.IdiomCopy
import Derived.Laws.Externs
import Derived.Laws.NewBlocks
import Derived.Shelf.RegionOpenPlain

/-
  A catalog in plain mathematics: its snapshots, and what operations come to.
-/
namespace Go.Proofs.Ytlpgdfdadkljfaa.Cat
open Go.RowKit Route Tree Order

abbrev Ent := ByteArray × Int × List ByteArray
/-- A snapshot: its client, its name, whether it is committed, its entries. -/
abbrev Snap := Int × ByteArray × Bool × List Ent
def noSnap : Snap := (0, ByteArray.empty, false, [])
def snapAt (S : List Snap) (i : Nat) : Snap := S.getD i noSnap

def isOne (c : Int) (nm : ByteArray) (s : Snap) : Bool := decide (s.1 = c) && decide (s.2.1 = nm)
/-- Where a client's snapshot stands, from the i-th on. -/
def place (c : Int) (nm : ByteArray) (S : List Snap) : Option Nat := S.findIdx? (isOne c nm)
def mine (c : Int) (s : Snap) : Bool := decide (s.1 = c)
def count (c : Int) (S : List Snap) : Nat := (S.filter (mine c)).length
def kept (c : Int) (s : Snap) : Bool := decide (s.1 = c) && s.2.2.1
def names (c : Int) (S : List Snap) : List ByteArray := (S.filter (kept c)).map (·.2.1)
def keysSize (l : List ByteArray) : Nat := (l.map (·.size)).sum
/-- Where an entry of a path is put. -/
def spot (E : List Ent) (p : ByteArray) : Nat := (E.takeWhile fun e => lt e.1 p).length
def putE (E : List Ent) (e : Ent) : List Ent := E.take (spot E e.1) ++ e :: E.drop (spot E e.1)
/-- Why an entry can't be added: an error's number; 0: it can. -/
def fault (E : List Ent) (p : ByteArray) (z : Int) : Nat := if (E.any fun x => clashB x.1 p) = true then 4 else if 32 ≤ E.length then 5 else if 1024 < z then 7 else 0
/-- Without the first k of a client's committed ones. -/
def pruned (c : Int) : Nat → List Snap → List Snap
  | _, [] => []
  | k, s :: S => if kept c s = true ∧ 0 < k then pruned c (k - 1) S else s :: pruned c k S
/-- All chunks. -/
def chunksOf (S : List Snap) : List ByteArray := S.flatMap fun s => s.2.2.2.flatMap (·.2.2)
/-- All chunks, each once, rising. -/
def Held (S : List Snap) (K : List ByteArray) : Prop := K.Pairwise (fun a b => lt a b = true) ∧ ∀ x, x ∈ K ↔ x ∈ chunksOf S

/-- Of a client's snapshot that is committed, or open, as d says: its place; or why there is none. -/
def found (c : Int) (nm : ByteArray) (d : Bool) (S : List Snap) : Nat × Nat :=
  match place c nm S with
  | none => (0, 3)
  | some i => if (snapAt S i).2.2.1 = d then (i, 0) else (0, 6)

theorem held_unique {S : List Snap} {K K' : List ByteArray} (h : Held S K) (h' : Held S K') : K = K' := by
  have hn : ∀ {L : List ByteArray}, L.Pairwise (fun a b => lt a b = true) → L.Nodup := fun h => List.Pairwise.imp (fun h => lt_ne h) h
  have hp : K.Perm K' := (List.perm_ext_iff_of_nodup (hn h.1) (hn h'.1)).2 fun x => (h.2 x).trans (h'.2 x).symm
  exact List.Perm.eq_of_pairwise (fun x y _ _ h1 h2 => by have := lt_asymm h1; rw [h2] at this; cases this) h.1 h'.1 hp

/-- An answer: code, number, names, chunks, entries. -/
structure Ans where
  code : Nat
  n : Int
  names : List ByteArray
  keys : List ByteArray
  ents : List Ent
def no (c : Nat) : Ans := ⟨c, 0, [], [], []⟩

def setSnap (S : List Snap) (i : Nat) (s : Snap) : List Snap := S.set i s

/-- What an operation comes to, but for OpHeld. -/
def step (S : List Snap) (r : Rq) : Ans × List Snap :=
  if may r = false then (no 1, S)
  else if r.k = 1 then
    if (place r.c r.nm S).isSome = true then (no 4, S) else if 8 ≤ count r.c S then (no 5, S) else (no 0, S ++ [(r.c, r.nm, false, [])])
  else if r.k = 2 then
    if (found r.c r.nm false S).2 ≠ 0 then (no (found r.c r.nm false S).2, S)
    else if fault (snapAt S (found r.c r.nm false S).1).2.2.2 r.pt (keysSize r.ks) ≠ 0 then (no (fault (snapAt S (found r.c r.nm false S).1).2.2.2 r.pt (keysSize r.ks)), S)
    else (no 0, S.set (found r.c r.nm false S).1 (r.c, r.nm, false, putE (snapAt S (found r.c r.nm false S).1).2.2.2 (r.pt, (keysSize r.ks : Int), r.ks)))
  else if r.k = 3 then
    if (found r.c r.nm false S).2 ≠ 0 then (no (found r.c r.nm false S).2, S)
    else (no 0, S.set (found r.c r.nm false S).1 (r.c, r.nm, true, (snapAt S (found r.c r.nm false S).1).2.2.2))
  else if r.k = 4 then
    if (found r.c r.nm false S).2 ≠ 0 then (no (found r.c r.nm false S).2, S) else (no 0, S.eraseIdx (found r.c r.nm false S).1)
  else if r.k = 5 then (⟨0, 0, names r.c S, [], []⟩, S)
  else if r.k = 6 then
    if (found r.c r.nm true S).2 ≠ 0 then (no (found r.c r.nm true S).2, S)
    else match (snapAt S (found r.c r.nm true S).1).2.2.2.find? (fun e => decide (e.1 = r.pt)) with
      | none => (no 3, S)
      | some e => (⟨0, e.2.1, [], e.2.2, []⟩, S)
  else if r.k = 7 then
    if (found r.c r.nm true S).2 ≠ 0 then (no (found r.c r.nm true S).2, S) else (⟨0, 0, [], [], (snapAt S (found r.c r.nm true S).1).2.2.2⟩, S)
  else if r.k = 8 then (⟨0, ((names r.c S).length - r.n.toNat : Nat), [], [], []⟩, pruned r.c ((names r.c S).length - r.n.toNat) S)
  else (no 1, S)

/-- May an entry be a catalog's? -/
def EOk (e : Ent) : Prop := e.1.size ≤ 520 ∧ e.2.2.length ≤ 16 ∧ ∀ s ∈ e.2.2, s.size ≤ 64
/-- May these be a catalog's snapshots? -/
structure Inv (S : List Snap) : Prop where
  client : ∀ s ∈ S, 0 ≤ s.1 ∧ s.1 ≤ 7
  name : ∀ s ∈ S, isPart s.2.1 = true
  tree : ∀ s ∈ S, isTree s.2.2.2
  ents : ∀ s ∈ S, ∀ e ∈ s.2.2.2, EOk e
  once : S.Pairwise fun a b => a.1 = b.1 → a.2.1 ≠ b.2.1
  most : ∀ c, count c S ≤ 8
end Go.Proofs.Ytlpgdfdadkljfaa.Cat

/-
  A catalog's snapshots in memory.
-/
namespace Go.Proofs.Ytlpgdfdadkljfaa.Cat
open Go.RowKit Route Tree

/-- A snapshot in memory: client, name, committed, its slice of entries, and these with their slices of chunks. -/
abbrev SZ := Int × ByteArray × Bool × Value × List (Ent × Value)
def snapOf (z : SZ) : Snap := (z.1, z.2.1, z.2.2.1, z.2.2.2.2.map (·.1))
def encS (z : SZ) : List Value := [.int .i64 z.1, .string z.2.1, .bool z.2.2.1, fix z.2.2.2.1]
def scells (Z : List SZ) : List Value := Z.flatMap encS
def noZ : SZ := (0, ByteArray.empty, false, .nilIface, [])
def szAt (Z : List SZ) (j : Nat) : SZ := Z.getD j noZ

theorem scells_len (Z : List SZ) : (scells Z).length = Z.length * 4 := by
  induction Z with
  | nil => rfl
  | cons z Z ih => simp only [scells, List.flatMap_cons, List.length_append, List.length_cons] at *; rw [ih]; simp [encS]; omega

theorem scells_app (Y Z : List SZ) : scells (Y ++ Z) = scells Y ++ scells Z := by simp [scells]

theorem scells_at : ∀ (Z : List SZ) (j c : Nat), j < Z.length → c < 4 → (scells Z)[j * 4 + c]? = (encS (szAt Z j))[c]?
  | [], j, c, h, _ => by simp at h
  | z :: Z, 0, c, _, hc => by
    have e : scells (z :: Z) = encS z ++ scells Z := by simp [scells]
    rw [e, Nat.zero_mul, Nat.zero_add, List.getElem?_append_left (by simp [encS]; omega)]
    rfl
  | z :: Z, j + 1, c, h, hc => by
    have e : scells (z :: Z) = encS z ++ scells Z := by simp [scells]
    rw [e, List.getElem?_append_right (by simp [encS]; omega)]
    have h4 : (encS z).length = 4 := rfl
    rw [h4, show (j + 1) * 4 + c - 4 = j * 4 + c by omega]
    have ih := scells_at Z j c (by simpa using h) hc
    rw [ih]
    simp [szAt]

theorem sz_mem {Z : List SZ} {j : Nat} (h : j < Z.length) : szAt Z j ∈ Z := by
  simp [szAt, List.getD_eq_getElem?_getD, h]
theorem sz_snap {Z : List SZ} {j : Nat} (h : j < Z.length) : snapAt (Z.map snapOf) j = snapOf (szAt Z j) := by
  simp [szAt, snapAt, List.getD_eq_getElem?_getD, h]
theorem sz_at {Z : List SZ} {j : Nat} (h : j < Z.length) : szAt Z j = Z[j] := by
  simp [szAt, List.getD_eq_getElem?_getD, h]

/-- At the place p a snapshot's cells lie. -/
def SnapAt (w : World) (p : Addr) (z : SZ) : Prop :=
  w.cell? p = some (.int .i64 z.1) ∧ w.cell? ⟨p.block, p.off + 1, none⟩ = some (.string z.2.1) ∧ w.cell? ⟨p.block, p.off + 2, none⟩ = some (.bool z.2.2.1) ∧ w.cell? ⟨p.block, p.off + 3, none⟩ = some (fix z.2.2.2.1)
/-- At the address snapshots' cells lie. -/
def LiesS (w : World) (a : Option Addr) (Z : List SZ) : Prop := Z = [] ∨ ∃ x, a = some x ∧ ∀ j, j < Z.length → SnapAt w (x.add (j * 4)) (szAt Z j)

theorem SnapAt.below {B : Nat} {w w' : World} {p : Addr} {z : SZ} (h : SnapAt w p z) (hb : Below B w w') (hB : w.heap.size ≤ B) : SnapAt w' p z :=
  ⟨cell_below hb hB h.1, cell_below hb hB h.2.1, cell_below hb hB h.2.2.1, cell_below hb hB h.2.2.2⟩

theorem LiesS.below {B : Nat} {w w' : World} {a : Option Addr} {Z : List SZ} (h : LiesS w a Z) (hb : Below B w w') (hB : w.heap.size ≤ B) : LiesS w' a Z := by
  rcases h with h | ⟨x, rfl, h⟩
  · exact .inl h
  · exact .inr ⟨x, rfl, fun j hj => (h j hj).below hb hB⟩

theorem LiesS.at {w : World} {a : Option Addr} {Z : List SZ} (h : LiesS w a Z) {j : Nat} (hj : j < Z.length) : ∃ x, a = some x ∧ SnapAt w (x.add (j * 4)) (szAt Z j) := by
  rcases h with rfl | ⟨x, rfl, h⟩
  · simp at hj
  · exact ⟨x, rfl, h j hj⟩

/-- A snapshot's entries lie in a row of the catalog's own, each one's chunks in one, too. -/
def ERow (B : Nat) (w : World) (z : SZ) : Prop := w.ownsRow B 57 3 z.2.2.2.1 z.2.2.2.2.length (cellsOf z.2.2.2.2) ∧ ∀ y ∈ z.2.2.2.2, KeyRow B w y

/-- In w the catalog at block p has the snapshots Z, in rows from block B on. -/
structure Cat (B p : Nat) (v : Value) (Z : List SZ) (w : World) : Prop where
  box : w.heap[p]? = some (.cells #[v] 60 (0, 0))
  low : B ≤ p
  row : w.ownsRow B 52 4 v Z.length (scells Z)
  ents : ∀ z ∈ Z, ERow B w z
  apart : Z.Pairwise fun a b => a.2.2.2.1.ownBlock = none ∨ a.2.2.2.1.ownBlock ≠ b.2.2.2.1.ownBlock

/-- The blocks that it turns. -/
def Owns (p : Nat) (v : Value) (Z : List SZ) (k : Nat) : Prop := k = p ∨ v.ownBlock = some k ∨ ∃ z ∈ Z, z.2.2.2.1.ownBlock = some k

/-- What is turned lies in blocks of F, or is new. -/
structure Turn (F : Nat → Prop) (w w' : World) : Prop where
  os : w'.os = w.os
  tape : w'.tape = w.tape
  output : w'.output = w.output
  size : w.heap.size ≤ w'.heap.size
  block : ∀ k, k < w.heap.size → ¬ F k → w'.heap[k]? = w.heap[k]?

theorem Turn.of_below {F : Nat → Prop} {w w' : World} (h : Below w.heap.size w w') : Turn F w w' := ⟨h.os, h.tape, h.output, h.size, fun k hk _ => h.block k hk⟩
theorem Turn.below {F : Nat → Prop} {w w' : World} {B : Nat} (h : Turn F w w') (hF : ∀ k, F k → B ≤ k) (hB : B ≤ w.heap.size) : Below B w w' :=
  ⟨h.os, h.tape, h.output, h.size, fun k hk => h.block k (by omega) fun hf => by have := hF k hf; omega⟩
theorem Turn.trans {F : Nat → Prop} {a b c : World} (h : Turn F a b) (g : Turn F b c) : Turn F a c :=
  ⟨g.os.trans h.os, g.tape.trans h.tape, g.output.trans h.output, Nat.le_trans h.size g.size, fun k hk hf => (g.block k (Nat.lt_of_lt_of_le hk h.size) hf).trans (h.block k hk hf)⟩
theorem Turn.mono {F G : Nat → Prop} {w w' : World} (h : Turn F w w') (hFG : ∀ k, k < w.heap.size → F k → G k) : Turn G w w' :=
  ⟨h.os, h.tape, h.output, h.size, fun k hk hg => h.block k hk fun hf => hg (hFG k hk hf)⟩
theorem Turn.grown {w w' : World} {F : Nat → Prop} {row : Option Nat} (h : w.grownBy w' row) (hF : ∀ k, row = some k → F k) : Turn F w w' :=
  ⟨h.os, h.tape, h.output, h.size, fun k hk hf => h.block k hk fun e => hf (hF k e.symm)⟩

theorem own_keep {B e s : Nat} {w w' : World} {v : Value} {n : Nat} {us : List Value} (h : w.ownsRow B e s v n us) (hk : ∀ g, v.ownBlock = some g → w'.heap[g]? = w.heap[g]?) : w'.ownsRow B e s v n us := by
  refine ⟨h.1, ?_⟩
  rcases h.2 with h0 | ⟨g, cap, cur, rfl, hb, hg, hr⟩
  · exact .inl h0
  · exact .inr ⟨g, cap, cur, rfl, hb, by rw [hk g rfl]; exact hg, hr⟩

theorem ERow.below {B : Nat} {w w' : World} {z : SZ} (h : ERow B w z) (hb : Below w.heap.size w w') : ERow B w' z :=
  ⟨own30_later h.1 hb, fun y hy => own30_later (h.2 y hy) hb⟩

/-- It stays where nothing of it has turned. -/
theorem Cat.below {B p : Nat} {v : Value} {Z : List SZ} {w w' : World} (h : Cat B p v Z w) (hb : Below w.heap.size w w') : Cat B p v Z w' :=
  ⟨by rw [hb.block p (Array.getElem?_eq_some_iff.1 h.box).1]; exact h.box, h.low, own30_later h.row hb, fun z hz => (h.ents z hz).below hb, h.apart⟩

theorem Cat.owns {B p : Nat} {v : Value} {Z : List SZ} {w : World} (h : Cat B p v Z w) {k : Nat} (hk : Owns p v Z k) : B ≤ k ∧ k < w.heap.size := by
  rcases hk with rfl | hk | ⟨z, hz, hk⟩
  · exact ⟨h.low, (Array.getElem?_eq_some_iff.1 h.box).1⟩
  · exact h.row.lt k hk
  · exact (h.ents z hz).1.lt k hk

theorem own_one {B e s n : Nat} {w : World} {v : Value} {xs : List Value} (h : w.ownsRow B e s v n xs) : v.oneCell' = true := by
  rcases h.2 with ⟨e, _⟩ | ⟨_, _, _, e, _⟩ <;> rw [e] <;> rfl
theorem fix_own {B e s n : Nat} {w : World} {v : Value} {xs : List Value} (h : w.ownsRow B e s v n xs) : fix v = v := by rw [fix, if_pos (own_one h)]

/-- What a call reads of it. -/
structure View (p : Nat) (a : Option Addr) (n cap : Nat) (Z : List SZ) (w : World) : Prop where
  box : w.heap[p]? = some (.cells #[.slice a n cap] 60 (0, 0))
  len : n = Z.length
  le : n ≤ cap
  max : cap ≤ maxLen
  lies : LiesS w a Z

theorem View.below {p : Nat} {a : Option Addr} {n cap : Nat} {Z : List SZ} {w w' : World} (h : View p a n cap Z w) (hb : Below w.heap.size w w') : View p a n cap Z w' :=
  ⟨by rw [hb.block p (Array.getElem?_eq_some_iff.1 h.box).1]; exact h.box, h.len, h.le, h.max, h.lies.below hb (Nat.le_refl _)⟩

theorem View.cell {p : Nat} {a : Option Addr} {n cap : Nat} {Z : List SZ} {w : World} (h : View p a n cap Z w) : w.cell? ⟨p, 0, none⟩ = some (.slice a n cap) := by
  rw [cell_of_row w p 0 _ _ (0, 0) h.box]; rfl

theorem row_lies {B : Nat} {v : Value} {Z : List SZ} {w : World} (h : w.ownsRow B 52 4 v Z.length (scells Z)) : ∃ a cap, v = .slice a Z.length cap ∧ Z.length ≤ cap ∧ cap ≤ maxLen ∧ LiesS w a Z := by
  rcases h.2 with ⟨rfl, h0⟩ | ⟨g, cap, cur, rfl, _, _, hc, hm, _⟩
  · have e0 : Z = [] := List.eq_nil_of_length_eq_zero h0
    subst e0
    exact ⟨none, 0, rfl, Nat.le_refl _, Nat.zero_le _, .inl rfl⟩
  · refine ⟨_, cap, rfl, hc, hm, .inr ⟨_, rfl, fun j hj => ?_⟩⟩
    have ea : ∀ m, (⟨g, 0, none⟩ : Addr).add m = ⟨g, m, none⟩ := fun m => by unfold Addr.add; split <;> simp_all
    have hc := fun c (hc : c < 4) => (h.cellAt (j * 4 + c) (by omega)).trans (scells_at Z j c hj hc)
    rw [ea]
    exact ⟨hc 0 (by decide), hc 1 (by decide), hc 2 (by decide), hc 3 (by decide)⟩

theorem Cat.view {B p : Nat} {v : Value} {Z : List SZ} {w : World} (h : Cat B p v Z w) : ∃ a cap, v = .slice a Z.length cap ∧ View p a Z.length cap Z w := by
  obtain ⟨a, cap, rfl, h1, h2, h3⟩ := row_lies h.row
  exact ⟨a, cap, rfl, h.box, rfl, h1, h2, h3⟩

theorem Cat.new (w : World) : Cat w.heap.size w.heap.size (.slice none 0 0) [] (w.alloc (.cells #[.slice none 0 0] 60)) :=
  ⟨heap_alloc_new w _, Nat.le_refl _, World.ownsRow_nil _ _ _ _, fun z hz => by simp at hz, List.Pairwise.nil⟩

set_option maxRecDepth 100000 in
theorem index_snap (x : Addr) (n cap i : Nat) (hi : i < n) (w : World) : (Instr.indexAt 22 (.slice (some x) n cap) (.int .i64 (i : Int))).run Try.prog w = .ok (.pointer (some (x.add (i * 4)))) w := by
  rw [run_indexAt_slice w 22 x n cap .i64 i (by kernel_rfl), if_pos (by omega)]
  rfl

theorem size52 (w : World) : (sizeOf 52).run Try.prog w = .ok 4 w := by kernel_rfl
theorem agg52 (w : World) : (isAgg 52).run Try.prog w = .ok true w := by kernel_rfl

theorem load_snap (p : Addr) (c0 c1 c2 c3 : Value) (w : World) (h0 : w.cell? p = some c0) (h1 : w.cell? ⟨p.block, p.off + 1, none⟩ = some c1) (h2 : w.cell? ⟨p.block, p.off + 2, none⟩ = some c2) (h3 : w.cell? ⟨p.block, p.off + 3, none⟩ = some c3) :
    (Instr.loadAt 52 (.pointer (some p))).run Try.prog w = .ok (.agg #[c0, c1, c2, c3]) w := by
  have h := run_loadCells_list (P := Try.prog) w p [c0, c1, c2, c3] (by
    intro j v hj
    match j, hj with
    | 0, hj => simp at hj; subst hj; exact h0
    | 1, hj => simp at hj; subst hj; exact h1
    | 2, hj => simp at hj; subst hj; exact h2
    | 3, hj => simp at hj; subst hj; exact h3
    | (j + 4), hj => simp at hj)
  have h' : (loadCells p 4).run Try.prog w = .ok #[c0, c1, c2, c3] w := h
  simp [Instr.loadAt, Instr.sureAddr, loadVar, Result.andThen, h']
end Go.Proofs.Ytlpgdfdadkljfaa.Cat

/-
  A catalog's snapshots as they are read: wherever they lie; what of a catalog reads so.
-/
namespace Go.Proofs.Ytlpgdfdadkljfaa.Cat
open Go.RowKit Route Tree

/-- At the place p a snapshot lies, its entries and their chunks beside it. -/
def SnapIn (w : World) (p : Addr) (s : Snap) : Prop :=
  w.cell? p = some (.int .i64 s.1) ∧ w.cell? ⟨p.block, p.off + 1, none⟩ = some (.string s.2.1) ∧ w.cell? ⟨p.block, p.off + 2, none⟩ = some (.bool s.2.2.1) ∧
    ∃ ea ec, w.cell? ⟨p.block, p.off + 3, none⟩ = some (.slice ea s.2.2.2.length ec) ∧ s.2.2.2.length ≤ ec ∧ (ea = none → ec = 0) ∧ LiesE w ea s.2.2.2

/-- At the address snapshots lie. -/
def LiesN (w : World) (a : Option Addr) (S : List Snap) : Prop := S = [] ∨ ∃ x, a = some x ∧ ∀ j, j < S.length → SnapIn w (x.add (j * 4)) (snapAt S j)

theorem SnapIn.below {B : Nat} {w w' : World} {p : Addr} {s : Snap} (h : SnapIn w p s) (hb : Below B w w') (hB : w.heap.size ≤ B) : SnapIn w' p s := by
  obtain ⟨h0, h1, h2, ea, ec, h3, h4, h5, h6⟩ := h
  exact ⟨cell_below hb hB h0, cell_below hb hB h1, cell_below hb hB h2, ea, ec, cell_below hb hB h3, h4, h5, h6.below hb hB⟩

theorem LiesN.below {B : Nat} {w w' : World} {a : Option Addr} {S : List Snap} (h : LiesN w a S) (hb : Below B w w') (hB : w.heap.size ≤ B) : LiesN w' a S := by
  rcases h with h | ⟨x, rfl, h⟩
  · exact .inl h
  · exact .inr ⟨x, rfl, fun j hj => (h j hj).below hb hB⟩

theorem LiesN.at {w : World} {a : Option Addr} {S : List Snap} (h : LiesN w a S) {j : Nat} (hj : j < S.length) : ∃ x, a = some x ∧ SnapIn w (x.add (j * 4)) (snapAt S j) := by
  rcases h with rfl | ⟨x, rfl, h⟩
  · simp at hj
  · exact ⟨x, rfl, h j hj⟩

/-- What a call reads of a catalog: its box, and the snapshots that it has. -/
structure See (p : Nat) (a : Option Addr) (n cap : Nat) (S : List Snap) (w : World) : Prop where
  cell : w.cell? ⟨p, 0, none⟩ = some (.slice a n cap)
  len : n = S.length
  le : n ≤ cap
  max : cap ≤ maxLen
  lies : LiesN w a S

theorem See.below {p : Nat} {a : Option Addr} {n cap : Nat} {S : List Snap} {B : Nat} {w w' : World} (h : See p a n cap S w) (hb : Below B w w') (hB : w.heap.size ≤ B) : See p a n cap S w' :=
  ⟨cell_below hb hB h.cell, h.len, h.le, h.max, h.lies.below hb hB⟩

/-- A row of entries that is owned, as it reads. -/
theorem erow_lies {B : Nat} {w : World} {v : Value} {Y : List (Ent × Value)} (h : w.ownsRow B 57 3 v Y.length (cellsOf Y)) (hk : ∀ y ∈ Y, KeyRow B w y) : ∃ a cap, v = .slice a Y.length cap ∧ Y.length ≤ cap ∧ cap ≤ maxLen ∧ (a = none → cap = 0) ∧ LiesE w a (Y.map (·.1)) := by
  rcases h.2 with ⟨rfl, hn⟩ | ⟨g, cap, cur, rfl, hb, hg, hnc, hcm, hcs, ht⟩
  · have : Y = [] := List.eq_nil_of_length_eq_zero hn
    subst this
    exact ⟨none, 0, rfl, Nat.le_refl _, Nat.zero_le _, fun _ => rfl, .inl rfl⟩
  · refine ⟨_, cap, rfl, hnc, hcm, (fun h => by cases h), .inr ⟨_, rfl, fun j hj => ?_⟩⟩
    have hj' : j < Y.length := by simpa using hj
    have hkk := hk _ (zOf_mem hj')
    have ez := enc_key hkk
    have c : ∀ k, k < 3 → w.cell? ⟨g, j * 3 + k, none⟩ = (enc (zOf Y j))[k]? := fun k hk => by
      rw [h.cellAt (j * 3 + k) (by omega), cellsOf_at Y j k hj' hk]
    have c0 := c 0 (by omega)
    have c1 := c 1 (by omega)
    have c2 := c 2 (by omega)
    rw [ez] at c0 c1 c2
    rw [zOf_map hj', Go.WideShapes.add_plain, Nat.zero_add]
    obtain ⟨ka, kc, e, hkk⟩ := key_lies hkk
    refine ⟨c0, c1, ka, kc, ?_, hkk⟩
    rw [← e]
    exact c2

theorem ERow.slice {B : Nat} {w : World} {z : SZ} (h : ERow B w z) : ∃ a cap, z.2.2.2.1 = .slice a (snapOf z).2.2.2.length cap ∧ (snapOf z).2.2.2.length ≤ cap ∧ (a = none → cap = 0) ∧ LiesE w a (snapOf z).2.2.2 := by
  obtain ⟨a, cap, h1, h2, _, h3, h4⟩ := erow_lies h.1 h.2
  have e : (snapOf z).2.2.2.length = z.2.2.2.2.length := by simp [snapOf]
  exact ⟨a, cap, by rw [e]; exact h1, by rw [e]; exact h2, h3, h4⟩

theorem rows_see {B : Nat} {v : Value} {Z : List SZ} {w : World} (h : w.ownsRow B 52 4 v Z.length (scells Z)) (he : ∀ z ∈ Z, ERow B w z) : ∃ a cap, v = .slice a Z.length cap ∧ Z.length ≤ cap ∧ cap ≤ maxLen ∧ (a = none → cap = 0) ∧ LiesN w a (Z.map snapOf) := by
  rcases h.2 with ⟨rfl, h0⟩ | ⟨g, cap, cur, rfl, _, _, hc, hm, _⟩
  · have e0 : Z = [] := List.eq_nil_of_length_eq_zero h0
    subst e0
    exact ⟨none, 0, rfl, Nat.le_refl _, Nat.zero_le _, fun _ => rfl, .inl rfl⟩
  · refine ⟨_, cap, rfl, hc, hm, (fun h => by cases h), .inr ⟨_, rfl, fun j hj => ?_⟩⟩
    have hj' : j < Z.length := by simpa using hj
    have ea : ∀ m, (⟨g, 0, none⟩ : Addr).add m = ⟨g, m, none⟩ := fun m => by unfold Addr.add; split <;> simp_all
    have hc := fun c (hc : c < 4) => (h.cellAt (j * 4 + c) (by omega)).trans (scells_at Z j c hj' hc)
    have hz := he _ (sz_mem hj')
    have h3 := hc 3 (by decide)
    obtain ⟨a, cap', e1, e2, e3, e4⟩ := hz.slice
    rw [ea, sz_snap hj']
    refine ⟨hc 0 (by decide), hc 1 (by decide), hc 2 (by decide), a, cap', ?_, e2, e3, e4⟩
    rw [← e1, ← fix_own hz.1]
    exact h3

theorem Cat.see {B p : Nat} {v : Value} {Z : List SZ} {w : World} (h : Cat B p v Z w) : ∃ a n cap, v = .slice a n cap ∧ See p a n cap (Z.map snapOf) w := by
  obtain ⟨a, cap, rfl, h1, h2, _, h3⟩ := rows_see h.row h.ents
  exact ⟨a, _, cap, rfl, by rw [cell_of_row w p 0 _ _ (0, 0) h.box]; rfl, by simp, h1, h2, h3⟩

/-- Where a snapshot stands, as a number; -1: nowhere. -/
def placeI (c : Int) (nm : ByteArray) (S : List Snap) : Int := match place c nm S with | none => -1 | some i => i

theorem placeI_hit {c : Int} {nm : ByteArray} {S : List Snap} {i : Nat} (hi : i < S.length) (h : isOne c nm (snapAt S i) = true) (h0 : ∀ j, j < i → isOne c nm (snapAt S j) = false) : placeI c nm S = (i : Int) := by
  have e : ∀ j (hj : j < S.length), snapAt S j = S[j] := fun j hj => by simp [snapAt, List.getD_eq_getElem?_getD, hj]
  have : place c nm S = some i := by
    unfold place
    rw [List.findIdx?_eq_some_iff_getElem]
    refine ⟨hi, by rw [← e i hi]; exact h, fun j hj => ?_⟩
    rw [← e j (by omega)]; simp [h0 j hj]
  unfold placeI
  rw [this]

theorem placeI_miss {c : Int} {nm : ByteArray} {S : List Snap} (h0 : ∀ j, j < S.length → isOne c nm (snapAt S j) = false) : placeI c nm S = -1 := by
  have : place c nm S = none := by
    unfold place
    rw [List.findIdx?_eq_none_iff]
    intro s hs
    obtain ⟨j, hj, rfl⟩ := List.mem_iff_getElem.1 hs
    have := h0 j hj
    simpa [snapAt, List.getD_eq_getElem?_getD, hj] using this
  unfold placeI
  rw [this]

set_option maxHeartbeats 2000000 in
set_option maxRecDepth 100000 in
/-- The predicate that 'place' hands on. -/
theorem pred_any (c0 : Int) (n0 : ByteArray) (d0 : Bool) (ea : Option Addr) (en ec : Nat) (bc bn : Nat) (c : Int) (nm : ByteArray) (w : World) (hc : w.cell? ⟨bc, 0, none⟩ = some (.int .i64 c)) (hn : w.cell? ⟨bn, 0, none⟩ = some (.string nm)) :
    Calls Try.prog 54 #[.agg #[.int .i64 c0, .string n0, .bool d0, .slice ea en ec], .pointer (some ⟨bc, 0, none⟩), .pointer (some ⟨bn, 0, none⟩)] w fun e w' => e = .returned (.bool (isOne c nm (c0, n0, d0, []))) ∧ Below w.heap.size w w' := by
  have hc' : (w.alloc (.cells #[.int .i64 c0, .string n0, .bool d0, .slice ea en ec] 52)).cell? ⟨bc, 0, none⟩ = some (.int .i64 c) := cell_kept ((Below.refl _ _).alloc (Nat.le_refl _) _) hc
  have hn' : (w.alloc (.cells #[.int .i64 c0, .string n0, .bool d0, .slice ea en ec] 52)).cell? ⟨bn, 0, none⟩ = some (.string nm) := cell_kept ((Below.refl _ _).alloc (Nat.le_refl _) _) hn
  have HB : Hid (Below w.heap.size w (w.alloc (.cells #[.int .i64 c0, .string n0, .bool d0, .slice ea en ec] 52))) := (Below.refl _ _).alloc (Nat.le_refl _) _
  by_cases h1 : c0 = c
  · subst h1
    by_cases h2 : n0 = nm
    · subst h2
      have e : isOne c0 n0 (c0, n0, d0, []) = true := by simp [isOne]
      rw [e]
      go_enter Try.func54, Try.ntmps54
      go_wp2
      go_ret
      exact ⟨by first | rfl | simp, HB.out⟩
    · have e : isOne c0 nm (c0, n0, d0, []) = false := by simp [isOne, h2]
      rw [e]
      have hne := ne_text h2
      clear h2
      go_enter Try.func54, Try.ntmps54
      go_wp2
      go_ret
      exact ⟨by first | rfl | simp, HB.out⟩
  · have e : isOne c nm (c0, n0, d0, []) = false := by simp [isOne, h1]
    rw [e]
    have hd : (c0 == c) = false := by simp [h1]
    clear h1
    go_enter Try.func54, Try.ntmps54
    go_wp2
    go_ret
    exact ⟨by first | rfl | simp, HB.out⟩

set_option maxHeartbeats 4000000 in
set_option maxRecDepth 100000 in
theorem indexFunc_any (a : Option Addr) (n cap : Nat) (S : List Snap) (bc bn : Nat) (c : Int) (nm : ByteArray) (w : World) (hnl : n = S.length) (hl : LiesN w a S) (hm : n ≤ 9223372036854775807) (hc : w.cell? ⟨bc, 0, none⟩ = some (.int .i64 c)) (hn : w.cell? ⟨bn, 0, none⟩ = some (.string nm)) :
    Calls Try.prog 53 #[.slice a n cap, .func (.func 54) #[] #[.pointer (some ⟨bc, 0, none⟩), .pointer (some ⟨bn, 0, none⟩)]] w fun e w' => e = .returned (.int .i64 (placeI c nm S)) ∧ Below w.heap.size w w' := by
  have HN : Hid (n = S.length) := hnl
  have HL : Hid (LiesN w a S) := hl
  have HC : Hid (∀ W, Below w.heap.size w W → W.cell? ⟨bc, 0, none⟩ = some (.int .i64 c) ∧ W.cell? ⟨bn, 0, none⟩ = some (.string nm)) := fun W hb => ⟨cell_kept hb hc, cell_kept hb hn⟩
  have HP : Hid (∀ (c0 : Int) (n0 : ByteArray) (d0 : Bool) (ea : Option Addr) (en ec : Nat) W, Below w.heap.size w W → Calls Try.prog 54 #[.agg #[.int .i64 c0, .string n0, .bool d0, .slice ea en ec], .pointer (some ⟨bc, 0, none⟩), .pointer (some ⟨bn, 0, none⟩)] W fun e w' => e = .returned (.bool (isOne c nm (c0, n0, d0, []))) ∧ Below W.heap.size W w') :=
    fun c0 n0 d0 ea en ec W hb => pred_any c0 n0 d0 ea en ec bc bn c nm W (HC.out W hb).1 (HC.out W hb).2
  clear hnl hl hc hn
  go_enter Try.func53, Try.ntmps53
  go_wp2
  go_loopw [5, 8] (fun _ t8 wr => ∃ i : Nat, t8 = .int .i64 (i : Int) ∧ i ≤ n ∧ Hid (Below w.heap.size w wr) ∧ Hid (∀ j, j < i → isOne c nm (snapAt S j) = false)) (fun _ t8 _ => n - (intOf t8).toNat)
  case atStart => exact ⟨0, rfl, Nat.zero_le _, Below.refl _ _, fun j hj => by omega⟩
  case round =>
    obtain ⟨i, rfl, hi, HB, HI⟩ := hrel
    by_cases hin : i < n
    · obtain ⟨x, hx, g0, g1, g2, ea, ec, g3, _, _, _⟩ := (HL.out.below HB.out (Nat.le_refl _)).at (j := i) (by rw [← HN.out]; exact hin)
      subst hx
      have HO : Hid (isOne c nm (snapAt S i) = isOne c nm ((snapAt S i).1, (snapAt S i).2.1, (snapAt S i).2.2.1, [])) := rfl
      generalize hs : snapAt S i = s at g0 g1 g2 g3 HO
      have HS : Hid (snapAt S i = s) := hs
      obtain ⟨c0, n0, d0, es⟩ := s
      simp only at g0 g1 g2 g3
      generalize es.length = en at g3
      have hix := index_snap x n cap i hin
      generalize x.add (i * 4) = q at g0 g1 g2 g3 hix
      have hcl := HP.out c0 n0 d0 ea en ec wr HB.out
      clear hs
      go_wp2_with fail
      refine hcl.mono ?_
      rintro e w2 ⟨rfl, hb2⟩
      have HB2 : Hid (Below w.heap.size w w2) := HB.out.trans (hb2.mono HB.out.size)
      clear hb2 hcl hix g0 g1 g2 g3
      cases ho : isOne c nm (c0, n0, d0, []) with
      | true =>
        have HH : Hid (placeI c nm S = (i : Int)) := placeI_hit (by rw [← HN.out]; exact hin) (by rw [HS.out]; exact ho) HI.out
        clear ho
        go_wp2
        go_ret
        exact ⟨by first | (rw [HH.out]; done) | (rw [HH.out]; rfl), HB2.out⟩
      | false =>
        have HI2 : Hid (∀ j, j < i + 1 → isOne c nm (snapAt S j) = false) := by
          intro j hj
          by_cases e : j = i
          · subst e; rw [HS.out]; exact ho
          · exact HI.out j (by omega)
        clear ho
        go_wp2
        go_roundw
        case rel => exact ⟨i + 1, by go_num, by omega, HB2, HI2⟩
        case measure => simp [intOf]; omega
    · have HH : Hid (placeI c nm S = -1) := placeI_miss fun j hj => HI.out j (by rw [← HN.out] at hj; omega)
      go_wp2
      go_ret
      exact ⟨by first | (rw [HH.out]; done) | (rw [HH.out]; rfl), HB.out⟩

set_option maxHeartbeats 4000000 in
set_option maxRecDepth 100000 in
theorem place_any (p : Nat) (a : Option Addr) (n cap : Nat) (S : List Snap) (c : Int) (nm : ByteArray) (w : World) (h : See p a n cap S w) :
    Calls Try.prog 40 #[.pointer (some ⟨p, 0, none⟩), .int .i64 c, .string nm] w fun e w' => e = .returned (.int .i64 (placeI c nm S)) ∧ Below w.heap.size w w' := by
  obtain ⟨W2, hW2⟩ : ∃ W2, W2 = (w.alloc (.cells #[.int .i64 c] 3)).alloc (.cells #[.string nm] 9) := ⟨_, rfl⟩
  have HB : Hid (Below w.heap.size w W2) := by rw [hW2]; exact ((Below.refl _ _).alloc (Nat.le_refl _) _).alloc (by simp) _
  have h2 := h.below HB.out (Nat.le_refl _)
  have hcell := h2.cell
  have HI : Hid (Calls Try.prog 53 #[.slice a n cap, .func (.func 54) #[] #[.pointer (some ⟨w.heap.size, 0, none⟩), .pointer (some ⟨w.heap.size + 1, 0, none⟩)]] W2 fun e w' => e = .returned (.int .i64 (placeI c nm S)) ∧ Below W2.heap.size W2 w') :=
    indexFunc_any a n cap S _ _ c nm W2 h2.len h2.lies (by have := h.le; have := h.max; unfold maxLen at this; omega) (by rw [hW2]; simp) (by rw [hW2]; simp)
  have HW : Hid (W2 = (w.alloc (.cells #[.int .i64 c] 3)).alloc (.cells #[.string nm] 9)) := hW2
  rw [hW2] at hcell
  clear h h2 hW2
  go_enter Try.func40, Try.ntmps40
  go_wp2_with fail
  rw [← HW.out]
  refine HI.out.mono ?_
  rintro e w2 ⟨rfl, hb⟩
  have HB2 : Hid (Below w.heap.size w w2) := HB.out.trans (hb.mono HB.out.size)
  clear hb
  go_wp2
  go_ret
  exact ⟨rfl, HB2.out⟩
end Go.Proofs.Ytlpgdfdadkljfaa.Cat

/-
  How many snapshots a client has; the names of those that are committed; where one stands that is, or is not; the bytes of chunks together.
-/
namespace Go.Proofs.Ytlpgdfdadkljfaa.Cat
open Go.RowKit Route Tree

theorem snap_take {S : List Snap} {i : Nat} (h : i < S.length) : S.take (i + 1) = S.take i ++ [snapAt S i] := by
  rw [List.take_succ_eq_append_getElem h]
  simp [snapAt, List.getD_eq_getElem?_getD, h]

theorem count_step {c : Int} {S : List Snap} {i : Nat} (h : i < S.length) : count c (S.take (i + 1)) = count c (S.take i) + if (snapAt S i).1 = c then 1 else 0 := by
  rw [snap_take h]
  unfold count
  rw [List.filter_append, List.length_append]
  by_cases e : (snapAt S i).1 = c
  · rw [if_pos e]; simp [mine, e]
  · rw [if_neg e]; simp [mine, e]

theorem count_le (c : Int) (S : List Snap) : count c S ≤ S.length := List.length_filter_le _ _

/-- The world that a round has when it has put a snapshot into a box of its own. -/
theorem box4 {w W : World} {a b c d : Value} {T : TypeId} (hb : Below (w.alloc (.cells #[a, b, c, d] T)).heap.size (w.alloc (.cells #[a, b, c, d] T)) W) :
    W.cell? ⟨w.heap.size, 0, none⟩ = some a ∧ W.cell? ⟨w.heap.size, 1, none⟩ = some b ∧ W.cell? ⟨w.heap.size, 2, none⟩ = some c ∧ W.cell? ⟨w.heap.size, 3, none⟩ = some d ∧ Below w.heap.size w W ∧ w.heap.size < W.heap.size := by
  refine ⟨cell_kept hb (by simp), cell_kept hb (by simp), cell_kept hb (by simp), cell_kept hb (by simp), ((Below.refl _ _).alloc (Nat.le_refl _) _).trans (hb.mono (by simp)), ?_⟩
  have := hb.size
  simp at this
  omega

set_option maxHeartbeats 4000000 in
set_option maxRecDepth 100000 in
theorem count_any (p : Nat) (a : Option Addr) (n cap : Nat) (S : List Snap) (c : Int) (w : World) (h : See p a n cap S w) :
    Calls Try.prog 39 #[.pointer (some ⟨p, 0, none⟩), .int .i64 c] w fun e w' => e = .returned (.int .i64 (count c S : Nat)) ∧ Below w.heap.size w w' := by
  have HN : Hid (n = S.length) := h.len
  have HL : Hid (LiesN w a S) := h.lies
  have hm : n ≤ 9223372036854775807 := by have := h.le; have := h.max; unfold maxLen at this; omega
  have hcell := h.cell
  clear h
  go_enter Try.func39, Try.ntmps39
  go_wp2
  go_loopw [5, 13] (fun t5 t13 wr => ∃ i m : Nat, t13 = .int .i64 (i : Int) ∧ t5 = .int .i64 (m : Int) ∧ i ≤ n ∧ m ≤ i ∧ Hid (m = count c (S.take i)) ∧ Hid (Below w.heap.size w wr)) (fun _ t13 _ => n - (intOf t13).toNat)
  case atStart => exact ⟨0, 0, rfl, rfl, Nat.zero_le _, Nat.le_refl _, (by simp [count] : 0 = count c (S.take 0)), Below.refl _ _⟩
  case round =>
    obtain ⟨i, m, rfl, rfl, hi, hmi, HM, HB⟩ := hrel
    clear hcell
    by_cases hin : i < n
    · obtain ⟨x, hx, g0, g1, g2, ea, ec, g3, _, _, _⟩ := (HL.out.below HB.out (Nat.le_refl _)).at (j := i) (by rw [← HN.out]; exact hin)
      subst hx
      have HS : Hid (count c (S.take (i + 1)) = count c (S.take i) + if (snapAt S i).1 = c then 1 else 0) := count_step (by rw [← HN.out]; exact hin)
      generalize snapAt S i = s at g0 g1 g2 g3 HS
      obtain ⟨c0, n0, d0, es⟩ := s
      simp only at g0 g1 g2 g3 HS
      generalize es.length = en at g3
      have hix := index_snap x n cap i hin
      generalize x.add (i * 4) = q at g0 g1 g2 g3 hix
      have HB2 : Hid (Below w.heap.size w (wr.alloc (.cells #[.int .i64 c0, .string n0, .bool d0, .slice ea en ec] 52))) := HB.out.alloc HB.out.size _
      by_cases hc : c0 = c
      · subst hc
        rw [if_pos rfl] at HS
        go_wp2
        go_roundw
        case rel => exact ⟨i + 1, m + 1, by go_num, by go_num, by omega, by omega, (by rw [HS.out, ← HM.out] : m + 1 = count c0 (S.take (i + 1))), HB2⟩
        case measure => simp [intOf]; omega
      · rw [if_neg hc] at HS
        have hd : (c0 == c) = false := by simp [hc]
        clear hc
        go_wp2
        go_roundw
        case rel => exact ⟨i + 1, m, by go_num, rfl, by omega, by omega, (by rw [HS.out, ← HM.out, Nat.add_zero] : m = count c (S.take (i + 1))), HB2⟩
        case measure => simp [intOf]; omega
    · have HH : Hid (count c S = m) := by
        have := HM.out
        rw [List.take_of_length_le (by rw [← HN.out]; omega)] at this
        exact this.symm
      go_wp2
      go_ret
      exact ⟨by first | (rw [HH.out]; done) | (rw [HH.out]; rfl), HB.out⟩

theorem names_step {c : Int} {S : List Snap} {i : Nat} (h : i < S.length) : names c (S.take (i + 1)) = names c (S.take i) ++ if (snapAt S i).1 = c ∧ (snapAt S i).2.2.1 = true then [(snapAt S i).2.1] else [] := by
  rw [snap_take h]
  unfold names
  rw [List.filter_append, List.map_append]
  by_cases e : (snapAt S i).1 = c ∧ (snapAt S i).2.2.1 = true
  · rw [if_pos e]; simp [kept, e.1, e.2]
  · rw [if_neg e]
    have : kept c (snapAt S i) = false := by
      cases h : kept c (snapAt S i) with
      | false => rfl
      | true => simp [kept] at h; exact absurd h e
    simp [this]

theorem names_le (c : Int) (S : List Snap) : (names c S).length ≤ S.length := by
  unfold names
  rw [List.length_map]
  exact List.length_filter_le _ _

theorem keys_step {l : List ByteArray} {i : Nat} (h : i < l.length) : keysSize (l.take (i + 1)) = keysSize (l.take i) + (l.getD i ByteArray.empty).size := by
  rw [List.take_succ_eq_append_getElem h]
  unfold keysSize
  rw [List.map_append, List.sum_append]
  simp [List.getD_eq_getElem?_getD, h]

theorem keys_bound {l : List ByteArray} {M : Nat} (h : ∀ j, j < l.length → (l.getD j ByteArray.empty).size ≤ M) : ∀ i, i ≤ l.length → keysSize (l.take i) ≤ i * M
  | 0, _ => by simp [keysSize]
  | i + 1, hi => by
    rw [keys_step (by omega)]
    have := keys_bound h i (by omega)
    have := h i (by omega)
    rw [Nat.add_mul]
    omega
end Go.Proofs.Ytlpgdfdadkljfaa.Cat

/-
  Why an entry can't be added: the program's 'faultOf'.
-/
namespace Go.Proofs.Ytlpgdfdadkljfaa.Cat
open Go.RowKit Route Tree

/-- A box of three cells. -/
theorem box3 {w W : World} {a b c : Value} {T : TypeId} (hb : Below (w.alloc (.cells #[a, b, c] T)).heap.size (w.alloc (.cells #[a, b, c] T)) W) :
    W.cell? ⟨w.heap.size, 0, none⟩ = some a ∧ W.cell? ⟨w.heap.size, 1, none⟩ = some b ∧ W.cell? ⟨w.heap.size, 2, none⟩ = some c ∧ Below w.heap.size w W ∧ w.heap.size < W.heap.size := by
  refine ⟨cell_kept hb (by simp), cell_kept hb (by simp), cell_kept hb (by simp), ((Below.refl _ _).alloc (Nat.le_refl _) _).trans (hb.mono (by simp)), ?_⟩
  have := hb.size
  simp at this
  omega
end Go.Proofs.Ytlpgdfdadkljfaa.Cat

/-
  Copies in new memory: texts, an entry, entries, a snapshot; all of a catalog's snapshots.
-/
namespace Go.Proofs.Ytlpgdfdadkljfaa.Cat
open Go.RowKit Route Tree

set_option maxHeartbeats 4000000 in
set_option maxRecDepth 100000 in
theorem copyTexts_any (ka : Option Addr) (kn kc : Nat) (ks : List ByteArray) (w : World) (hkn : kn = ks.length) (hk : Lies w ka ks) (hkm : kn ≤ 1000000000) (hks : ∀ j, j < ks.length → (ks.getD j ByteArray.empty).size ≤ 1000000) :
    Calls Try.prog 71 #[.slice ka kn kc] w fun e w' => ∃ v, e = .returned v ∧ Strs w.heap.size v ks w w' := by
  have HN : Hid (kn = ks.length) := hkn
  have HK : Hid (Lies w ka ks) := hk
  have hcl : Hid (∀ j, j < kn → ∀ W, Calls Try.prog 42 #[.string (ks.getD j ByteArray.empty)] W fun e w' => e = .returned (.string (ks.getD j ByteArray.empty)) ∧ Below W.heap.size W w') := fun j hj W => Route.clone_any _ W (by have := hks j (by rw [← hkn]; exact hj); omega)
  clear hkn hk hks
  go_enter Try.func71, Try.ntmps71
  go_wp2
  go_loopw [3, 5, 8] (fun t3 _ t8 wr => ∃ i : Nat, t8 = .int .i64 (i : Int) ∧ i ≤ kn ∧ Hid (Strs w.heap.size t3 (ks.take i) w wr)) (fun _ _ t8 _ => kn - (intOf t8).toNat)
  case atStart => exact ⟨0, rfl, Nat.zero_le _, Strs.nil w⟩
  case round =>
    obtain ⟨i, rfl, hi, HST⟩ := hrel
    by_cases hin : i < kn
    · obtain ⟨x, hx, hc⟩ := (HK.out.below HST.out.2.1 (Nat.le_refl _)).cellAt (j := i) (by rw [← HN.out]; exact hin)
      subst hx
      have hcc := hcl.out i hin
      have HT : Hid (ks.take (i + 1) = ks.take i ++ [ks.getD i ByteArray.empty]) := by
        show _ = _
        rw [List.take_succ_eq_append_getElem (by rw [← HN.out]; exact hin)]
        simp [List.getD_eq_getElem?_getD, show i < ks.length by rw [← HN.out]; exact hin]
      have HTL : Hid ((ks.take i).length ≤ 1000000000) := by show _ ≤ _; rw [List.length_take]; omega
      generalize ks.getD i ByteArray.empty = k at hc hcc HT
      generalize ks.take i = d at HST HT HTL
      go_wp2_with (first
        | (go_at_call 42; refine (hcc _).mono ?_; rintro e w3 ⟨rfl, hb3⟩)
        | (at_builtin; refine wpList_str rfl (.tmp 12) (.tmp 15) rfl w.heap.size _ d rfl w w3 k (HST.out.later hb3) rfl (by have := HTL.out; omega) ?_; intro v' w4 hb4))
      go_roundw
      case rel => exact ⟨i + 1, by go_num, by omega, by rw [HT.out]; exact hb4⟩
      case measure => simp [intOf]; omega
    · have HH : Hid (Strs w.heap.size u3 ks w wr) := by
        have h9 := HST.out
        rw [List.take_of_length_le (by rw [← HN.out]; omega)] at h9
        exact h9
      go_wp2
      go_ret
      exact ⟨_, rfl, HH.out⟩

/-- What is asked of an entry that is copied. -/
def EShort (e : Ent) : Prop := e.1.size ≤ 100000 ∧ e.2.2.length ≤ 1000000 ∧ ∀ j, j < e.2.2.length → (e.2.2.getD j ByteArray.empty).size ≤ 1000000

set_option maxHeartbeats 8000000 in
set_option maxRecDepth 100000 in
theorem copyEntry_any (p : ByteArray) (sz : Int) (ka : Option Addr) (kn kc : Nat) (ks : List ByteArray) (w : World) (hs : EShort (p, sz, ks)) (hkn : kn = ks.length) (hk : Lies w ka ks) :
    Calls Try.prog 59 #[.agg #[.string p, .int .i64 sz, .slice ka kn kc]] w fun e w' => ∃ v, e = .returned (.agg #[.string p, .int .i64 sz, v]) ∧ Strs w.heap.size v ks w w' := by
  obtain ⟨hps, hkm, hks⟩ := hs
  simp only at hps hkm hks
  obtain ⟨W2, hW2⟩ : ∃ W2, W2 = (w.alloc (.cells #[.string p, .int .i64 sz, .slice ka kn kc] 57)).alloc (.cells #[.string ⟨#[]⟩, .int .i64 0, .slice none 0 0] 57) := ⟨_, rfl⟩
  have HW : Hid (W2 = (w.alloc (.cells #[.string p, .int .i64 sz, .slice ka kn kc] 57)).alloc (.cells #[.string ⟨#[]⟩, .int .i64 0, .slice none 0 0] 57)) := hW2
  have HB0 : Hid (Below w.heap.size w W2) := by rw [hW2]; exact ((Below.refl _ _).alloc (Nat.le_refl _) _).alloc (by simp) _
  have HS : Hid (W2.heap.size = w.heap.size + 2) := by rw [hW2]; show _ = _; simp
  have HC : Hid (∀ wr, Below W2.heap.size W2 wr →
      (wr.cell? ⟨w.heap.size + 1, 0, none⟩ = some (.string ⟨#[]⟩) ∧ wr.cell? ⟨w.heap.size + 1, 1, none⟩ = some (.int .i64 0) ∧ wr.cell? ⟨w.heap.size + 1, 2, none⟩ = some (.slice none 0 0)) ∧
      wr.frozen? ⟨w.heap.size + 1, 0, none⟩ = false ∧ wr.frozen? ⟨w.heap.size + 1, 1, none⟩ = false ∧ wr.frozen? ⟨w.heap.size + 1, 2, none⟩ = false) := by
    intro wr hb
    refine ⟨⟨cell_kept hb ?_, cell_kept hb ?_, cell_kept hb ?_⟩, ?_, ?_, ?_⟩
    · rw [hW2]; simp
    · rw [hW2]; simp
    · rw [hW2]; simp
    all_goals
      rw [hb.frozen (show w.heap.size + 1 < _ by have := HS.out; omega), hW2]
      exact World.frozen?_alloc_at _ _ _ _ (by simp)
  have h20 : W2.cell? ⟨w.heap.size, 0, none⟩ = some (.string p) := by rw [hW2]; simp
  have h21 : W2.cell? ⟨w.heap.size, 1, none⟩ = some (.int .i64 sz) := by rw [hW2]; simp
  have h22 : W2.cell? ⟨w.heap.size, 2, none⟩ = some (.slice ka kn kc) := by rw [hW2]; simp
  have HSS : Hid (∀ W, Below W2.heap.size W2 W → Below W2.heap.size W2 W ∧ W.cell? ⟨w.heap.size, 0, none⟩ = some (.string p) ∧ W.cell? ⟨w.heap.size, 1, none⟩ = some (.int .i64 sz) ∧ W.cell? ⟨w.heap.size, 2, none⟩ = some (.slice ka kn kc)) := fun W hb => ⟨hb, cell_kept hb h20, cell_kept hb h21, cell_kept hb h22⟩
  have HQ : Hid (∀ W, Below W2.heap.size W2 W → Calls Try.prog 71 #[.slice ka kn kc] W fun e w' => ∃ a3 cap3, e = .returned (.slice a3 kn cap3) ∧ (w'.cell? ⟨w.heap.size, 0, none⟩ = some (.string p) ∧ w'.cell? ⟨w.heap.size, 1, none⟩ = some (.int .i64 sz) ∧ w'.cell? ⟨w.heap.size, 2, none⟩ = some (.slice ka kn kc)) ∧ Hid (Strs W2.heap.size (.slice a3 kn cap3) ks W2 w')) := by
    intro W hb
    have hbw := HB0.out.trans (hb.mono (by have := HS.out; omega))
    refine (copyTexts_any ka kn kc ks W hkn (hk.below hbw (Nat.le_refl _)) (by omega) hks).mono ?_
    rintro e w' ⟨v, rfl, hst⟩
    obtain ⟨a3, cap3, rfl, _, _, _⟩ := hst.liesN hkn
    exact ⟨a3, cap3, rfl, (HSS.out w' (hb.trans (hst.2.1.mono hb.size))).2, own_mono hst.1 hb.size, hb.trans (hst.2.1.mono hb.size), Nat.le_trans hb.size hst.2.2⟩
  have HP : Hid (∀ W, Below W2.heap.size W2 W → Calls Try.prog 42 #[.string p] W fun e w' => e = .returned (.string p) ∧ (w'.cell? ⟨w.heap.size, 0, none⟩ = some (.string p) ∧ w'.cell? ⟨w.heap.size, 1, none⟩ = some (.int .i64 sz) ∧ w'.cell? ⟨w.heap.size, 2, none⟩ = some (.slice ka kn kc)) ∧ Hid (Below W.heap.size W w') ∧ Hid (Below W2.heap.size W2 w')) := by
    intro W hb
    refine (Route.clone_any p W (by omega)).mono ?_
    rintro e w' ⟨rfl, h⟩
    exact ⟨rfl, (HSS.out w' (hb.trans (h.mono hb.size))).2, h, hb.trans (h.mono hb.size)⟩
  clear hps hkm hks hkn hk hW2 h20 h21 h22
  have hne : w.heap.size + 1 ≠ w.heap.size := by omega
  go_enter Try.func59, Try.ntmps59
  go_wp2_with fail
  rw [← HW.out]
  obtain ⟨_, p0, p1, p2⟩ := HSS.out W2 (Below.refl _ _)
  go_region_held (fun W => (W.cell? ⟨w.heap.size, 0, none⟩ = some (.string p) ∧ W.cell? ⟨w.heap.size, 1, none⟩ = some (.int .i64 sz) ∧ W.cell? ⟨w.heap.size, 2, none⟩ = some (.slice ka kn kc)))
    (first | assumption | exact ⟨p0, p1, p2⟩ | (refine ⟨?_, ?_, ?_⟩ <;> (rw [World.cell?_setCell_far _ _ _ _ hne, World.cell?_setCell_far _ _ _ _ hne, World.cell?_setCell_far _ _ _ _ hne]; first | exact hb3.1 | exact hb3.2.1 | exact hb3.2.2 | exact hb4.1 | exact hb4.2.1 | exact hb4.2.2)))
    (first
      | (go_at_call 42; refine (HP.out _ (by first | exact hs3.out.2.1 | exact (Below.refl _ _).drew)).mono ?_; rintro e w4 ⟨rfl, hb4, hc4, hB4⟩; obtain ⟨⟨e0, e1, e2⟩, r0, r1, r2⟩ := HC.out w4 hB4.out)
      | (go_at_call 71; refine (HQ.out _ (by first | exact hB4.out | exact (Below.refl _ _).drew)).mono ?_; rintro e w3 ⟨a3, cap3, rfl, hb3, hs3⟩; obtain ⟨⟨z0, z1, z2⟩, v0, v1, v2⟩ := HC.out w3 hs3.out.2.1))
  all_goals first
    | (have HO : Hid (Strs W2.heap.size (.slice a3 kn cap3) ks W2 w4) := hs3.out.later hc4.out
       obtain ⟨⟨d0, d1, d2⟩, f0, f1, f2⟩ := HC.out _ HO.out.2.1
       have hsz := HS.out
       clear hb3 hb4 hc4 hs3
       go_wp2
       refine bodyPost_ret (v := .agg #[.string p, .int .i64 sz, .slice a3 kn cap3]) (by simp [results, Try.results59, go_sem, d0, d1, d2]) rfl ?_
       refine ⟨_, rfl, ?_⟩
       have hown := own_far (i := 2) (x := .slice a3 kn cap3) (own_far (i := 1) (x := .int .i64 sz) (own_far (i := 0) (x := .string p) HO.out.1 (show w.heap.size + 1 < _ by omega)) (show w.heap.size + 1 < _ by omega)) (show w.heap.size + 1 < _ by omega)
       refine ⟨own_mono hown (by omega), ?_, ?_⟩
       · exact (((HB0.out.trans (HO.out.2.1.mono (by omega))).setCell (show w.heap.size ≤ w.heap.size + 1 by omega) _).setCell (show w.heap.size ≤ w.heap.size + 1 by omega) _).setCell (show w.heap.size ≤ w.heap.size + 1 by omega) _
       · have := HO.out.2.1.size
         simp
         omega)
    | (have HO : Hid (Strs W2.heap.size (.slice a3 kn cap3) ks W2 w3) := hs3.out
       obtain ⟨⟨d0, d1, d2⟩, f0, f1, f2⟩ := HC.out _ HO.out.2.1
       have hsz := HS.out
       clear hb3 hb4 hc4 hs3
       go_wp2
       refine bodyPost_ret (v := .agg #[.string p, .int .i64 sz, .slice a3 kn cap3]) (by simp [results, Try.results59, go_sem, d0, d1, d2]) rfl ?_
       refine ⟨_, rfl, ?_⟩
       have hown := own_far (i := 2) (x := .slice a3 kn cap3) (own_far (i := 1) (x := .int .i64 sz) (own_far (i := 0) (x := .string p) HO.out.1 (show w.heap.size + 1 < _ by omega)) (show w.heap.size + 1 < _ by omega)) (show w.heap.size + 1 < _ by omega)
       refine ⟨own_mono hown (by omega), ?_, ?_⟩
       · exact (((HB0.out.trans (HO.out.2.1.mono (by omega))).setCell (show w.heap.size ≤ w.heap.size + 1 by omega) _).setCell (show w.heap.size ≤ w.heap.size + 1 by omega) _).setCell (show w.heap.size ≤ w.heap.size + 1 by omega) _
       · have := HO.out.2.1.size
         simp
         omega)
end Go.Proofs.Ytlpgdfdadkljfaa.Cat

/-
  Rows of snapshots that a call owns: one more behind them; copies of entries, of a snapshot; all of a catalog's snapshots.
-/
namespace Go.Proofs.Ytlpgdfdadkljfaa.Cat
open Go.RowKit Route Tree

/-- Rows of different kinds lie in different blocks. -/
theorem kinds {w : World} {B B' : Nat} {e e' : TypeId} {v v' : Value} {n n' s s' : Nat} {xs xs' : List Value} (h : w.ownsRow B e s v n xs) (h' : w.ownsRow B' e' s' v' n' xs') (hne : e ≠ e') : v'.ownBlock = none ∨ v'.ownBlock ≠ v.ownBlock := by
  rcases h'.2 with ⟨rfl, _⟩ | ⟨g', cap', cur', rfl, _, e1, _⟩
  · exact .inl rfl
  · right
    rcases h.2 with ⟨rfl, _⟩ | ⟨g, cap, cur, rfl, _, e2, _⟩
    · simp [Value.ownBlock]
    · simp only [Value.ownBlock, ne_eq, Option.some.injEq]
      rintro rfl
      rw [e1] at e2
      simp at e2
      exact hne e2.2.symm

/-- Two snapshots' rows of entries lie apart. -/
def Apart (a b : SZ) : Prop := a.2.2.2.1.ownBlock = none ∨ a.2.2.2.1.ownBlock ≠ b.2.2.2.1.ownBlock

/-- A row of snapshots that is owned. -/
structure SRow (B : Nat) (v : Value) (Z : List SZ) (w : World) : Prop where
  own : w.ownsRow B 52 4 v Z.length (scells Z)
  ents : ∀ z ∈ Z, ERow B w z
  apart : Z.Pairwise Apart

theorem SRow.nil (B : Nat) (w : World) : SRow B (.slice none 0 0) [] w := ⟨World.ownsRow_nil _ _ _ _, fun z hz => by simp at hz, List.Pairwise.nil⟩
theorem SRow.below {B : Nat} {v : Value} {Z : List SZ} {w w' : World} (h : SRow B v Z w) (hb : Below w.heap.size w w') : SRow B v Z w' :=
  ⟨own30_later h.own hb, fun z hz => (h.ents z hz).below hb, h.apart⟩
theorem SRow.any {B B' : Nat} {v : Value} {Z : List SZ} {w : World} (h : SRow B v Z w) (hB : B' ≤ B) : SRow B' v Z w :=
  ⟨own_any h.own hB, fun z hz => ⟨own_any (h.ents z hz).1 hB, fun y hy => own_any ((h.ents z hz).2 y hy) hB⟩, h.apart⟩

theorem ERow.kept {B B' : Nat} {v : Value} {n : Nat} {xs : List Value} {w w' : World} {z : SZ} (h : ERow B w z) (hv : w.ownsRow B' 52 4 v n xs) (hg : w.grownBy w' v.ownBlock) : ERow B w' z :=
  ⟨h.1.kept hg (kinds hv h.1 (by decide)), fun y hy => World.ownsRow.kept (h.2 y hy) hg (kinds hv (h.2 y hy) (by decide))⟩

theorem info52 : (Try.prog.info? 52).map (fun i => (i.zero, i.size, i.bytes)) = some (some (.agg #[.int .i64 0, .string ByteArray.empty, .bool false, .slice none 0 0]), 4, 56) := by kernel_rfl

theorem encS_own {B : Nat} {w : World} {z : SZ} (h : ERow B w z) : encS z = [.int .i64 z.1, .string z.2.1, .bool z.2.2.1, z.2.2.2.1] := by rw [encS, fix_own h.1]

/-- 'append(l, s)': its run. -/
theorem run_snap {B : Nat} {v : Value} {Z : List SZ} {w0 : World} {z : SZ} {ty : TypeId} (h : SRow B v Z w0) (hB : B ≤ w0.heap.size) (hz : ERow B w0 z) (ha : ∀ y ∈ Z, Apart y z) (hlen : Z.length + 1 ≤ 1000000) :
    ∃ v' w', (Builtin.append_ #[22, 22] ty #[v, .slice (some ⟨w0.heap.size, 0, none⟩) 1 1]).run Try.prog (w0.alloc (.cells #[.int .i64 z.1, .string z.2.1, .bool z.2.2.1, z.2.2.2.1] 52)) = .ok v' w' ∧
      SRow B v' (Z ++ [z]) w' ∧ (w0.alloc (.cells #[.int .i64 z.1, .string z.2.1, .bool z.2.2.1, z.2.2.2.1] 52)).grownBy w' v.ownBlock ∧ (v'.ownBlock = v.ownBlock ∨ v'.ownBlock = some (w0.heap.size + 1)) := by
  obtain ⟨i0, hi, hz0, hz1, hz2⟩ := info_parts info52
  have hb : Below w0.heap.size w0 (w0.alloc (.cells #[.int .i64 z.1, .string z.2.1, .bool z.2.2.1, z.2.2.2.1] 52)) := (Below.refl _ _).alloc (Nat.le_refl _) _
  have h' := h.below hb
  have hz' := hz.below hb
  have hone := own_one hz.1
  obtain ⟨v', w', hr, h2, h3, _, h5⟩ := run_append_own_at (P := Try.prog) (w0.alloc (.cells #[.int .i64 z.1, .string z.2.1, .bool z.2.2.1, z.2.2.2.1] 52)) B 22 ty 52 i0 (.agg #[.int .i64 0, .string ByteArray.empty, .bool false, .slice none 0 0]) 4 56 Try.underlying22 hi hz0 hz1 hz2 rfl (by decide) v Z.length (scells Z) h'.own ⟨w0.heap.size, 0, none⟩ 1 1 [.int .i64 z.1, .string z.2.1, .bool z.2.2.1, z.2.2.2.1] rfl
    (by
      intro j u hj
      match j, hj with
      | 0, hj => simp at hj; subst hj; simp [Addr.add]
      | 1, hj => simp at hj; subst hj; simp [Addr.add]
      | 2, hj => simp at hj; subst hj; simp [Addr.add]
      | 3, hj => simp at hj; subst hj; simp [Addr.add]
      | (j + 4), hj => simp at hj)
    (by
      intro u hu
      simp at hu
      rcases hu with rfl | rfl | rfl | rfl
      · rfl
      · rfl
      · rfl
      · exact hone)
    (by unfold maxLen; omega) (by omega) (Nat.le_trans hB hb.size)
  refine ⟨v', w', hr, ⟨?_, fun y hy => ?_, List.pairwise_append.2 ⟨h.apart, by simp, fun a ha' b hb' => by rw [List.mem_singleton.1 hb']; exact ha a ha'⟩⟩, h3, ?_⟩
  · rw [scells_app, List.length_append]
    have e : scells [z] = [.int .i64 z.1, .string z.2.1, .bool z.2.2.1, z.2.2.2.1] := by simp [scells, encS_own hz]
    rw [e]
    exact h2
  · rcases List.mem_append.1 hy with hy | hy
    · exact (h'.ents y hy).kept h'.own h3
    · rw [List.mem_singleton.1 hy]; exact hz'.kept h'.own h3
  · simpa using h5

/-- The same where the walk comes to it. -/
theorem wpList_snap {ops : Array Oper} {rest : List Oper} {o : Oper} {a : Act} {Q : Exit → Act → World → Prop} (hgd : o.guard = none) (s x : Operand)
    (ho : o.op = .call { callee := .builtin .append, args := #[s, x], argTypes := #[22, 22] })
    (B : Nat) (v : Value) (Z : List SZ) (hs : a.eval s = v) (w0 : World) (z : SZ) (hb : SRow B v Z w0) (hB : B ≤ w0.heap.size) (hz : ERow B w0 z) (ha : ∀ y ∈ Z, Apart y z)
    (hx : a.eval x = .slice (some ⟨w0.heap.size, 0, none⟩) 1 1) (hlen : Z.length + 1 ≤ 1000000)
    (h : ∀ v' w', Hid (SRow B v' (Z ++ [z]) w') → Hid ((w0.alloc (.cells #[.int .i64 z.1, .string z.2.1, .bool z.2.2.1, z.2.2.2.1] 52)).grownBy w' v.ownBlock) → wpList Try.prog ops Q rest (a.put o.dst v') w') : wpList Try.prog ops Q (o :: rest) a (w0.alloc (.cells #[.int .i64 z.1, .string z.2.1, .bool z.2.2.1, z.2.2.2.1] 52)) := by
  refine wpList_plain hgd fun K hK => ?_
  obtain ⟨v', w', hr, h1, h2, _⟩ := run_snap (ty := o.type) hb hB hz ha hlen
  unfold Oper.wp execOp
  simp only [ho, resolve, invoke, builtin, Sem.run_bind, Sem.run_pure, Result.andThen_ok, List.map_toArray, List.map_cons, List.map_nil, hs, hx, hr]
  exact hK _ _ (h v' w' h1 h2)

set_option maxHeartbeats 4000000 in
set_option maxRecDepth 100000 in
theorem copyEntries_any (ea : Option Addr) (en ec : Nat) (E : List Ent) (w : World) (hen : en = E.length) (hl : LiesE w ea E) (hm : en ≤ 100000) (hs : ∀ e ∈ E, EShort e) :
    Calls Try.prog 43 #[.slice ea en ec] w fun e w' => ∃ v Y, e = .returned v ∧ Y.map (·.1) = E ∧ Ents w.heap.size v Y w w' := by
  have HN : Hid (en = E.length) := hen
  have HL : Hid (LiesE w ea E) := hl
  have hcl : Hid (∀ j, j < en → ∀ (ka : Option Addr) (kc : Nat) W, Lies W ka (entOf E j).2.2 → Calls Try.prog 59 #[.agg #[.string (entOf E j).1, .int .i64 (entOf E j).2.1, .slice ka (entOf E j).2.2.length kc]] W fun e w' => ∃ v, e = .returned (.agg #[.string (entOf E j).1, .int .i64 (entOf E j).2.1, v]) ∧ Strs W.heap.size v (entOf E j).2.2 W w') := fun j hj ka kc W h =>
    copyEntry_any _ _ ka _ kc _ W (hs (entOf E j) (ent_mem (by rw [← hen]; exact hj))) rfl h
  clear hen hl hs
  go_enter Try.func43, Try.ntmps43
  go_wp2
  go_loopw [3, 8] (fun t3 t8 wr => ∃ (i : Nat) (Y : List (Ent × Value)), t8 = .int .i64 (i : Int) ∧ i ≤ en ∧ Hid (Y.map (·.1) = E.take i) ∧ Hid (Ents w.heap.size t3 Y w wr)) (fun _ t8 _ => en - (intOf t8).toNat)
  case atStart => exact ⟨0, [], rfl, Nat.zero_le _, (by simp : List.map (·.1) ([] : List (Ent × Value)) = E.take 0), Ents.nil w⟩
  case round =>
    obtain ⟨i, Y, rfl, hi, HY, HE⟩ := hrel
    by_cases hin : i < en
    · obtain ⟨x, hx, g0, g1, ka, kc, g2, hk⟩ := (HL.out.below HE.out.2.1 (Nat.le_refl _)).at (j := i) (by rw [← HN.out]; exact hin)
      subst hx
      have hcc := hcl.out i hin ka kc
      have HT : Hid (E.take (i + 1) = E.take i ++ [entOf E i]) := take_succ_ent (by rw [← HN.out]; exact hin)
      have HYL : Hid (Y.length + 1 ≤ 1000000) := by
        have := congrArg List.length HY.out
        rw [List.length_map, List.length_take] at this
        show _ ≤ _
        omega
      generalize entOf E i = en0 at g0 g1 g2 hk hcc HT
      obtain ⟨p, sz, ks⟩ := en0
      simp only at g0 g1 g2 hk hcc
      obtain ⟨kn, hkn⟩ : ∃ kn, kn = ks.length := ⟨_, rfl⟩
      have HK : Hid (kn = ks.length) := hkn
      rw [← hkn] at g2 hcc
      have hix := index_ent x en ec i hin
      generalize x.add (i * 3) = q at g0 g1 g2 hix
      have HKL : Hid (Lies wr ka ks) := hk.1
      clear hkn hk
      go_wp2_with (first
        | (go_at_call 59; refine (hcc _ (HKL.out.below ((Below.refl _ _).alloc (Nat.le_refl _) _) (Nat.le_refl _))).mono ?_; rintro e w3 ⟨v3, rfl, hst3⟩; obtain ⟨a3, cap3, rfl, _, _, _⟩ := hst3.liesN HK.out)
        | (at_builtin; refine wpList_ent rfl (.tmp 12) (.tmp 15) rfl w.heap.size _ Y rfl w w3 ((p, sz, ks), .slice a3 kn cap3) ((HE.out.alloc _).later hst3.2.1) (own_any hst3.1 (by have := HE.out.2.2.1; simp; omega)) rfl (by have := HYL.out; omega) ?_; intro v' w4 hb4))
      go_roundw
      case rel => exact ⟨i + 1, Y ++ [((p, sz, ks), Value.slice a3 kn cap3)], by go_num, by omega, (by show List.map (·.1) (Y ++ [((p, sz, ks), Value.slice a3 kn cap3)]) = E.take (i + 1); rw [HT.out, List.map_append, HY.out]; rfl), hb4⟩
      case measure => simp [intOf]; omega
    · have HH : Hid (Y.map (·.1) = E) := by
        have h9 := HY.out
        rw [List.take_of_length_le (by rw [← HN.out]; omega)] at h9
        exact h9
      go_wp2
      go_ret
      exact ⟨_, Y, rfl, HH.out, HE.out⟩

/-- What is asked of a snapshot that is copied. -/
def SShort (s : Snap) : Prop := s.2.1.size ≤ 100000 ∧ s.2.2.2.length ≤ 100000 ∧ ∀ e ∈ s.2.2.2, EShort e
end Go.Proofs.Ytlpgdfdadkljfaa.Cat

/-
  Laws of no program: 'copy' and 'clear' over rows of elements of several cells; an owned row whose cells are written over.
-/
namespace Go.Proofs.Ytlpgdfdadkljfaa.Cat
open Go.RowKit Route Tree
variable {P : Program}

theorem run_copy_s (w : World) (dT sT ty elem : TypeId) (s b o dLen dCap : Nat) (a : Addr) (sLen sCap : Nat) (cs : List Value)
    (hu : P.underlying dT = some (.slice elem)) (hs : (P.info? elem).map (·.size) = some s) (hn : cs.length = Nat.min sLen dLen * s)
    (hsrc : ∀ j v, cs[j]? = some v → w.cell? (a.add j) = some v) (hc : ∀ j, j < cs.length → (w.cell? ⟨b, o + j, none⟩).isSome = true) (hf : ∀ j, j < cs.length → w.frozen? ⟨b, o + j, none⟩ = false) (h1 : ∀ v ∈ cs, v.oneCell' = true) :
    (Builtin.copy_ #[dT, sT] ty #[.slice (some ⟨b, o, none⟩) dLen dCap, .slice (some a) sLen sCap]).run P w = .ok (goInt (Nat.min sLen dLen)) (w.setCells b o cs) := by
  have hl := run_loadCells_list (P := P) w a cs hsrc
  have hst := run_storeCells_cells (P := P) b o cs 0 w (by simpa using hc) (by simpa using hf) h1
  cases hq : P.info? elem with
  | none => simp [hq] at hs
  | some i =>
    have hi : i.size = s := by simpa [hq] using hs
    rw [hn] at hl
    simp [Builtin.copy_, run_underlying hu, Builtin.lenOf, Builtin.firstCells, sizeOf, typeInfo, hq, hi, hl, hst]

theorem run_clear_s (w : World) (t e ty : TypeId) (z : Value) (ht : P.underlying t = some (.slice e)) (hv : ∀ w, (zeroValue e).run P w = .ok z w) (b o n c : Nat) (hn : 0 < n) (zs : List Value) (hz : (Builtin.zeroCells z.cells n).toList = zs) (h1 : ∀ v ∈ zs, v.oneCell' = true)
    (hc : ∀ j, j < zs.length → (w.cell? ⟨b, o + j, none⟩).isSome = true) (hf : ∀ j, j < zs.length → w.frozen? ⟨b, o + j, none⟩ = false) :
    (Builtin.clear_ #[t] ty #[.slice (some ⟨b, o, none⟩) n c]).run P w = .ok (.tuple #[]) (w.setCells b o zs) := by
  have hst := run_storeCells_cells (P := P) b o zs 0 w (by simpa using hc) (by simpa using hf) h1
  simp only [Nat.add_zero] at hst
  obtain ⟨m, rfl⟩ : ∃ m, n = m + 1 := ⟨n - 1, by omega⟩
  simp [Builtin.clear_, run_underlying ht, hv, hz, hst]

/-- The operation 'copy(d, s)', its run known. -/
theorem wp_copy_run (w : World) {o : Oper} {a : Act} {K : Act → World → Prop} {Q : Exit → Act → World → Prop} (d s : Operand) (t t' : TypeId)
    (ho : o.op = .call { callee := .builtin .copy, args := #[d, s], argTypes := #[t, t'] }) (v u : Value) (hd : a.eval d = v) (hs : a.eval s = u) {v' : Value} {w' : World}
    (hr : (Builtin.copy_ #[t, t'] o.type #[v, u]).run P w = .ok v' w') (h : K (a.put o.dst v') w') : o.wp P a w K Q := by
  unfold Oper.wp execOp
  simp only [ho, resolve, invoke, builtin, Sem.run_bind, Sem.run_pure, Result.andThen_ok, List.map_toArray, List.map_cons, List.map_nil, hd, hs, hr]
  exact h

theorem wpList_copy_run (w : World) {ops : Array Oper} {rest : List Oper} {o : Oper} {a : Act} {Q : Exit → Act → World → Prop} (hgd : o.guard = none) (d s : Operand) (t t' : TypeId)
    (ho : o.op = .call { callee := .builtin .copy, args := #[d, s], argTypes := #[t, t'] }) (v u : Value) (hd : a.eval d = v) (hs : a.eval s = u) {v' : Value} {w' : World}
    (hr : (Builtin.copy_ #[t, t'] o.type #[v, u]).run P w = .ok v' w') (h : wpList P ops Q rest (a.put o.dst v') w') : wpList P ops Q (o :: rest) a w :=
  wpList_plain hgd fun _ hK => wp_copy_run w d s t t' ho v u hd hs hr (hK _ _ h)

theorem step_copy_run {ops : Array Oper} {o : Oper} {a : Act} {w : World} {K : Act → World → Prop} {Q : Exit → Act → World → Prop} {E : Prop}
    (hg : o.guard = none) (d x : Operand) (dT sT : TypeId) (hop : o.op = Op.call { callee := Callee.builtin Builtin.copy, args := #[d, x], argTypes := #[dT, sT] })
    (v u : Value) (hd : a.eval d = v) (hx : a.eval x = u) {v' : Value} {w' : World} (hr : (Builtin.copy_ #[dT, sT] o.type #[v, u]).run P w = .ok v' w') (hK : K (a.put o.dst v') w') :
    if Region.wanted o (yielded ops a.tmps) = true then Oper.wp P o a w K Q else E := by
  have hw : Region.wanted o (yielded ops a.tmps) = true := by simp [Region.wanted, hg]
  rw [if_pos hw]
  unfold Oper.wp
  simp [execOp, hop, resolve, invoke, builtin, hd, hx, hr, Result.andThen]
  exact hK

/-- Cells written one behind the other are one block turned. -/
theorem setCells_heap (b : Nat) : ∀ (vs : List Value) (o : Nat) (w : World) (cur : Array Value) (t : TypeId), w.heap[b]? = some (.cells cur t (0, 0)) → o + vs.length ≤ cur.size →
    ((w.setCells b o vs).heap[b]? = some (.cells (cur.toList.take o ++ vs ++ cur.toList.drop (o + vs.length)).toArray t (0, 0)) ∧ (∀ k, k ≠ b → (w.setCells b o vs).heap[k]? = w.heap[k]?) ∧ (w.setCells b o vs).heap.size = w.heap.size ∧ (w.setCells b o vs).os = w.os ∧ (w.setCells b o vs).tape = w.tape ∧ (w.setCells b o vs).output = w.output)
  | [], o, w, cur, t, h, hl => by
    refine ⟨?_, fun _ _ => rfl, rfl, rfl, rfl, rfl⟩
    simp [World.setCells, h]
  | v :: r, o, w, cur, t, h, hl => by
    have ho : o < cur.size := by simp at hl; omega
    have h1 : (w.setCell ⟨b, o, none⟩ v).heap[b]? = some (.cells (cur.setIfInBounds o v) t (0, 0)) := by
      rw [World.setCell]
      simp [Array.getElem?_modify, h]
    obtain ⟨a1, a2, a3, a4, a5, a6⟩ := setCells_heap b r (o + 1) (w.setCell ⟨b, o, none⟩ v) (cur.setIfInBounds o v) t h1 (by simp at hl ⊢; omega)
    rw [World.setCells]
    refine ⟨?_, fun k hk => ?_, ?_, a4, a5, a6⟩
    · rw [a1]
      congr 2
      apply congrArg List.toArray
      rw [Array.toList_setIfInBounds]
      have e1 : (cur.toList.set o v).take (o + 1) = cur.toList.take o ++ [v] := by
        have hl : o < (cur.toList.set o v).length := by simpa using ho
        rw [List.take_succ_eq_append_getElem hl, List.take_set_of_le (Nat.le_refl _)]
        simp
      have e2 : (cur.toList.set o v).drop (o + 1 + r.length) = cur.toList.drop (o + 1 + r.length) := by
        rw [List.drop_set, if_pos (by omega)]
      rw [e1, e2]
      simp [show o + 1 + r.length = o + (r.length + 1) by omega]
    · rw [a2 k hk, World.setCell]
      simp [Array.getElem?_modify, Ne.symm hk]
    · rw [a3, World.setCell]
      simp

/-- An owned row, its block written over. -/
theorem own_set {w' : World} {B e s g cap m : Nat} {cur : Array Value} {xs : List Value} (hB : B ≤ g) (hg : w'.heap[g]? = some (.cells cur e (0, 0))) (hm : m ≤ cap) (hcm : cap ≤ maxLen) (hs : cur.size = cap * s) (hx : xs.length = m * s) (ht : cur.toList.take (m * s) = xs) :
    w'.ownsRow B e s (.slice (some ⟨g, 0, none⟩) m cap) m xs :=
  ⟨hx, .inr ⟨g, cap, cur, rfl, hB, hg, hm, hcm, hs, ht⟩⟩
end Go.Proofs.Ytlpgdfdadkljfaa.Cat

/-
  A catalog's operations in plain mathematics: what may be a catalog's snapshots stays so; what is refused changes nothing.
-/
namespace Go.Proofs.Ytlpgdfdadkljfaa.Cat
open Go.RowKit Route Tree Order

theorem clashB_sym (a b : ByteArray) : clashB a b = clashB b a := by
  unfold clashB
  rw [Bool.eq_iff_iff]
  simp only [Bool.or_eq_true, decide_eq_true_eq]
  constructor
  · rintro ((h | h) | h)
    · exact .inl (.inl h.symm)
    · exact .inr h
    · exact .inl (.inr h)
  · rintro ((h | h) | h)
    · exact .inl (.inl h.symm)
    · exact .inr h
    · exact .inl (.inr h)

/-- A tree: sorted, no path under another's, each entry one that may be. -/
def TreeL (l : List Ent) : Prop := l.length ≤ 32 ∧ (∀ e ∈ l, isPath e.1 = true ∧ restB e.2.1 0 e.2.2 = true) ∧ l.Pairwise fun x y => lt x.1 y.1 = true ∧ isUnder x.1 y.1 = false

theorem ent_get {l : List Ent} {j : Nat} (h : j < l.length) : entOf l j = l[j] := by simp [entOf, List.getD_eq_getElem?_getD, h]

theorem code_zero {a : List Ent} {e : Ent} : codeOf a e = 0 ↔ isPath e.1 = true ∧ restB e.2.1 0 e.2.2 = true ∧ (∀ x, a.getLast? = some x → lt x.1 e.1 = true) ∧ ∀ x ∈ a, isUnder x.1 e.1 = false := by
  unfold codeOf
  by_cases h1 : isPath e.1 = false
  · rw [if_pos h1]; simp [h1]
  rw [if_neg h1]
  by_cases h2 : (∃ x, a.getLast? = some x ∧ lt x.1 e.1 = false) ∨ (a.any fun x => isUnder x.1 e.1) = true
  · rw [if_pos h2]
    refine ⟨fun h => by simp at h, fun ⟨_, _, h3, h4⟩ => ?_⟩
    rcases h2 with ⟨x, hx, h⟩ | h
    · rw [h3 x hx] at h; cases h
    · rw [List.any_eq_true] at h
      obtain ⟨x, hx, h⟩ := h
      rw [h4 x hx] at h; cases h
  rw [if_neg h2]
  by_cases h3 : restB e.2.1 0 e.2.2 = false
  · rw [if_pos h3]; simp [h3]
  rw [if_neg h3]
  refine ⟨fun _ => ⟨by simpa using h1, by simpa using h3, fun x hx => ?_, fun x hx => ?_⟩, fun _ => rfl⟩
  · cases h : lt x.1 e.1 with
    | true => rfl
    | false => exact absurd (.inl ⟨x, hx, h⟩) h2
  · cases h : isUnder x.1 e.1 with
    | false => rfl
    | true => exact absurd (.inr (List.any_eq_true.2 ⟨x, hx, h⟩)) h2

theorem last_take {l : List Ent} {j : Nat} (h0 : 0 < j) (hj : j ≤ l.length) : (l.take j).getLast? = some (l[j - 1]'(by omega)) := by
  rw [List.getLast?_eq_getElem?, List.length_take, Nat.min_eq_left hj, List.getElem?_take, if_pos (by omega), List.getElem?_eq_getElem (by omega)]

theorem treeL_iff {l : List Ent} : isTree l ↔ TreeL l := by
  unfold isTree TreeL
  constructor
  · rintro ⟨hn, h⟩
    have hs : ∀ j (hj : j < l.length), ∀ i (hi : i < j), lt (l[i]'(by omega)).1 l[j].1 = true := by
      intro j
      induction j with
      | zero => intro hj i hi; omega
      | succ j ih =>
        intro hj i hi
        have h1 := (code_zero.1 (h (j + 1) hj)).2.2.1 _ (last_take (by omega) (by omega))
        rw [ent_get hj] at h1
        by_cases e : i = j
        · subst e; exact h1
        · exact lt_trans (ih (by omega) i (by omega)) h1
    refine ⟨hn, fun e he => ?_, List.pairwise_iff_getElem.2 fun i j hi hj hij => ⟨hs j hj i hij, ?_⟩⟩
    · obtain ⟨j, hj, rfl⟩ := List.mem_iff_getElem.1 he
      have := code_zero.1 (h j hj)
      rw [ent_get hj] at this
      exact ⟨this.1, this.2.1⟩
    · have := (code_zero.1 (h j hj)).2.2.2 l[i] (List.mem_take_iff_getElem.2 ⟨i, by omega, rfl⟩)
      rwa [ent_get hj] at this
  · rintro ⟨hn, h1, h2⟩
    refine ⟨hn, fun j hj => code_zero.2 ?_⟩
    rw [ent_get hj]
    refine ⟨(h1 _ (List.getElem_mem hj)).1, (h1 _ (List.getElem_mem hj)).2, fun x hx => ?_, fun x hx => ?_⟩
    · by_cases h0 : 0 < j
      · rw [last_take h0 (by omega)] at hx
        simp only [Option.some.injEq] at hx
        rw [← hx]
        exact (List.pairwise_iff_getElem.1 h2 (j - 1) j (by omega) hj (by omega)).1
      · obtain rfl : j = 0 := by omega
        simp at hx
    · obtain ⟨i, hi, rfl⟩ := List.mem_take_iff_getElem.1 hx
      exact (List.pairwise_iff_getElem.1 h2 i j (by omega) hj (by omega)).2

theorem keysSize_cons (k : ByteArray) (l : List ByteArray) : keysSize (k :: l) = k.size + keysSize l := by simp [keysSize]

theorem rest_of (sz : Int) : ∀ (l : List ByteArray) (s : Nat), (∀ k ∈ l, 1 ≤ k.size ∧ k.size ≤ 64) → ((s + keysSize l : Nat) : Int) = sz → s + keysSize l ≤ 1024 → restB sz s l = true
  | [], s, _, h1, h2 => by simp [restB, keysSize] at *; omega
  | k :: r, s, h, h1, h2 => by
    rw [keysSize_cons] at h1 h2
    rw [restB, rest_of sz r (s + k.size) (fun x hx => h x (by simp [hx])) (by rw [← h1]; congr 1; omega) (by omega), Bool.and_true, decide_eq_true_eq]
    exact h k (by simp)

theorem keys_le {l : List ByteArray} (hn : l.length ≤ 16) (h : ∀ k ∈ l, k.size ≤ 64) : keysSize l ≤ 1024 := by
  have : ∀ l : List ByteArray, (∀ k ∈ l, k.size ≤ 64) → keysSize l ≤ l.length * 64 := by
    intro l
    induction l with
    | nil => intro _; simp [keysSize]
    | cons k r ih => intro h; rw [keysSize_cons, List.length_cons]; have := h k (by simp); have := ih fun x hx => h x (by simp [hx]); omega
  have := this l h
  omega

theorem spot_le (E : List Ent) (p : ByteArray) : spot E p ≤ E.length := by
  unfold spot
  exact (List.takeWhile_prefix _).length_le

theorem spot_at {E : List Ent} {p : ByteArray} (hs : E.Pairwise fun x y => lt x.1 y.1 = true) (hne : ∀ e ∈ E, e.1 ≠ p) : (∀ e ∈ E.take (spot E p), lt e.1 p = true) ∧ ∀ e ∈ E.drop (spot E p), lt p e.1 = true := by
  unfold spot
  induction E with
  | nil => simp
  | cons a E ih =>
    obtain ⟨ha, hE⟩ := List.pairwise_cons.1 hs
    have ih := ih hE fun e he => hne e (by simp [he])
    cases h : lt a.1 p with
    | true =>
      rw [List.takeWhile_cons, if_pos h, List.length_cons, List.take_succ_cons, List.drop_succ_cons]
      refine ⟨fun e he => ?_, ih.2⟩
      rcases List.mem_cons.1 he with rfl | he
      · exact h
      · exact ih.1 e he
    | false =>
      rw [List.takeWhile_cons, if_neg (by simp [h])]
      refine ⟨fun e he => by simp at he, fun e he => ?_⟩
      have hpa : lt p a.1 = true := by
        cases h2 : lt p a.1 with
        | true => rfl
        | false => exact absurd (lt_total h h2) (hne a (by simp))
      rcases List.mem_cons.1 (by simpa using he) with rfl | he
      · exact hpa
      · exact lt_trans hpa (ha e he)

theorem fault_zero {E : List Ent} {p : ByteArray} {z : Int} (h : fault E p z = 0) : (∀ x ∈ E, clashB x.1 p = false) ∧ E.length < 32 ∧ z ≤ 1024 := by
  unfold fault at h
  split at h
  · cases h
  split at h
  · cases h
  split at h
  · cases h
  · rename_i h1 h2 h3
    refine ⟨fun x hx => ?_, by omega, by omega⟩
    cases hc : clashB x.1 p with
    | false => rfl
    | true => exact absurd (List.any_eq_true.2 ⟨x, hx, hc⟩) h1

theorem putE_tree {E : List Ent} {e : Ent} (ht : TreeL E) (hf : fault E e.1 e.2.1 = 0) (hp : isPath e.1 = true) (hr : restB e.2.1 0 e.2.2 = true) : TreeL (putE E e) := by
  obtain ⟨hn, h1, h2⟩ := ht
  obtain ⟨hc, hl, _⟩ := fault_zero hf
  have hc' : ∀ x ∈ E, x.1 ≠ e.1 ∧ isUnder x.1 e.1 = false ∧ isUnder e.1 x.1 = false := fun x hx => by
    have := hc x hx
    simp [clashB] at this
    exact ⟨this.1.1, this.1.2, this.2⟩
  obtain ⟨ha, hb⟩ := spot_at (h2.imp fun h => h.1) fun x hx => (hc' x hx).1
  have hsp := spot_le E e.1
  unfold putE
  refine ⟨by simp; omega, fun x hx => ?_, ?_⟩
  · rcases List.mem_append.1 hx with hx | hx
    · exact h1 x (List.mem_of_mem_take hx)
    · rcases List.mem_cons.1 hx with rfl | hx
      · exact ⟨hp, hr⟩
      · exact h1 x (List.mem_of_mem_drop hx)
  · refine List.pairwise_append.2 ⟨h2.sublist (List.take_sublist _ _), List.pairwise_cons.2 ⟨fun y hy => ⟨hb y hy, (hc' y (List.mem_of_mem_drop hy)).2.2⟩, h2.sublist (List.drop_sublist _ _)⟩, fun x hx y hy => ?_⟩
    rcases List.mem_cons.1 hy with rfl | hy
    · exact ⟨ha x hx, (hc' x (List.mem_of_mem_take hx)).2.1⟩
    · have h3 : (E.take (spot E e.1) ++ E.drop (spot E e.1)).Pairwise fun x y => lt x.1 y.1 = true ∧ isUnder x.1 y.1 = false := by rw [List.take_append_drop]; exact h2
      exact (List.pairwise_append.1 h3).2.2 x hx y hy

/-- Where a snapshot stands. -/
theorem place_some {c : Int} {nm : ByteArray} {S : List Snap} {i : Nat} (h : place c nm S = some i) : i < S.length ∧ (snapAt S i).1 = c ∧ (snapAt S i).2.1 = nm ∧ ∀ j, j < i → ¬ ((snapAt S j).1 = c ∧ (snapAt S j).2.1 = nm) := by
  unfold place at h
  rw [List.findIdx?_eq_some_iff_getElem] at h
  obtain ⟨hi, h1, h2⟩ := h
  have e : ∀ j (hj : j < S.length), snapAt S j = S[j] := fun j hj => by simp [snapAt, List.getD_eq_getElem?_getD, hj]
  refine ⟨hi, ?_, ?_, fun j hj => ?_⟩
  · rw [e i hi]; simp [isOne] at h1; exact h1.1
  · rw [e i hi]; simp [isOne] at h1; exact h1.2
  · rw [e j (by omega)]
    have := h2 j hj
    simpa [isOne] using this

theorem place_none {c : Int} {nm : ByteArray} {S : List Snap} (h : place c nm S = none) : ∀ s ∈ S, ¬ (s.1 = c ∧ s.2.1 = nm) := by
  intro s hs
  have := List.findIdx?_eq_none_iff.1 h s hs
  simpa [isOne] using this

theorem snapAt_mem {S : List Snap} {i : Nat} (h : i < S.length) : snapAt S i ∈ S := by simp [snapAt, List.getD_eq_getElem?_getD, h]
theorem snapAt_get {S : List Snap} {i : Nat} (h : i < S.length) : snapAt S i = S[i] := by simp [snapAt, List.getD_eq_getElem?_getD, h]

theorem found_ok {c : Int} {nm : ByteArray} {d : Bool} {S : List Snap} (h : (found c nm d S).2 = 0) : place c nm S = some (found c nm d S).1 ∧ (snapAt S (found c nm d S).1).2.2.1 = d := by
  unfold found at *
  cases hp : place c nm S with
  | none => rw [hp] at h; simp at h
  | some i =>
    rw [hp] at h
    simp only at h ⊢
    split at h
    · rename_i h1
      rw [if_pos h1]; exact ⟨rfl, h1⟩
    · simp at h

theorem count_app (c : Int) (S T : List Snap) : count c (S ++ T) = count c S + count c T := by simp [count]

theorem count_sub {c : Int} {S T : List Snap} (h : S.Sublist T) : count c S ≤ count c T := (h.filter _).length_le

theorem Inv.sub {S T : List Snap} (h : Inv T) (hs : S.Sublist T) : Inv S :=
  ⟨fun s hm => h.client s (hs.subset hm), fun s hm => h.name s (hs.subset hm), fun s hm => h.tree s (hs.subset hm), fun s hm => h.ents s (hs.subset hm), h.once.sublist hs, fun c => Nat.le_trans (count_sub hs) (h.most c)⟩

theorem Inv.nil : Inv [] := ⟨fun s h => by simp at h, fun s h => by simp at h, fun s h => by simp at h, fun s h => by simp at h, List.Pairwise.nil, fun c => by simp [count]⟩

theorem tree_nil : isTree [] := treeL_iff.2 ⟨by simp, fun e h => by simp at h, List.Pairwise.nil⟩

/-- A snapshot put in the place of one of the same client and name. -/
theorem Inv.set {S : List Snap} {i : Nat} {s : Snap} (h : Inv S) (hi : i < S.length) (h1 : s.1 = (snapAt S i).1) (h2 : s.2.1 = (snapAt S i).2.1) (ht : isTree s.2.2.2) (he : ∀ e ∈ s.2.2.2, EOk e) : Inv (S.set i s) := by
  have hm := snapAt_mem hi
  have e := snapAt_get hi
  refine ⟨fun x hx => ?_, fun x hx => ?_, fun x hx => ?_, fun x hx => ?_, ?_, fun c => ?_⟩
  · rcases List.mem_or_eq_of_mem_set hx with hx | rfl
    · exact h.client x hx
    · rw [h1]; exact h.client _ hm
  · rcases List.mem_or_eq_of_mem_set hx with hx | rfl
    · exact h.name x hx
    · rw [h2]; exact h.name _ hm
  · rcases List.mem_or_eq_of_mem_set hx with hx | rfl
    · exact h.tree x hx
    · exact ht
  · rcases List.mem_or_eq_of_mem_set hx with hx | rfl
    · exact h.ents x hx
    · exact he
  · refine List.pairwise_iff_getElem.2 fun a b ha hb hab => ?_
    have hab' := List.pairwise_iff_getElem.1 h.once a b (by simpa using ha) (by simpa using hb) hab
    simp only [List.getElem_set]
    by_cases ha' : i = a
    · subst ha'
      rw [if_pos rfl, if_neg (by omega), h1, h2, e]; exact hab'
    · rw [if_neg ha']
      by_cases hb' : i = b
      · subst hb'
        rw [if_pos rfl, h1, h2, e]; exact hab'
      · rw [if_neg hb']; exact hab'
  · have e2 : count c (S.set i s) = count c S := by
      unfold count
      rw [← List.countP_eq_length_filter, ← List.countP_eq_length_filter, List.countP_set hi]
      have : mine c S[i] = mine c s := by simp [mine, ← e, h1]
      rw [this]
      have h0 : (if mine c s = true then 1 else 0) ≤ List.countP (mine c) S := by
        split
        · rename_i hh
          rw [← this] at hh
          exact List.countP_pos_iff.2 ⟨S[i], List.getElem_mem hi, hh⟩
        · omega
      omega
    rw [e2]; exact h.most c

theorem pruned_sub (c : Int) : ∀ (S : List Snap) (k : Nat), (pruned c k S).Sublist S
  | [], k => by cases k <;> exact List.Sublist.slnil
  | s :: S, k => by
    rw [pruned]
    split
    · exact (pruned_sub c S (k - 1)).cons s
    · exact (pruned_sub c S k).cons_cons s

theorem step_inv {S : List Snap} {r : Rq} (h : Inv S) : Inv (step S r).2 := by
  unfold step
  split
  · exact h
  rename_i hm
  have hm : may r = true := by simpa using hm
  obtain ⟨hc, hop⟩ : (0 ≤ r.c ∧ r.c ≤ 7) ∧ mayOp r = true := by
    simp only [may, Bool.and_eq_true] at hm
    exact ⟨Order.within_iff.1 hm.1.1, hm.2⟩
  split
  · rename_i hk
    have hnm : isPart r.nm = true := by simp only [mayOp, hk, true_or, if_true, Bool.and_eq_true] at hop; exact hop.1.1.1
    split
    · exact h
    split
    · exact h
    · rename_i hp hn
      have hpn := place_none (by simpa using hp)
      refine ⟨fun s hs => ?_, fun s hs => ?_, fun s hs => ?_, fun s hs => ?_, ?_, fun c => ?_⟩
      · rcases List.mem_append.1 hs with hs | hs
        · exact h.client s hs
        · rw [List.mem_singleton.1 hs]; exact hc
      · rcases List.mem_append.1 hs with hs | hs
        · exact h.name s hs
        · rw [List.mem_singleton.1 hs]; exact hnm
      · rcases List.mem_append.1 hs with hs | hs
        · exact h.tree s hs
        · rw [List.mem_singleton.1 hs]; exact tree_nil
      · rcases List.mem_append.1 hs with hs | hs
        · exact h.ents s hs
        · rw [List.mem_singleton.1 hs]; exact fun e he => by simp at he
      · refine List.pairwise_append.2 ⟨h.once, by simp, fun a ha b hb => ?_⟩
        rw [List.mem_singleton.1 hb]
        exact fun h1 h2 => hpn a ha ⟨h1, h2⟩
      · rw [count_app]
        by_cases e : r.c = c
        · subst e; have : count r.c [(r.c, r.nm, false, [])] = 1 := by simp [count, mine]
          rw [this]; omega
        · have : count c [(r.c, r.nm, false, [])] = 0 := by simp [count, mine, e]
          rw [this]; exact h.most c
  rename_i hk1
  split
  · rename_i hk
    split
    · exact h
    rename_i hf
    obtain ⟨hp, hd⟩ := found_ok (by simpa using hf)
    obtain ⟨hi, h1, h2, _⟩ := place_some hp
    split
    · exact h
    · rename_i hfl
      have hop' : (((isPart r.nm = true ∧ isPath r.pt = true) ∧ keysOk r.ks = true) ∧ isZero r.n = true) := by
        simpa [mayOp, hk] using hop
      obtain ⟨⟨⟨_, hpt⟩, hks⟩, _⟩ := hop'
      obtain ⟨hk16, hk64⟩ := keysOk_iff.1 hks
      have hkl := keys_le hk16 fun k hk => (hk64 k hk).2
      have hm := snapAt_mem hi
      refine h.set hi h1.symm h2.symm ?_ fun e he => ?_
      · refine treeL_iff.2 (putE_tree (treeL_iff.1 (h.tree _ hm)) (by simpa using hfl) hpt (rest_of _ _ 0 (fun k hk => hk64 k hk) (by simp) (by show 0 + keysSize r.ks ≤ 1024; omega)))
      · unfold putE at he
        rcases List.mem_append.1 he with he | he
        · exact h.ents _ hm e (List.mem_of_mem_take he)
        · rcases List.mem_cons.1 he with rfl | he
          · exact ⟨path_size hpt, hk16, fun s hs => (hk64 s hs).2⟩
          · exact h.ents _ hm e (List.mem_of_mem_drop he)
  split
  · split
    · exact h
    · rename_i hf
      obtain ⟨hp, hd⟩ := found_ok (by simpa using hf)
      obtain ⟨hi, h1, h2, _⟩ := place_some hp
      have hm := snapAt_mem hi
      exact h.set hi h1.symm h2.symm (h.tree (snapAt S (found r.c r.nm false S).1) hm) (h.ents (snapAt S (found r.c r.nm false S).1) hm)
  split
  · split
    · exact h
    · exact h.sub (List.eraseIdx_sublist _ _)
  split
  · exact h
  split
  · split
    · exact h
    · split
      · exact h
      · exact h
  split
  · split
    · exact h
    · exact h
  split
  · exact h.sub (pruned_sub _ _ _)
  · exact h

/-- What is refused changes nothing, and is told with nothing else. -/
def Rf (S : List Snap) (x : Ans × List Snap) : Prop := x.1.code ≠ 0 → x.2 = S ∧ x.1 = no x.1.code
theorem step_refused (S : List Snap) (r : Rq) : Rf S (step S r) := by
  unfold step
  repeat' split
  all_goals first
    | exact fun _ => ⟨rfl, rfl⟩
    | exact fun h => absurd rfl h
end Go.Proofs.Ytlpgdfdadkljfaa.Cat
