/-
  A store in memory: its box of three cells, the map of its chunks, and what a call may turn.
-/
import Derived.Test.YtkmlekgfbmoimaaBlMath
import Derived.Maps.RangeWalk
import Derived.Maps.AppendAt
import Derived.StringKeys
namespace Go.Proofs.Ytkmlekgfbmoimaa.Blobs
open Go.RowKit Route Go.Maps Go.ChangeMaps

theorem keyed9 : Keyed Try.prog 9 := string_keyed Try.underlying9
theorem zero50 (w : World) : (zeroValue 50).run Try.prog w = .ok (.agg #[]) w := by kernel_rfl

/-- A text as a map's key. -/
def keyL (s : ByteArray) : Lit := .string s.data.toList
theorem keyL_eq {s t : ByteArray} : keyL s = keyL t ↔ s = t := by
  constructor
  · intro h
    simp only [keyL, Lit.string.injEq] at h
    exact ByteArray.ext (Array.ext' h)
  · rintro rfl; rfl
theorem keyL_ok {s : ByteArray} (h : s.size ≤ maxLen) : keyOf Try.prog 9 (.string s) = some (keyL s) := WideMaps.keyOf_string_mk Try.underlying9 h
theorem keyLit (s : ByteArray) : WideAt.IsKeyLit (keyL s) := by
  trivial
theorem key_inv {key : Value} {kl : Lit} (h : keyOf Try.prog 9 key = some kl) : ∃ s : ByteArray, key = .string s := by
  cases key <;> simp [keyOf, Try.underlying9, mapKey] at h
  exact ⟨_, rfl⟩
theorem key_inv2 {s : ByteArray} {kl : Lit} (h : keyOf Try.prog 9 (.string s) = some kl) : kl = keyL s ∧ s.size ≤ maxLen := by
  by_cases hs : s.size ≤ maxLen
  · rw [keyL_ok hs] at h
    exact ⟨(Option.some.inj h).symm, hs⟩
  · exfalso
    simp [keyOf, Try.underlying9, mapKey] at h
    omega

/-- In block m a set lies: the texts S, n of them at most. -/
def SetIn (w : World) (m n : Nat) (S : List ByteArray) : Prop := ∃ D : DataW Unit, w.ownsMap Try.prog 9 unitElem m n D ∧ IsMap D ∧ ∀ s : ByteArray, has D (keyL s) = true ↔ s ∈ S

theorem SetIn.keep {w w' : World} {m n : Nat} {S : List ByteArray} (h : SetIn w m n S) (hb : w'.heap[m]? = w.heap[m]?) : SetIn w' m n S := by
  obtain ⟨D, ⟨es, clock, h1, h2⟩, h3⟩ := h
  exact ⟨D, ⟨es, clock, hb.trans h1, h2⟩, h3⟩
theorem SetIn.lt {w : World} {m n : Nat} {S : List ByteArray} (h : SetIn w m n S) : m < w.heap.size := by
  obtain ⟨D, ⟨es, clock, h1, h2⟩, h3⟩ := h
  exact (Array.getElem?_eq_some_iff.1 h1).1
theorem SetIn.below {w w' : World} {m n : Nat} {S : List ByteArray} (h : SetIn w m n S) (hb : Below w.heap.size w w') : SetIn w' m n S := h.keep (hb.block m h.lt)
theorem SetIn.made (w : World) : SetIn (w.alloc (.map #[] 0)) w.heap.size 0 [] :=
  ⟨.map [], World.ownsMap_made _ _ _ _, isMap_empty, fun s => by simp [Maps.has]⟩

/-- The store in block b, its map in block m: the quota q, the chunks S. -/
structure StoreIn (w : World) (b m q n : Nat) (S : List ByteArray) : Prop where
  box : w.heap[b]? = some (.cells #[.int .i64 (q : Int), .int .i64 (total S : Int), .map (some m)] 47 (0, 0))
  set : SetIn w m n S
  asc : Asc S
  ok : ∀ s ∈ S, 1 ≤ s.size ∧ s.size ≤ 64
  room : total S ≤ q
  lim : q ≤ 65536

theorem StoreIn.keep {w w' : World} {b m q n : Nat} {S : List ByteArray} (h : StoreIn w b m q n S) (hb : w'.heap[b]? = w.heap[b]?) (hm : w'.heap[m]? = w.heap[m]?) : StoreIn w' b m q n S :=
  ⟨hb.trans h.box, h.set.keep hm, h.asc, h.ok, h.room, h.lim⟩
theorem StoreIn.lt {w : World} {b m q n : Nat} {S : List ByteArray} (h : StoreIn w b m q n S) : b < w.heap.size ∧ m < w.heap.size :=
  ⟨(Array.getElem?_eq_some_iff.1 h.box).1, h.set.lt⟩
theorem StoreIn.below {w w' : World} {b m q n : Nat} {S : List ByteArray} (h : StoreIn w b m q n S) (hb : Below w.heap.size w w') : StoreIn w' b m q n S :=
  h.keep (hb.block b h.lt.1) (hb.block m h.lt.2)
theorem StoreIn.ne {w : World} {b m q n : Nat} {S : List ByteArray} (h : StoreIn w b m q n S) : b ≠ m := by
  rintro rfl
  obtain ⟨D, ⟨es, clock, h1, _⟩, _⟩ := h.set
  rw [h.box] at h1; cases h1

/-- What the box's cells hold. -/
theorem box_cells {w : World} {b : Nat} {x y z : Value} (h : w.heap[b]? = some (.cells #[x, y, z] 47 (0, 0))) :
    w.cell? ⟨b, 0, none⟩ = some x ∧ w.cell? ⟨b, 1, none⟩ = some y ∧ w.cell? ⟨b, 2, none⟩ = some z ∧ w.frozen? ⟨b, 0, none⟩ = false ∧ w.frozen? ⟨b, 1, none⟩ = false ∧ w.frozen? ⟨b, 2, none⟩ = false := by
  simp [World.cell?, World.frozen?, h]

theorem box_set {w : World} {b : Nat} {x y z : Value} (h : w.heap[b]? = some (.cells #[x, y, z] 47 (0, 0))) (u : Value) :
    (w.setCell ⟨b, 1, none⟩ u).heap[b]? = some (.cells #[x, u, z] 47 (0, 0)) := by
  simp [World.setCell, Array.getElem?_modify, h]

/-- What a call may turn: the store's box and its map. -/
structure Trn (b m : Nat) (w w' : World) : Prop where
  os : w'.os = w.os
  tape : w'.tape = w.tape
  output : w'.output = w.output
  size : w.heap.size ≤ w'.heap.size
  block : ∀ k, k < w.heap.size → k ≠ b → k ≠ m → w'.heap[k]? = w.heap[k]?

theorem Trn.refl (b m : Nat) (w : World) : Trn b m w w := ⟨rfl, rfl, rfl, Nat.le_refl _, fun _ _ _ _ => rfl⟩
theorem Trn.trans {b m : Nat} {u v w : World} (h : Trn b m u v) (k : Trn b m v w) : Trn b m u w :=
  ⟨k.os.trans h.os, k.tape.trans h.tape, k.output.trans h.output, Nat.le_trans h.size k.size, fun i hi h1 h2 => (k.block i (Nat.lt_of_lt_of_le hi h.size) h1 h2).trans (h.block i hi h1 h2)⟩
theorem Trn.of {b m : Nat} {w w' : World} (h : Below w.heap.size w w') : Trn b m w w' := ⟨h.os, h.tape, h.output, h.size, fun k hk _ _ => h.block k hk⟩
theorem Trn.ofGrown {b m : Nat} {w w' : World} (h : w.grownBy w' (some m)) : Trn b m w w' := ⟨h.os, h.tape, h.output, h.size, fun k hk _ h2 => h.block k hk fun e => h2 (Option.some.inj e)⟩
theorem Trn.setCell {b m : Nat} {w w' : World} (h : Trn b m w w') (i : Nat) (u : Value) : Trn b m w (w'.setCell ⟨b, i, none⟩ u) :=
  ⟨h.os, h.tape, h.output, by simpa using h.size, fun k hk h1 h2 => (Below.heap_setCell _ _ _ _ h1).trans (h.block k hk h1 h2)⟩
theorem Trn.alloc {b m : Nat} {w w' : World} (h : Trn b m w w') (o : Obj) : Trn b m w (w'.alloc o) := h.trans (.of ((Below.refl _ _).alloc (Nat.le_refl _) _))
theorem Trn.below {b m B : Nat} {w w' : World} (h : Trn b m w w') (hb : B ≤ b) (hm : B ≤ m) (hB : B ≤ w.heap.size) : Below B w w' :=
  ⟨h.os, h.tape, h.output, h.size, fun k hk => h.block k (by omega) (by omega) (by omega)⟩

/-- A row of texts that the call owns, from block B on. -/
def Row (B : Nat) (w : World) (v : Value) (l : List ByteArray) : Prop := w.ownsRow B 9 1 v l.length (sv l)

theorem Row.keep {B : Nat} {w w' : World} {v : Value} {l : List ByteArray} (h : Row B w v l) (hk : ∀ g, B ≤ g → g < w.heap.size → w'.heap[g]? = w.heap[g]?) : Row B w' v l :=
  ⟨h.1, h.2.imp id fun ⟨g, cap, cur, h1, h2, h3, h4⟩ => ⟨g, cap, cur, h1, h2, (hk g h2 (Array.getElem?_eq_some_iff.1 h3).1).trans h3, h4⟩⟩
theorem Row.below {B : Nat} {w w' : World} {v : Value} {l : List ByteArray} (h : Row B w v l) (hb : Below w.heap.size w w') : Row B w' v l := h.keep fun g _ hg => hb.block g hg
theorem Row.trn {B b m : Nat} {w w' : World} {v : Value} {l : List ByteArray} (h : Row B w v l) (ht : Trn b m w w') (hb : b < B) (hm : m < B) : Row B w' v l :=
  h.keep fun g h1 h2 => ht.block g h2 (by omega) (by omega)
theorem Row.mono {B B' : Nat} {w : World} {v : Value} {l : List ByteArray} (h : Row B w v l) (hb : B' ≤ B) : Row B' w v l := own_mono h hb
theorem Row.nil (B : Nat) (w : World) : Row B w (.slice none 0 0) [] := World.ownsRow_nil w B 9 1
theorem Row.lies {B : Nat} {w : World} {v : Value} {l : List ByteArray} (h : Row B w v l) :
    ∃ a k cap, v = .slice a k cap ∧ k = l.length ∧ k ≤ cap ∧ cap ≤ maxLen ∧ Lies w a l := by
  have hs : Strs B v l w w ∨ ¬ B ≤ w.heap.size := by
    by_cases hB : B ≤ w.heap.size
    · exact .inl ⟨h, Below.refl _ _, hB⟩
    · exact .inr hB
  rcases hs with hs | hB
  · obtain ⟨a, cap, e, h1, h2, h3⟩ := hs.lies
    exact ⟨a, _, cap, e, rfl, h1, h2, h3⟩
  · rcases h.2 with ⟨rfl, h0⟩ | ⟨g, cap, cur, rfl, h2, h3, _⟩
    · have : l = [] := List.eq_nil_of_length_eq_zero h0
      subst this
      exact ⟨none, 0, 0, rfl, rfl, Nat.le_refl _, Nat.zero_le _, .inl rfl⟩
    · have := (Array.getElem?_eq_some_iff.1 h3).1
      omega
end Go.Proofs.Ytkmlekgfbmoimaa.Blobs
