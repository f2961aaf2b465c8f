/-
  What stands while BlobsPlays' script is played, and what each call makes of it.
-/
import Derived.Test.YtkmlekgfbmoimaaBlPlay1
namespace Go.Proofs.Ytkmlekgfbmoimaa.Blobs
open Go.RowKit Route

/-- At the address a deed lies. -/
def DeedAt (w : World) (p : Addr) : Prop :=
  ∃ (c : Int) (s : ByteArray) (a : Option Addr) (k cap : Nat) (l : List ByteArray), w.cell? p = some (.int .i64 c) ∧ w.cell? ⟨p.block, p.off + 1, none⟩ = some (.string s) ∧ w.cell? ⟨p.block, p.off + 2, none⟩ = some (.slice a k cap) ∧
    (-9223372036854775808 ≤ c ∧ c ≤ 9223372036854775807) ∧ s.size ≤ maxLen ∧ k = l.length ∧ Lies w a l ∧ k ≤ maxLen ∧ ∀ s ∈ l, s.size ≤ maxLen

/-- At the address n deeds lie. -/
def DeedsIn (w : World) (a : Option Addr) (n : Nat) : Prop := n = 0 ∨ ∃ x, a = some x ∧ ∀ j, j < n → DeedAt w (x.add (j * 3))

theorem cell_below {B : Nat} {w w' : World} {x : Addr} {v : Value} (hb : Below B w w') (hB : w.heap.size ≤ B) (h : w.cell? x = some v) : w'.cell? x = some v := by
  rw [hb.cell (by have := World.block_lt_of_cell? w _ h; omega)]; exact h

set_option maxRecDepth 100000 in
theorem index_deed (x : Addr) (n cap i : Nat) (hi : i < n) (w : World) : (Instr.indexAt 22 (.slice (some x) n cap) (.int .i64 (i : Int))).run Try.prog w = .ok (.pointer (some (x.add (i * 3)))) w := by
  rw [run_indexAt_slice w 22 x n cap .i64 i (by kernel_rfl), if_pos (by omega)]
  rfl
theorem size32 (w : World) : (sizeOf 32).run Try.prog w = .ok 3 w := by kernel_rfl
theorem agg32 (w : World) : (isAgg 32).run Try.prog w = .ok true w := by kernel_rfl

/-- A store and the list that it is held against, beside each other. -/
structure Px (w wr : World) (u q n : Nat) (v : Value) (S : List ByteArray) : Prop where
  store : StoreIn wr (u + 1) u q n S
  row : Row (u + 2) wr v S
  bel : Below w.heap.size w wr
  old : w.heap.size ≤ u
  new : u + 2 ≤ wr.heap.size

theorem Px.below {w wr w' : World} {u q n : Nat} {v : Value} {S : List ByteArray} (h : Px w wr u q n v S) (hb : Below wr.heap.size wr w') : Px w w' u q n v S :=
  ⟨h.store.below hb, h.row.below hb, h.bel.trans (hb.mono h.bel.size), h.old, Nat.le_trans h.new hb.size⟩
theorem Px.more {w wr : World} {u q n : Nat} {v : Value} {S : List ByteArray} (h : Px w wr u q n v S) : Px w wr u q (n + 1) v S :=
  ⟨⟨h.store.box, let ⟨D, h1, h2⟩ := h.store.set; ⟨D, h1.mono (Nat.le_succ _), h2⟩, h.store.asc, h.store.ok, h.store.room, h.store.lim⟩, h.row, h.bel, h.old, h.new⟩
/-- The store has turned; the list stands. -/
structure Py (w wr : World) (u q n : Nat) (v : Value) (S T : List ByteArray) : Prop where
  store : StoreIn wr (u + 1) u q n T
  row : Row (u + 2) wr v S
  bel : Below w.heap.size w wr
  old : w.heap.size ≤ u
  new : u + 2 ≤ wr.heap.size
theorem Px.turn {w wr w' : World} {u q n n' : Nat} {v : Value} {S T : List ByteArray} (h : Px w wr u q n v S) (ht : Trn (u + 1) u wr w') (hs : StoreIn w' (u + 1) u q n' T) : Py w w' u q n' v S T :=
  ⟨hs, h.row.trn ht (by omega) (by omega), h.bel.trans (ht.below (by have := h.old; omega) h.old h.bel.size), h.old, Nat.le_trans h.new ht.size⟩
theorem Py.below {w wr w' : World} {u q n : Nat} {v : Value} {S T : List ByteArray} (h : Py w wr u q n v S T) (hb : Below wr.heap.size wr w') : Py w w' u q n v S T :=
  ⟨h.store.below hb, h.row.below hb, h.bel.trans (hb.mono h.bel.size), h.old, Nat.le_trans h.new hb.size⟩
theorem Py.list {w wr w' : World} {u q n : Nat} {v v' : Value} {S T : List ByteArray} (h : Py w wr u q n v S T) (hs : Strs wr.heap.size v' T wr w') : Px w w' u q n v' T :=
  ⟨h.store.below hs.2.1, Row.mono hs.1 h.new, h.bel.trans (hs.2.1.mono h.bel.size), h.old, Nat.le_trans h.new hs.2.1.size⟩
theorem Px.py {w wr : World} {u q n : Nat} {v : Value} {S : List ByteArray} (h : Px w wr u q n v S) : Py w wr u q n v S S := ⟨h.store, h.row, h.bel, h.old, h.new⟩

theorem Row.parts {B : Nat} {w : World} {a : Option Addr} {k cap : Nat} {S : List ByteArray} (h : Row B w (.slice a k cap) S) : k = S.length ∧ k ≤ cap ∧ cap ≤ maxLen ∧ Lies w a S := by
  obtain ⟨_, _, _, e, h1, h2, h3, h4⟩ := h.lies
  simp only [Value.slice.injEq] at e
  obtain ⟨rfl, rfl, rfl⟩ := e
  exact ⟨h1, h2, h3, h4⟩

/-- The deed's box. -/
def Box (wr : World) (bx u : Nat) (c : Int) (s : ByteArray) (v : Value) : Prop := wr.heap[bx]? = some (.cells #[.int .i64 c, .string s, v] 32 (0, 0)) ∧ u + 2 ≤ bx
theorem Box.cells {wr : World} {bx u : Nat} {c : Int} {s : ByteArray} {v : Value} (h : Box wr bx u c s v) : wr.cell? ⟨bx, 0, none⟩ = some (.int .i64 c) ∧ wr.cell? ⟨bx, 1, none⟩ = some (.string s) ∧ wr.cell? ⟨bx, 2, none⟩ = some v := by
  obtain ⟨h, _⟩ := h
  simp [World.cell?, h]
theorem Box.below {wr w' : World} {bx u : Nat} {c : Int} {s : ByteArray} {v : Value} (h : Box wr bx u c s v) (hb : Below wr.heap.size wr w') : Box w' bx u c s v :=
  ⟨(hb.block bx (Array.getElem?_eq_some_iff.1 h.1).1).trans h.1, h.2⟩
theorem Box.trn {wr w' : World} {bx u : Nat} {c : Int} {s : ByteArray} {v : Value} (h : Box wr bx u c s v) (ht : Trn (u + 1) u wr w') : Box w' bx u c s v :=
  ⟨(ht.block bx (Array.getElem?_eq_some_iff.1 h.1).1 (by have := h.2; omega) (by have := h.2; omega)).trans h.1, h.2⟩

/-- The round's last test. -/
theorem tail_keys {w wr : World} {u q n : Nat} {a : Option Addr} {k cap : Nat} {S : List ByteArray} (h : Px w wr u q n (.slice a k cap) S) (hn : n ≤ 1000000) :
    Calls Try.prog 17 #[.pointer (some ⟨u + 1, 0, none⟩)] wr fun e w' => ∃ a' c', e = .returned (.slice a' k c') ∧ c' ≤ maxLen ∧ Hid (Row wr.heap.size w' (.slice a' k c') S ∧ Px w w' u q n (.slice a k cap) S) := by
  refine (keys_any h.store hn).mono ?_
  rintro e w' ⟨v, rfl, hr, hb⟩
  obtain ⟨a', k', c', rfl, hk, _, hc, _⟩ := hr.lies
  obtain rfl : k' = k := hk.trans h.row.parts.1.symm
  exact ⟨a', c', rfl, hc, hr, h.below hb⟩
theorem tail_same {w wr : World} {u q n B : Nat} {a a' : Option Addr} {k cap c' : Nat} {S : List ByteArray} (h : Px w wr u q n (.slice a k cap) S) (hr : Row B wr (.slice a' k c') S) (hk : k ≤ 1000000) :
    Calls Try.prog 16 #[.slice a' k c', .slice a k cap] wr fun e w' => e = .returned (.bool true) ∧ Hid (Px w w' u q n (.slice a k cap) S) := by
  refine (same_rows hk hr h.row).mono ?_
  rintro e w' ⟨rfl, hb⟩
  exact ⟨rfl, h.below hb⟩
theorem tail_size {w wr : World} {u q n : Nat} {a : Option Addr} {k cap : Nat} {S : List ByteArray} (h : Px w wr u q n (.slice a k cap) S) (hk : k ≤ 1000000) : ∃ tz : Nat, tz ≤ 65536 ∧ tz = total S ∧
    Hid (Calls Try.prog 18 #[.pointer (some ⟨u + 1, 0, none⟩)] wr fun e w' => e = .returned (.int .i64 (tz : Int)) ∧ w' = wr) ∧ Hid (Calls Try.prog 14 #[.slice a k cap] wr fun e w' => e = .returned (.int .i64 (tz : Int)) ∧ w' = wr) := by
  have htl := Nat.le_trans h.store.room h.store.lim
  obtain ⟨h1, _, _, h2⟩ := h.row.parts
  exact ⟨total S, htl, rfl, size_any h.store, sizeL_any a k cap S (total S) wr h1 h2 hk rfl htl⟩
end Go.Proofs.Ytkmlekgfbmoimaa.Blobs
