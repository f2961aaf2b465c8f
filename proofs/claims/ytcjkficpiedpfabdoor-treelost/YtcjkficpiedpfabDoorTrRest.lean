/-
  A tree's files, from chunks: the program's 'Restore'.
-/
import Derived.Test.YtcjkficpiedpfabDoorTrFiles
namespace Go.Proofs.YtcjkficpiedpfabDoor.Tree
open Go.RowKit Route Chunk

set_option maxHeartbeats 4000000 in
set_option maxRecDepth 100000 in
theorem restore_bad (a ca : Option Addr) (n cap cn ccap : Nat) (l : List (ByteArray × Int × List ByteArray)) (w : World) (hl : EntsOk n l) (hl0 : LiesE w a l) (hc : n ≤ cap) (ht : ¬ isTree l) :
    Calls Tryd.prog 9 #[.slice a n cap, .slice ca cn ccap] w fun e w' => (∃ v, e = .returned (.tuple #[.slice none 0 0, v]) ∧ ErrV w.heap.size w' v (checkAns l).1 (checkAns l).2) ∧ Below w.heap.size w w' := by
  have hne : (checkAns l).1 ≠ 0 := fun h => ht (checkAns_tree.1 h)
  have hck := check_ans a n cap l w hl hl0 hc
  generalize (checkAns l).1 = c at hck hne
  generalize (checkAns l).2 = pl at hck
  clear hl hl0 hc ht
  go_enter Tryd.func9, Tryd.ntmps9
  go_wp2_with fail
  refine hck.mono ?_
  rintro e w1 ⟨⟨v, rfl, hv⟩, hb1⟩
  obtain ⟨hv1, hv2⟩ := hv.bad hne
  have HV : Hid (ErrV w.heap.size w1 v c pl) := hv
  clear hv hck
  go_wp2
  go_ret2
  exact ⟨⟨_, rfl, HV.out⟩, hb1⟩

/-- Are all of an entry's chunks among some? -/
def allIn (C : List ByteArray) (e : ByteArray × Int × List ByteArray) : Prop := ∀ k, k < e.2.2.length → e.2.2.getD k ByteArray.empty ∈ C

/-- An entry's file. -/
def restF (e : ByteArray × Int × List ByteArray) : ByteArray × ByteArray := (e.1, cat e.2.2)

theorem hasAll_yes (b N : Nat) (S : List ByteArray) (a : Option Addr) (n cap : Nat) (ks : List ByteArray) (w : World) (hset : SetIn w b N S) (hn0 : n = ks.length) (hl0 : Lies w a ks) (hnm : n ≤ 1000000) (hks : ∀ j, j < n → (ks.getD j ByteArray.empty).size ≤ maxLen) (h : ∀ j, j < n → ks.getD j ByteArray.empty ∈ S) :
    Calls Tryd.prog 20 #[.map (some b), .slice a n cap] w fun e w' => e = .returned (.bool true) ∧ Below w.heap.size w w' :=
  hasAll_core _ b N S a n cap ks w hset hn0 hl0 hnm hks (fun _ _ hb => ⟨rfl, hb⟩) (fun ⟨j, hj, hq⟩ => absurd (h j hj) hq)

theorem hasAll_no (b N : Nat) (S : List ByteArray) (a : Option Addr) (n cap : Nat) (ks : List ByteArray) (w : World) (hset : SetIn w b N S) (hn0 : n = ks.length) (hl0 : Lies w a ks) (hnm : n ≤ 1000000) (hks : ∀ j, j < n → (ks.getD j ByteArray.empty).size ≤ maxLen) (h : ¬ ∀ j, j < n → ks.getD j ByteArray.empty ∈ S) :
    Calls Tryd.prog 20 #[.map (some b), .slice a n cap] w fun e w' => e = .returned (.bool false) ∧ Below w.heap.size w w' :=
  hasAll_core _ b N S a n cap ks w hset hn0 hl0 hnm hks (fun hq => absurd hq h) (fun _ _ hb => ⟨rfl, hb⟩)

/-- What stays through the statement that appends: the row's ground, and the entry's own cell. -/
def Still (B b : Nat) (p : ByteArray) (sz : Int) (kv : Value) (W0 W : World) : Prop :=
  Below B W0 W ∧ W.cell? ⟨b, 0, none⟩ = some (.string p) ∧ W.cell? ⟨b, 2, none⟩ = some kv ∧ W.heap[b]? = some (.cells #[.string p, .int .i64 sz, kv] 37 (0, 0))

theorem Still.below {B b : Nat} {p : ByteArray} {sz : Int} {kv : Value} {W0 W W' : World} (h : Still B b p sz kv W0 W) (hB : B ≤ W.heap.size) (hb : Below W.heap.size W W') : Still B b p sz kv W0 W' :=
  ⟨h.1.trans (hb.mono hB), cell_kept hb h.2.1, cell_kept hb h.2.2.1, (hb.block b (Array.getElem?_eq_some_iff.1 h.2.2.2).1).trans h.2.2.2⟩

theorem Still.grown {B b : Nat} {p : ByteArray} {sz : Int} {kv : Value} {W0 W W' : World} (h : Still B b p sz kv W0 W) (hb : Below B W0 W') (hk : W'.heap[b]? = W.heap[b]?) : Still B b p sz kv W0 W' :=
  ⟨hb, by rw [World.cell?_of_block (w := W) hk]; exact h.2.1, by rw [World.cell?_of_block (w := W) hk]; exact h.2.2.1, hk.trans h.2.2.2⟩

theorem cat_le : ∀ (l : List ByteArray) (M : Nat), (∀ k, k < l.length → (l.getD k ByteArray.empty).size ≤ M) → (cat l).size ≤ l.length * M
  | [], _, _ => Nat.zero_le _
  | s :: l, M, h => by
    have h0 := h 0 (by simp)
    have ih := cat_le l M (fun k hk => by have := h (k + 1) (by simpa using hk); simpa using this)
    rw [show cat (s :: l) = s ++ cat l from rfl, ByteArray.size_append, List.length_cons, Nat.succ_mul]
    simp at h0
    omega
end Go.Proofs.YtcjkficpiedpfabDoor.Tree
