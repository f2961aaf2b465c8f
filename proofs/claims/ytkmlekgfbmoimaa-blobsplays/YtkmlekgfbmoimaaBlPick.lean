/-
  The law's pick, and lists gone through from another place on.
-/
import Derived.Test.YtkmlekgfbmoimaaBlUp
import Derived.ProofKit
import Derived.OpenShut
namespace Go.Proofs.Ytkmlekgfbmoimaa.Blobs
open Go.RowKit Route

theorem pick_neg (c : Int) (n : Nat) (h : c < 0) (hn : 0 < n) : ∃ q : Nat, q < n ∧ -(c + 1).tmod n = (q : Int) := by
  refine ⟨((-(c + 1)) % (n : Int)).toNat, ?_, ?_⟩
  · have := Int.emod_lt_of_pos (-(c + 1)) (show (0 : Int) < n by omega)
    have := Int.emod_nonneg (-(c + 1)) (show (n : Int) ≠ 0 by omega)
    omega
  · have := Int.emod_nonneg (-(c + 1)) (show (n : Int) ≠ 0 by omega)
    rw [← Int.neg_tmod, Int.tmod_eq_emod_of_nonneg (by omega)]
    omega
theorem pick_pos (c : Int) (n : Nat) (hn : 0 < n) : ∃ q : Nat, q < n ∧ c % n = (q : Int) := by
  refine ⟨(c % (n : Int)).toNat, ?_, ?_⟩
  · have := Int.emod_lt_of_pos c (show (0 : Int) < n by omega)
    have := Int.emod_nonneg c (show (n : Int) ≠ 0 by omega)
    omega
  · have := Int.emod_nonneg c (show (n : Int) ≠ 0 by omega)
    omega

theorem pick_any (c : Int) (n : Nat) (w : World) (hc1 : -9223372036854775808 ≤ c) (hc2 : c ≤ 9223372036854775807) (hn : 0 < n) (hn2 : n ≤ 1000) :
    Calls Try.prog 9 #[.int .i64 c, .int .i64 (n : Int)] w fun e w' => (∃ q : Nat, q < n ∧ e = .returned (.int .i64 (q : Int))) ∧ w' = w := by
  rcases Int.lt_or_le c 0 with hneg | hpos
  · go_enter Try.func9, Try.ntmps9
    go_wp2
    go_ret
    obtain ⟨q, hq, he⟩ := pick_neg c n hneg hn
    exact ⟨⟨q, hq, congrArg (fun x => Ending.returned (.int .i64 x)) he⟩, rfl⟩
  · go_enter Try.func9, Try.ntmps9
    go_wp2
    go_ret
    obtain ⟨q, hq, he⟩ := pick_pos c n hn
    exact ⟨⟨q, hq, congrArg (fun x => Ending.returned (.int .i64 x)) he⟩, rfl⟩

theorem wf_in {n : Int} (h : (Lit.int .i64 n).wf = true) : -9223372036854775808 ≤ n ∧ n ≤ 9223372036854775807 := by
  have hb := bounds_i64 h
  omega

/-- The first i of a list that is gone through from place k on. -/
def turned (l : List ByteArray) (n k i : Nat) : List ByteArray := (List.range i).map fun j => l.getD ((j + k) % n) ByteArray.empty
theorem turned_succ (l : List ByteArray) (n k i : Nat) : turned l n k (i + 1) = turned l n k i ++ [l.getD ((i + k) % n) ByteArray.empty] := by
  simp [turned, List.range_succ]
theorem turned_len (l : List ByteArray) (n k i : Nat) : (turned l n k i).length = i := by simp [turned]
theorem turned_mem {l : List ByteArray} {n k : Nat} (hn : n = l.length) (h0 : 0 < n) (hk : k < n) (s : ByteArray) : s ∈ turned l n k n ↔ s ∈ l := by
  rw [turned, List.mem_map]
  constructor
  · rintro ⟨j, _, rfl⟩
    exact mem_getD.2 ⟨_, by rw [← hn]; exact Nat.mod_lt _ h0, rfl⟩
  · intro h
    obtain ⟨j, hj, rfl⟩ := mem_getD.1 h
    refine ⟨(j + (n - k)) % n, List.mem_range.2 (Nat.mod_lt _ h0), ?_⟩
    rw [Nat.mod_add_mod, show j + (n - k) + k = j + n by omega, Nat.add_mod_right, Nat.mod_eq_of_lt (by omega)]
theorem fed_same {l m S T : List ByteArray} (h1 : Fed l S) (h2 : Fed m T) (h3 : Asc S) (h4 : Asc T) (h : ∀ s, s ∈ l ↔ s ∈ m) : S = T :=
  asc_unique h3 h4 fun s => by rw [h1.mem s, h2.mem s, h s]

theorem turn_head (a : Option Addr) (len cap : Nat) (c : Int) (w : World) (hm : len ≤ 9223372036854775807) (h : 100 < len ∨ len = 0) :
    Calls Try.prog 4 #[.slice a len cap, .int .i64 c] w fun e w' => e = .returned (.bool true) ∧ Below w.heap.size w w' := by
  have HU : Hid (Calls _ _ _ _ _) := up_any w
  by_cases h1 : 100 < len
  · clear h
    go_enter Try.func4, Try.ntmps4
    go_wp2_with fail
    refine HU.out.mono ?_
    rintro e w1 ⟨rfl, hb1⟩
    go_wp2
    go_ret
    exact ⟨rfl, hb1⟩
  · obtain rfl : len = 0 := by omega
    clear h h1
    go_enter Try.func4, Try.ntmps4
    go_wp2_with fail
    refine HU.out.mono ?_
    rintro e w1 ⟨rfl, hb1⟩
    go_wp2
    go_ret
    exact ⟨rfl, hb1⟩

/-- Two stores of the law's own, that hold the same. -/
structure Two (w wr : World) (u n1 n2 : Nat) (S : List ByteArray) : Prop where
  one : StoreIn wr (u + 1) u 65536 n1 S
  two : StoreIn wr (u + 3) (u + 2) 65536 n2 S
  bel : Below w.heap.size w wr
  old : w.heap.size ≤ u
  new : u + 4 ≤ wr.heap.size

theorem Two.below {w wr w' : World} {u n1 n2 : Nat} {S : List ByteArray} (h : Two w wr u n1 n2 S) (hb : Below wr.heap.size wr w') : Two w w' u n1 n2 S :=
  ⟨h.one.below hb, h.two.below hb, h.bel.trans (hb.mono h.bel.size), h.old, Nat.le_trans h.new hb.size⟩

theorem keys_two {w wr : World} {u n1 n2 : Nat} {S : List ByteArray} (h : Two w wr u n1 n2 S) (hn : n1 ≤ 1000000) (h2 : n2 ≤ 1000000) {z : Nat} (hz : z = S.length) (b : Nat) (hb : b = u + 1 ∨ b = u + 3) :
    Calls Try.prog 17 #[.pointer (some ⟨b, 0, none⟩)] wr fun e w' => ∃ a c, e = .returned (.slice a z c) ∧ c ≤ maxLen ∧ Row wr.heap.size w' (.slice a z c) S ∧ Hid (Below wr.heap.size wr w') ∧ Two w w' u n1 n2 S := by
  subst hz
  have hc : Calls Try.prog 17 #[.pointer (some ⟨b, 0, none⟩)] wr fun e w' => ∃ v, e = .returned v ∧ Row wr.heap.size w' v S ∧ Below wr.heap.size wr w' := by
    rcases hb with rfl | rfl
    · exact keys_any h.one hn
    · exact keys_any h.two h2
  refine hc.mono ?_
  rintro e w' ⟨v, rfl, hr, hb'⟩
  obtain ⟨a, k, c, rfl, rfl, _, hcm, _⟩ := hr.lies
  exact ⟨a, c, rfl, hcm, hr, hb', h.below hb'⟩

theorem same_rows {wr : World} {B B2 z : Nat} {a a' : Option Addr} {c c' : Nat} {S : List ByteArray} (hz : z ≤ 1000000) (h : Row B wr (.slice a z c) S) (h' : Row B2 wr (.slice a' z c') S) :
    Calls Try.prog 16 #[.slice a z c, .slice a' z c'] wr fun e w' => e = .returned (.bool true) ∧ Below wr.heap.size wr w' := by
  obtain ⟨_, _, _, e1, hk, _, _, hl⟩ := h.lies
  obtain ⟨_, _, _, e2, hk', _, _, hl'⟩ := h'.lies
  simp only [Value.slice.injEq] at e1 e2
  obtain ⟨rfl, rfl, rfl⟩ := e1
  obtain ⟨rfl, rfl, rfl⟩ := e2
  have hm := same_any a S z c a' S z c' wr hk hl hk' hl' (by omega) (by omega)
  rw [decide_eq_true rfl] at hm
  exact hm

theorem Row.put {B z g c : Nat} {wr : World} {S : List ByteArray} (h : Row B wr (.slice (some ⟨g, 0, none⟩) z c) S) (hz : z = S.length) (j : Nat) (hj : j < z) :
    wr.cell? ⟨g, j, none⟩ = some (.string (S.getD j ByteArray.empty)) ∧ wr.frozen? ⟨g, j, none⟩ = false ∧ B ≤ g ∧ g < wr.heap.size ∧ Row B (wr.setCell ⟨g, j, none⟩ (.string ByteArray.empty)) (.slice (some ⟨g, 0, none⟩) z c) (S.set j ByteArray.empty) := by
  subst hz
  refine ⟨?_, World.ownsRow.frozenAt h j, (World.ownsRow.lt h g rfl).1, (World.ownsRow.lt h g rfl).2, ?_⟩
  · rw [World.ownsRow.cellAt h j (by omega), sv_at S j hj]
  · have := (World.ownsRow.stored h j (.string ByteArray.empty)).1
    unfold Row
    rw [List.length_set]
    have e : sv (S.set j ByteArray.empty) = (sv S).set j (.string ByteArray.empty) := by simp [sv]
    rw [e]
    exact this

theorem Two.set {w wr : World} {u n1 n2 g j : Nat} {S : List ByteArray} (h : Two w wr u n1 n2 S) (hg : u + 4 ≤ g) (x : Value) : Two w (wr.setCell ⟨g, j, none⟩ x) u n1 n2 S :=
  ⟨h.one.keep (Below.heap_setCell _ _ _ _ (by show u + 1 ≠ g; omega)) (Below.heap_setCell _ _ _ _ (by show u ≠ g; omega)), h.two.keep (Below.heap_setCell _ _ _ _ (by show u + 3 ≠ g; omega)) (Below.heap_setCell _ _ _ _ (by show u + 2 ≠ g; omega)), h.bel.setCell (by have := h.old; show _ ≤ g; omega) _, h.old, by simpa using h.new⟩
end Go.Proofs.Ytkmlekgfbmoimaa.Blobs
