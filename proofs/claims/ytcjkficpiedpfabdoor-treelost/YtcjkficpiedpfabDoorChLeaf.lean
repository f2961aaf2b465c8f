/-
  The least functions of chunk and of its answer: which cuts may be, and whether a chunk may end behind a byte.
-/
import Derived.Test.YtcjkficpiedpfabDoorRtStrs
import Derived.Test.YtcjkficpiedpfabDoorChMath
import Derived.Laws.BitsLemmas
import Derived.BigQuiet
namespace Go.Proofs.YtcjkficpiedpfabDoor.Chunk
open Go.RowKit Route

/-- May the cut be? -/
def mayB (mn mx mk : Int) : Bool := decide (1 ≤ mn ∧ mn ≤ mx ∧ mx ≤ 64 ∧ 0 ≤ mk ∧ mk ≤ 255)

theorem mayB_nat {mn mx mk : Int} (h : mayB mn mx mk = true) : ∃ m M K : Nat, mn = (m : Int) ∧ mx = (M : Int) ∧ mk = (K : Int) ∧ 1 ≤ m ∧ m ≤ M ∧ M ≤ 64 ∧ K ≤ 255 := by
  simp only [mayB, decide_eq_true_eq] at h
  exact ⟨mn.toNat, mx.toNat, mk.toNat, by omega, by omega, by omega, by omega, by omega, by omega, by omega⟩

/-- A cut, as a value. -/
def cutV (mn mx mk : Int) : Value := .agg #[.int .i64 mn, .int .i64 mx, .int .i64 mk]

theorem index_at (s : ByteArray) (i : Nat) (j : Int) (hj : j = (i : Int)) (h : i < s.size) (w : World) : (Instr.index 9 (.string s) (.int .i64 j)).run Tryd.prog w = .ok (.int .u8 (bt s i : Int)) w := by
  subst hj
  have := run_index_string (P := Tryd.prog) w 9 s .i64 (i : Int) Tryd.underlying9
  rw [this, dif_pos ⟨by omega, by omega⟩]
  simp [bt_at s i h]

theorem wraps_i64 (n : Int) (h₀ : 0 ≤ n) (h₁ : n < 2 ^ 63) : IntKind.i64.wrap n = n := by rw [IntKind.wrap_i64]; omega

theorem and_nat (a b : Nat) (ha : a < 2 ^ 63) (hb : b < 2 ^ 63) : bits .and .i64 (a : Int) (b : Int) = ((a &&& b : Nat) : Int) :=
  (bits_nat .i64 63 (by decide) wraps_i64 a b ha hb).1

set_option maxHeartbeats 2000000 in
theorem may_any (mn mx mk : Int) (w : World) :
    Calls Tryd.prog 13 #[cutV mn mx mk] w fun e w' => e = .returned (.bool (mayB mn mx mk)) ∧ Below w.heap.size w w' := by
  unfold cutV
  go_enter Tryd.func13, Tryd.ntmps13
  go_wp2
  all_goals
    go_ret
    refine ⟨?_, (Below.refl _ _).alloc (Nat.le_refl _) _⟩
    first
    | (have e : mayB mn mx mk = false := by unfold mayB; exact decide_eq_false (by omega)
       rw [e]; rfl)
    | (have e : mayB mn mx mk = decide (mk ≤ 255) := by unfold mayB; exact decide_eq_decide.2 (by omega)
       rw [e]; rfl)

set_option maxHeartbeats 2000000 in
theorem mayEnd_any (a b K : Nat) (w : World) (ha : a < 256) (hb : b < 256) (hK : K < 256) :
    Calls Tryd.prog 61 #[.int .u8 (a : Int), .int .u8 (b : Int), .int .i64 (K : Int)] w fun e w' => e = .returned (.bool (has a b K)) ∧ w' = w := by
  go_enter Tryd.func61, Tryd.ntmps61
  go_wp2
  go_ret
  refine ⟨?_, rfl⟩
  have e : bits .and .i64 (31 * (a : Int) + (b : Int)) (K : Int) = (((31 * a + b) &&& K : Nat) : Int) := and_nat (31 * a + b) K (by omega) (by omega)
  show Ending.returned (.bool (bits .and .i64 (31 * (a : Int) + (b : Int)) (K : Int) == (K : Int))) = _
  rw [e, has, Bool.beq_eq_decide_eq]
  congr 2
  exact decide_eq_decide.2 (by omega)
end Go.Proofs.YtcjkficpiedpfabDoor.Chunk
