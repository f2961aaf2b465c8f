/-
  The law's own 'Code' and 'Told' at what the program tells.
-/
import Derived.Test.YtcjkficpiedpfaaDoorTrErr
namespace Go.Proofs.YtcjkficpiedpfaaDoor.Tree
open Go.RowKit Route Chunk

theorem eqNums {c k : Nat} (hc : c = 1 ∨ c = 7) (h1 : 1 ≤ k) (h2 : k ≤ 7) (w : World) : (binOp .eql 26 (.iface 39 (.int .i64 (c : Int))) (.iface 39 (.int .i64 (k : Int)))).run Tryd.prog w = .ok (.bool (decide (c = k))) w := by
  have : k = 1 ∨ k = 2 ∨ k = 3 ∨ k = 4 ∨ k = 5 ∨ k = 6 ∨ k = 7 := by omega
  clear h1 h2
  rcases hc with rfl | rfl
  · rcases this with rfl | rfl | rfl | rfl | rfl | rfl | rfl <;> show Sem.run _ _ _ = _ <;> kernel_rfl
  · rcases this with rfl | rfl | rfl | rfl | rfl | rfl | rfl <;> show Sem.run _ _ _ = _ <;> kernel_rfl

theorem eqNil0 (w : World) : (binOp .eql 26 .nilIface .nilIface).run Tryd.prog w = .ok (.bool true) w := by kernel_rfl

set_option maxHeartbeats 2000000 in
set_option maxRecDepth 100000 in
theorem code_nil (w : World) : Calls Tryd.prog 34 #[.nilIface] w fun e w' => e = .returned (.int .i64 0) ∧ w' = w := by
  have x := eqNil0
  go_enter Tryd.func34, Tryd.ntmps34
  go_wp2
  go_ret
  exact ⟨rfl, rfl⟩

set_option maxHeartbeats 2000000 in
set_option maxRecDepth 100000 in
theorem code_num (c : Nat) (hc : c = 1 ∨ c = 7) (w : World) : Calls Tryd.prog 34 #[.iface 39 (.int .i64 (c : Int))] w fun e w' => e = .returned (.int .i64 (c : Int)) ∧ w' = w := by
  have HE : Hid (∀ k : Nat, 1 ≤ k → k ≤ 7 → ∀ w, (binOp .eql 26 (.iface 39 (.int .i64 (c : Int))) (.iface 39 (.int .i64 (k : Int)))).run Tryd.prog w = .ok (.bool (decide (c = k))) w) := fun k h1 h2 w => eqNums hc h1 h2 w
  have h7 : c ≤ 7 := by omega
  have h1 : 1 ≤ c := by omega
  clear hc
  go_enter Tryd.func34, Tryd.ntmps34
  go_wp2
  go_loop [2, 3] (fun t2 t3 => ∃ k : Nat, t2 = .int .i64 0 ∧ t3 = .int .i64 (k : Int) ∧ 1 ≤ k ∧ k ≤ c) (fun _ t3 => 8 - (intOf t3).toNat)
  case atStart => exact ⟨1, rfl, rfl, by omega, h1⟩
  case round =>
    obtain ⟨k, rfl, rfl, hk1, hk2⟩ := hrel
    have he := HE.out k hk1 (by omega)
    by_cases hck : c = k
    · rw [decide_eq_true hck] at he
      subst hck
      go_wp2
      go_ret
      exact ⟨rfl, rfl⟩
    · rw [decide_eq_false hck] at he
      go_wp2
      go_round
      case rel => exact ⟨k + 1, rfl, by go_num, by omega, by omega⟩
      case measure => simp [intOf]; omega

/-- A place, as a number: -1 of none. -/
def placeI : Option Nat → Int
  | none => -1
  | some i => (i : Int)

set_option maxHeartbeats 2000000 in
set_option maxRecDepth 100000 in
theorem told_none (v : Value) (c : Nat) (w : World) (hc : ∀ W, Calls Tryd.prog 34 #[v] W fun e w' => e = .returned (.int .i64 (c : Int)) ∧ w' = W) :
    Calls Tryd.prog 15 #[v, .int .i64 (c : Int), .int .i64 (-1)] w fun e w' => e = .returned (.bool true) ∧ w' = w := by
  have HC : Hid (∀ W, Calls Tryd.prog 34 #[v] W fun e w' => e = .returned (.int .i64 (c : Int)) ∧ w' = W) := hc
  clear hc
  go_enter Tryd.func15, Tryd.ntmps15
  go_wp2_with (go_at_call 34; refine (HC.out _).mono ?_; rintro e w1 ⟨rfl, rfl⟩)
  go_ret
  exact ⟨rfl, rfl⟩

set_option maxHeartbeats 2000000 in
set_option maxRecDepth 100000 in
theorem told_some (v : Value) (c i : Nat) (w : World) (hc : Calls Tryd.prog 26 #[v, .int .i64 (i : Int), .int .i64 (c : Int)] w fun e w' => e = .returned (.bool true) ∧ Below w.heap.size w w') :
    Calls Tryd.prog 15 #[v, .int .i64 (c : Int), .int .i64 (i : Int)] w fun e w' => e = .returned (.bool true) ∧ Below w.heap.size w w' := by
  have HC : Hid (Calls Tryd.prog 26 #[v, .int .i64 (i : Int), .int .i64 (c : Int)] w fun e w' => e = .returned (.bool true) ∧ Below w.heap.size w w') := hc
  clear hc
  go_enter Tryd.func15, Tryd.ntmps15
  go_wp2_with (go_at_call 26; refine HC.out.mono ?_; rintro e w1 ⟨rfl, hb⟩)
  go_ret
  exact ⟨rfl, hb⟩

/-- The law finds what was told. -/
theorem told_any {B : Nat} (v : Value) (c : Nat) (pl : Option Nat) (w : World) (hg : Known w) (h : ErrV B w v c pl) (hn : c = 0 ∨ Num c) (hp : pl = none → c = 0 ∨ c = 1 ∨ c = 7) :
    Calls Tryd.prog 15 #[v, .int .i64 (c : Int), .int .i64 (placeI pl)] w fun e w' => e = .returned (.bool true) ∧ Below w.heap.size w w' := by
  rcases h with ⟨rfl, rfl, rfl⟩ | ⟨h0, rfl, rfl⟩ | ⟨h0, i, g, rfl, rfl, _, h1, h2⟩
  · refine (told_none .nilIface 0 w fun W => code_nil W).mono ?_
    rintro e w' ⟨rfl, rfl⟩
    exact ⟨rfl, Below.refl _ _⟩
  · refine (told_none _ c w fun W => code_num c (by rcases hp rfl with h | h | h <;> omega) W).mono ?_
    rintro e w' ⟨rfl, rfl⟩
    exact ⟨rfl, Below.refl _ _⟩
  · exact told_some _ c i w (is_yes g c i w hg (hn.resolve_left h0) h1 h2)
end Go.Proofs.YtcjkficpiedpfaaDoor.Tree
