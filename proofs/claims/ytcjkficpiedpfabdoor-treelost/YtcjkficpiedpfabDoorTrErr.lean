/-
  errors.Is of a Spot's code, and the law's own 'Is', 'Code' and 'Told', each where it tells true.
-/
import Derived.Test.YtcjkficpiedpfabDoorTrAs
namespace Go.Proofs.YtcjkficpiedpfabDoor.Tree
open Go.RowKit Route Chunk Go.Extern.Stop Go.Stop Go.Extern

theorem comparable39 (w : World) : (callFunc 97 #[.agg #[.pointer (some ⟨2, 43, none⟩)]]).run Tryd.prog w = .ok (.value (.bool true)) w := by kernel_rfl
theorem noIs64 (v : Value) (xT : TypeId) (w : World) : (Instr.typeAssert (.iface 49 v) xT 125 true).run Tryd.prog w = .ok (.tuple #[.nilIface, .bool false]) w := run_typeAssert_lacksB Tryd.underlying125 (by kernel_rfl) (by kernel_rfl) v xT w
theorem hasUnwrap64 (v : Value) (xT : TypeId) (w : World) : (Instr.typeAssert (.iface 49 v) xT 120 true).run Tryd.prog w = .ok (.tuple #[.iface 49 v, .bool true]) w := run_typeAssert_hasB Tryd.underlying120 (by kernel_rfl) v xT w
theorem methodUnwrap64 (v : Value) (w : World) : (Go.method 269 49 v "Unwrap").run Tryd.prog w = .ok (90, v) w := by kernel_rfl

/-- The numbers of the errors that trees tell of. -/
def Num (c : Nat) : Prop := c = 1 ∨ c = 2 ∨ c = 3 ∨ c = 4 ∨ c = 7

theorem eqCode {c : Nat} (h : Num c) (w : World) : (binOp .eql 31 (.iface 43 (.int .i64 (c : Int))) (.iface 43 (.int .i64 (c : Int)))).run Tryd.prog w = .ok (.bool true) w := by
  rcases h with rfl | rfl | rfl | rfl | rfl <;> kernel_rfl

theorem eqSpot (a : Addr) (w : World) : (binOp .eql 31 (.iface 49 (.pointer (some a))) (.iface 49 (.pointer (some a)))).run Tryd.prog w = .ok (.bool true) w := by
  have hc : (Tryd.prog.info? 49).map (·.comparable) = some true := by kernel_rfl
  have hs : (Tryd.prog.info? 51).map (·.size) = some 2 := by kernel_rfl
  obtain ⟨i, hi, hcmp⟩ := Option.map_eq_some_iff.1 hc
  obtain ⟨j, hj, _⟩ := Option.map_eq_some_iff.1 hs
  exact run_eql_iface_ptr_same (P := Tryd.prog) w a Tryd.underlying31 Tryd.underlying49 hi hcmp hj

theorem neSpot (a : Addr) (w : World) : (binOp .neq 31 (.iface 49 (.pointer (some a))) (.iface 49 (.pointer (some a)))).run Tryd.prog w = .ok (.bool false) w := by
  have hc : (Tryd.prog.info? 49).map (·.comparable) = some true := by kernel_rfl
  have hs : (Tryd.prog.info? 51).map (·.size) = some 2 := by kernel_rfl
  obtain ⟨i, hi, hcmp⟩ := Option.map_eq_some_iff.1 hc
  obtain ⟨j, hj, _⟩ := Option.map_eq_some_iff.1 hs
  simp only [binOp]
  simp [Op.equal, Op.maxDepth, run_equalIn_iface_ptr_same (P := Tryd.prog) w 9998 a Tryd.underlying31 Tryd.underlying49 hi hcmp hj]

set_option maxHeartbeats 4000000 in
set_option maxRecDepth 100000 in
/-- errors.Is of a Spot and its own code. -/
theorem is_spot (g c : Nat) (w : World) (hc : Num c) (h1 : w.cell? ⟨g, 1, none⟩ = some (.iface 43 (.int .i64 (c : Int)))) :
    Calls Tryd.prog 24 #[.iface 49 (.pointer (some ⟨g, 0, none⟩)), .iface 43 (.int .i64 (c : Int))] w fun e w' => e = .returned (.bool true) ∧ w' = w := by
  have h69 := @run_callFunc_extern Tryd.prog 39 _ ReflectliteType.typeOf Tryd.func39 (by kernel_rfl) (by kernel_rfl) (by kernel_rfl) (by kernel_rfl)
  have x1 := typeOf39
  have x2 := comparable39
  have x3 := methodComparable
  have x4 := noIs64
  have x5 := hasUnwrap64
  have x6 := methodUnwrap64
  have x7 := eqCode hc
  have x8 := fun w => run_eql_iface_types (P := Tryd.prog) 49 43 (.pointer (some ⟨g, 0, none⟩)) (.int .i64 (c : Int)) Tryd.underlying31 (by decide) w
  clear hc
  go_enter Tryd.func24, Tryd.ntmps24
  go_wp2
  refine wp_loop_rounds 2 ?_
  rw [rounds_succ]
  go_wp2
  rw [rounds_succ]
  go_wp2
  go_ret
  exact ⟨rfl, rfl⟩

set_option maxHeartbeats 4000000 in
set_option maxRecDepth 100000 in
/-- The law's 'Is' at a Spot of that place and that code. -/
theorem is_yes (g c : Nat) (i : Nat) (w : World) (hg : Known w) (hc : Num c) (h0 : w.cell? ⟨g, 0, none⟩ = some (.int .i64 (i : Int))) (h1 : w.cell? ⟨g, 1, none⟩ = some (.iface 43 (.int .i64 (c : Int)))) :
    Calls Tryd.prog 11 #[.iface 49 (.pointer (some ⟨g, 0, none⟩)), .int .i64 (i : Int), .int .i64 (c : Int)] w fun e w' => e = .returned (.bool true) ∧ Below w.heap.size w w' := by
  have hgl : g < w.heap.size := World.block_lt_of_cell? w _ h0
  have x1 := eqCode hc
  have x2 := neSpot ⟨g, 0, none⟩
  have has := as_hit ⟨g, 0, none⟩ ⟨w.heap.size, 0, none⟩ (.pointer none) (w.alloc (.cells #[.pointer none] 49)) (hg.below ((Below.refl _ _).alloc (Nat.le_refl _) _) (Nat.le_refl _)) (by simp) (World.frozen?_alloc_at _ _ _ _ rfl)
  have HA : Hid (Calls Tryd.prog 23 #[.iface 49 (.pointer (some ⟨g, 0, none⟩)), .iface 62 (.pointer (some ⟨w.heap.size, 0, none⟩))] (w.alloc (.cells #[.pointer none] 49)) fun ev w' => ev = .returned (.bool true) ∧ Below w.heap.size w w' ∧ w'.cell? ⟨w.heap.size, 0, none⟩ = some (.pointer (some ⟨g, 0, none⟩)) ∧ w'.cell? ⟨g, 0, none⟩ = some (.int .i64 (i : Int)) ∧ w'.cell? ⟨g, 1, none⟩ = some (.iface 43 (.int .i64 (c : Int)))) := by
    refine has.mono ?_
    rintro ev w' ⟨rfl, rfl⟩
    have hb : Below w.heap.size w (((((w.alloc (.cells #[.pointer none] 49)).alloc (.cells #[.pointer (some ⟨w.heap.size, 0, none⟩)] 62)).alloc (.cells #[.pointer (some ⟨2, 62, none⟩), .pointer (some ⟨(w.alloc (.cells #[.pointer none] 49)).heap.size, 0, none⟩), .int .u64 150] 84)).alloc (.cells #[.pointer (some ⟨2, 62, none⟩), .pointer (some ⟨(w.alloc (.cells #[.pointer none] 49)).heap.size, 0, none⟩), .int .u64 150] 84)).alloc (.cells #[.pointer (some ⟨g, 0, none⟩)] 49)) :=
      (((((Below.refl _ _).alloc (Nat.le_refl _) _).alloc (by simp) _).alloc (by simp; omega) _).alloc (by simp; omega) _).alloc (by simp; omega) _
    refine ⟨rfl, hb.setCell (Nat.le_refl _) _, ?_, ?_, ?_⟩
    · refine World.cell?_setCell_same _ _ _ (u := .pointer none) ?_
      rw [World.cell?_alloc_lt _ _ _ (by simp; omega), World.cell?_alloc_lt _ _ _ (by simp; omega), World.cell?_alloc_lt _ _ _ (by simp; omega), World.cell?_alloc_lt _ _ _ (by simp)]
      simp
    · rw [World.cell?_setCell_far _ _ _ _ (show w.heap.size ≠ g by omega), hb.cell (show g < w.heap.size from hgl)]; exact h0
    · rw [World.cell?_setCell_far _ _ _ _ (show w.heap.size ≠ g by omega), hb.cell (show g < w.heap.size from hgl)]; exact h1
  have HI : Hid (∀ W, W.cell? ⟨g, 1, none⟩ = some (.iface 43 (.int .i64 (c : Int))) → Calls Tryd.prog 24 #[.iface 49 (.pointer (some ⟨g, 0, none⟩)), .iface 43 (.int .i64 (c : Int))] W fun e w' => e = .returned (.bool true) ∧ w' = W) := fun W h => is_spot g c W hc h
  clear has hg hc h0 h1
  go_enter Tryd.func11, Tryd.ntmps11
  go_wp2_with fail
  refine HA.out.mono ?_
  rintro ev w1 ⟨rfl, hb1, c0, c1, c2⟩
  clear HA
  go_wp2_with (go_at_call 24; refine (HI.out _ c2).mono ?_; rintro e w2 ⟨rfl, rfl⟩)
  all_goals
    go_ret
    exact ⟨rfl, hb1⟩
end Go.Proofs.YtcjkficpiedpfabDoor.Tree
