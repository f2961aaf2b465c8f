/-
  The document's example ('up'): it holds, in whatever memory.
-/
import Derived.Test.YtiackikomefcfaaPut
import Derived.Test.YtiackikomefcfaaGet2
namespace Go.Proofs.Ytiackikomefcfaa
open Go.RowKit

theorem digs300 : digs 300 = [172, 2] := by
  rw [digs_big (by decide), digs_small (by decide)]
  rfl

theorem num300 (w : World) : Calls Try.prog 7 #[.slice none 0 0, .int .u64 300] w fun e w' => ∃ a cap, e = .returned (.slice a 2 cap) ∧ 2 ≤ cap ∧ Lies w' a [172, 2] ∧ Below w.heap.size w w' := by
  refine (num_any none [] 0 300 w (Or.inl rfl) (by decide) (by decide)).mono ?_
  rintro e w' ⟨v, rfl, hb⟩
  obtain ⟨a, cap, rfl, h1, _, h3, _, _⟩ := hb.form
  rw [List.nil_append, digs300] at h1 h3
  exact ⟨a, cap, by rw [List.nil_append, digs300]; rfl, h1, h3, hb.2.1⟩

theorem rd300 : rd 0 0 (List.drop 0 [172, 2]) = (300, 2) := by
  have := rd_back (n := 300) (by decide) []
  rw [digs300] at this
  exact this

theorem eqErr (w : World) : (binOp .eql 31 (.iface 37 (.int .i64 1)) (.iface 37 (.int .i64 1))).run Try.prog w = .ok (.bool true) w := by kernel_rfl
theorem eqNil (w : World) : (binOp .eql 31 .nilIface .nilIface).run Try.prog w = .ok (.bool true) w := by kernel_rfl

set_option maxHeartbeats 800000 in
theorem up_any (w : World) : Calls Try.prog 6 #[] w fun e w' => e = .returned (.bool true) ∧ Below w.heap.size w w' := by
  have he1 := eqErr
  have he2 := eqNil
  go_enter Try.func6, Try.ntmps6
  go_wp2_with fail
  refine (num300 w).mono ?_
  rintro e w1 ⟨a, cap, rfl, hcap, hl, hb⟩
  have hcv : (convert 22 9 (.slice a 2 cap)).run Try.prog w1 = .ok (.string ⟨#[172, 2]⟩) w1 := conv_lies (cap := cap) hl
  go_wp2_with fail
  refine (getNum_ok a [172, 2] cap 2 0 300 300 2 w1 rfl hl (by decide) hcap (by decide) rd300 (by decide) (by decide)).mono ?_
  rintro e w2 ⟨rfl, rfl⟩
  go_wp2_with fail
  refine (getNum_arg none 0 0 1 0 w1 (Or.inr (by decide))).mono ?_
  rintro e w3 ⟨rfl, rfl⟩
  go_wp2
  go_ret
  exact ⟨rfl, hb⟩
end Go.Proofs.Ytiackikomefcfaa
