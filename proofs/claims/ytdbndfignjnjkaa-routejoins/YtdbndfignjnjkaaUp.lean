/-
  The document's example ('up'): it holds, in whatever memory.
-/
import Derived.Test.YtdbndfignjnjkaaAns
namespace Go.Proofs.Ytdbndfignjnjkaa
open Go.RowKit

theorem eqErr (w : World) : (binOp .eql 24 (.iface 30 (.int .i64 2)) (.iface 30 (.int .i64 2))).run Try.prog w = .ok (.bool true) w := by kernel_rfl
theorem eqNil (w : World) : (binOp .eql 24 .nilIface .nilIface).run Try.prog w = .ok (.bool true) w := by kernel_rfl
theorem neNil (w : World) : (binOp .neq 24 .nilIface .nilIface).run Try.prog w = .ok (.bool false) w := by kernel_rfl
theorem eqErrNil (w : World) : (binOp .eql 24 (.iface 30 (.int .i64 2)) .nilIface).run Try.prog w = .ok (.bool false) w := by kernel_rfl

theorem exA : parts ⟨#[97, 47, 98, 46, 99]⟩ = [⟨#[97]⟩, ⟨#[98, 46, 99]⟩] := by decide +kernel
theorem exB : isPath ⟨#[97, 47, 98, 46, 99]⟩ = true := by decide +kernel
theorem exC : isPath ⟨#[97, 47, 47, 98]⟩ = false := by decide +kernel

set_option maxHeartbeats 1000000 in
theorem up_any (w : World) : Calls Try.prog 7 #[] w fun e w' => e = .returned (.bool true) ∧ Below w.heap.size w w' := by
  have he1 := eqErr
  have he2 := eqNil
  have h9 := parts_ok ⟨#[97, 47, 98, 46, 99]⟩ w (by decide) exB
  rw [exA] at h9
  have h8 := fun w1 => check_no ⟨#[97, 47, 47, 98]⟩ w1 (by decide) exC
  go_enter Try.func7, Try.ntmps7
  go_wp2_with fail
  refine h9.mono ?_
  rintro e w1 ⟨v, rfl, hb⟩
  obtain ⟨g, cap, rfl, hnc, hcm, hBg, hgl, hcs⟩ := hb.formN (n := 2) rfl (by omega)
  have hc0 := hcs 0 (by decide)
  have hc1 := hcs 1 (by decide)
  clear hcs
  go_wp2_with fail
  refine (h8 w1).mono ?_
  rintro e w2 ⟨rfl, hb2⟩
  have hc0' : w2.cell? ⟨g, 0, none⟩ = some (.string ⟨#[97]⟩) := cell_later hb2 hc0
  have hc1' : w2.cell? ⟨g, 1, none⟩ = some (.string ⟨#[98, 46, 99]⟩) := cell_later hb2 hc1
  clear hc0 hc1
  go_wp2
  go_ret
  exact ⟨rfl, hb.2.1.trans (hb2.mono hb.2.2)⟩
end Go.Proofs.Ytdbndfignjnjkaa
