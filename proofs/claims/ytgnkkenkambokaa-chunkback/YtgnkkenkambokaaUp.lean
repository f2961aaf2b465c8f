/-
  The document's example, at the head of all statements: it holds.
-/
import Derived.Test.YtgnkkenkambokaaChSplit
namespace Go.Proofs.Ytgnkkenkambokaa.Chunk
open Go.RowKit Route

theorem example_chunks : chunks 2 2 255 ⟨#[97, 98, 99, 100, 101]⟩ = [⟨#[97, 98]⟩, ⟨#[99, 100]⟩, ⟨#[101]⟩] := by kernel_rfl

set_option maxHeartbeats 4000000 in
set_option maxRecDepth 100000 in
theorem up_any (w : World) : Calls Try.prog 8 #[] w fun e w' => e = .returned (.bool true) ∧ Below w.heap.size w w' := by
  have h1 := split_ok ⟨#[97, 98, 99, 100, 101]⟩ 2 2 255 w (by decide) (by decide) (by decide) (by decide) (by decide)
  have h2 := fun W => may_any 1 1 0 W
  have e : mayB 1 1 0 = true := by decide
  rw [e] at h2
  rw [example_chunks] at h1
  unfold cutV at h1 h2
  clear e
  go_enter Try.func8, Try.ntmps8
  go_wp2_with (first
    | (go_at_call 9; refine h1.mono ?_; rintro e w1 ⟨v, rfl, hst⟩; obtain ⟨g, cap, rfl, hc1, hc2, _, hg, hc⟩ := hst.formN (n := 3) rfl (by decide); have hc0 := hc 0 (by decide); have hc2 := hc 2 (by decide); simp only [List.getD_cons_zero, List.getD_cons_succ] at hc0 hc2; clear hc)
    | (go_at_call 11; refine (h2 _).mono ?_; rintro e w2 ⟨rfl, hb2⟩))
  go_ret
  exact ⟨rfl, hst.2.1.trans (hb2.mono hst.2.2)⟩
end Go.Proofs.Ytgnkkenkambokaa.Chunk
