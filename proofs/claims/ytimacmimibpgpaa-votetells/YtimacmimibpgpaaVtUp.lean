/-
  The document's example; Quorum and Faults as the law holds them.
-/
import Derived.Test.YtimacmimibpgpaaVtWin
namespace Go.Proofs.Ytimacmimibpgpaa.Vote
open Go.RowKit

def sA : ByteArray := ⟨#[97]⟩
def ex3 : List Vt := [(1, sA), (2, sA), (1, sA)]
theorem ex_cnt : cnt ex3 sA = 2 := by decide
theorem ex_win {x : ByteArray} {ok : Bool} (h : Win ex3 2 x ok) : ok = true ∧ x = sA := by
  have := win_at h (i := 1) (by decide) (fun t => by
    have := who_len (ex3.take 1) t
    have h1 : (ex3.take 1).length = 1 := rfl
    rw [h1] at this
    show ((who (ex3.take 1) t).length : Int) < 2
    omega) (by decide)
  exact this

set_option maxHeartbeats 1000000 in
set_option maxRecDepth 100000 in
theorem up_any (w : World) : Calls Try.prog 7 #[] w fun e w' => e = .returned (.bool true) ∧ Below w.heap.size w w' := by
  obtain ⟨W, hW⟩ : ∃ W, W = w.alloc (.cells #[.int .i64 1, .string ⟨#[97]⟩, .int .i64 2, .string ⟨#[97]⟩, .int .i64 1, .string ⟨#[97]⟩] 31) := ⟨_, rfl⟩
  have HW : Hid (W = _) := hW
  have HB : Hid (Below w.heap.size w W) := by rw [hW]; exact (Below.refl _ _).alloc (Nat.le_refl _) _
  have hg : VGiven W (some ⟨w.heap.size, 0, none⟩) 3 ex3 := by
    refine ⟨rfl, .inr ⟨_, rfl, fun j hj => ?_⟩, fun v hv => ?_, by decide⟩
    · rw [hW]
      match j, hj with
      | 0, _ => exact ⟨by simp [Addr.add, ex3, vtAt, sA], by simp [Addr.add, ex3, vtAt, sA]⟩
      | 1, _ => exact ⟨by simp [Addr.add, ex3, vtAt, sA], by simp [Addr.add, ex3, vtAt, sA]⟩
      | 2, _ => exact ⟨by simp [Addr.add, ex3, vtAt, sA], by simp [Addr.add, ex3, vtAt, sA]⟩
      | (j + 3), hj => exact absurd hj (by show ¬ j + 3 < 3; omega)
    · simp only [ex3, List.mem_cons, List.not_mem_nil, or_false] at hv
      rcases hv with rfl | rfl | rfl
      · exact ⟨by decide, by decide⟩
      · exact ⟨by decide, by decide⟩
      · exact ⟨by decide, by decide⟩
  have H1 : Hid (Calls _ _ _ _ _) := winner_any (some ⟨w.heap.size, 0, none⟩) 3 3 ex3 2 W hg (by omega)
  have H2 : Hid (∀ w1, Below W.heap.size W w1 → Calls Try.prog 10 #[.slice (some ⟨w.heap.size, 0, none⟩) 3 3, .string ⟨#[97]⟩] w1 fun e w' => e = .returned (.int .i64 2) ∧ Below w1.heap.size w1 w') := fun w1 hb => by
    have := count_any (some ⟨w.heap.size, 0, none⟩) 3 3 ex3 sA w1 (hg.below hb)
    rw [ex_cnt] at this
    exact this
  have H3 : Hid (∀ w1, Calls Try.prog 12 #[.int .i64 1] w1 fun e w' => e = .returned (.int .i64 3) ∧ w' = w1) := fun w1 => quorum_any 1 w1
  clear hg hW
  go_enter Try.func7, Try.ntmps7
  go_wp2_with fail
  rw [← HW.out]
  refine H1.out.mono ?_
  rintro e w1 ⟨⟨x, ok, rfl, hx⟩, hb1⟩
  obtain ⟨rfl, rfl⟩ := ex_win hx.out
  have HB1 : Hid (Below W.heap.size W w1) := hb1
  have HX : Hid (sA = ⟨#[97]⟩) := rfl
  rw [HX.out]
  clear hx hb1 HX HW
  go_wp2_with (first | (go_at_call 10; refine (H2.out _ HB1.out).mono ?_; rintro e w2 ⟨rfl, hb2⟩) | (go_at_call 12; refine (H3.out _).mono ?_; rintro e w3 ⟨rfl, rfl⟩))
  go_ret
  exact ⟨by first | rfl | decide, HB.out.trans ((HB1.out.trans (hb2.mono HB1.out.size)).mono HB.out.size)⟩
end Go.Proofs.Ytimacmimibpgpaa.Vote
