/-
  VoteQuorums, walked.
-/
import Derived.Test.YtimacmimibpgpaaVtUp
namespace Go.Proofs.Ytimacmimibpgpaa.Vote
open Go.RowKit

set_option maxHeartbeats 2000000 in
set_option maxRecDepth 100000 in
theorem quor_core (f n : Int) (w : World) (wf : (Lit.int .i64 n).wf = true) (q k : Int) (hq : (0 ≤ f ∧ f ≤ 4 → q = 2 * f + 1) ∧ (¬ (0 ≤ f ∧ f ≤ 4) → q = 0)) (hk : (n < 1 → k = 0) ∧ (1 ≤ n → k = (n - 1) / 3))
    (HQ : Hid (∀ w1, Calls Try.prog 12 #[.int .i64 f] w1 fun e w' => e = .returned (.int .i64 q) ∧ w' = w1)) (HK : Hid (∀ w1, Calls Try.prog 13 #[.int .i64 n] w1 fun e w' => e = .returned (.int .i64 k) ∧ w' = w1)) :
    Calls Try.prog 4 #[.int .i64 f, .int .i64 n] w fun e w' => e = .returned (.bool true) ∧ Below w.heap.size w w' := by
  have HU : Hid (Calls _ _ _ _ _) := up_any w
  have hn := wf_bound wf
  clear wf
  by_cases h0 : f < 0
  · have hq0 : q = 0 := hq.2 (by omega)
    subst hq0
    by_cases h1 : n < 1
    · have hk0 : k = 0 := hk.1 h1
      subst hk0
      clear hq hk
      go_enter Try.func4, Try.ntmps4
      go_wp2_with (first | (go_at_call 7; refine HU.out.mono ?_; rintro e w1 ⟨rfl, hb⟩) | (go_at_call 12; refine (HQ.out _).mono ?_; rintro e w2 ⟨rfl, rfl⟩) | (go_at_call 13; refine (HK.out _).mono ?_; rintro e w3 ⟨rfl, rfl⟩))
      go_ret
      exact ⟨by first | rfl | simp, hb⟩
    · have hk0 := hk.2 (by omega)
      have k1 : 0 ≤ k := by omega
      have k2 : k ≤ (n - 1) / 3 := by omega
      have k3 : n - 1 - 3 * k < 3 := by omega
      have k4 : k ≤ 3074457345618258602 := by omega
      have d1 : decide (k ≤ (n - 1) / 3) = true := decide_eq_true k2
      clear hq hk hk0
      go_enter Try.func4, Try.ntmps4
      go_wp2_with (first | (go_at_call 7; refine HU.out.mono ?_; rintro e w1 ⟨rfl, hb⟩) | (go_at_call 12; refine (HQ.out _).mono ?_; rintro e w2 ⟨rfl, rfl⟩) | (go_at_call 13; refine (HK.out _).mono ?_; rintro e w3 ⟨rfl, rfl⟩))
      go_ret
      exact ⟨by first | rfl | (simp; omega), hb⟩
  by_cases h4 : 4 < f
  · have hq0 : q = 0 := hq.2 (by omega)
    subst hq0
    by_cases h1 : n < 1
    · have hk0 : k = 0 := hk.1 h1
      subst hk0
      clear hq hk
      go_enter Try.func4, Try.ntmps4
      go_wp2_with (first | (go_at_call 7; refine HU.out.mono ?_; rintro e w1 ⟨rfl, hb⟩) | (go_at_call 12; refine (HQ.out _).mono ?_; rintro e w2 ⟨rfl, rfl⟩) | (go_at_call 13; refine (HK.out _).mono ?_; rintro e w3 ⟨rfl, rfl⟩))
      go_ret
      exact ⟨by first | rfl | simp, hb⟩
    · have hk0 := hk.2 (by omega)
      have k1 : 0 ≤ k := by omega
      have k2 : k ≤ (n - 1) / 3 := by omega
      have k3 : n - 1 - 3 * k < 3 := by omega
      have k4 : k ≤ 3074457345618258602 := by omega
      have d1 : decide (k ≤ (n - 1) / 3) = true := decide_eq_true k2
      clear hq hk hk0
      go_enter Try.func4, Try.ntmps4
      go_wp2_with (first | (go_at_call 7; refine HU.out.mono ?_; rintro e w1 ⟨rfl, hb⟩) | (go_at_call 12; refine (HQ.out _).mono ?_; rintro e w2 ⟨rfl, rfl⟩) | (go_at_call 13; refine (HK.out _).mono ?_; rintro e w3 ⟨rfl, rfl⟩))
      go_ret
      exact ⟨by first | rfl | (simp; omega), hb⟩
  · have hq0 : q = 2 * f + 1 := hq.1 (by omega)
    subst hq0
    by_cases h1 : n < 1
    · have hk0 : k = 0 := hk.1 h1
      subst hk0
      clear hq hk
      go_enter Try.func4, Try.ntmps4
      go_wp2_with (first | (go_at_call 7; refine HU.out.mono ?_; rintro e w1 ⟨rfl, hb⟩) | (go_at_call 12; refine (HQ.out _).mono ?_; rintro e w2 ⟨rfl, rfl⟩) | (go_at_call 13; refine (HK.out _).mono ?_; rintro e w3 ⟨rfl, rfl⟩))
      go_ret
      exact ⟨by first | rfl | simp, hb⟩
    · have hk0 := hk.2 (by omega)
      have k1 : 0 ≤ k := by omega
      have k2 : k ≤ (n - 1) / 3 := by omega
      have k3 : n - 1 - 3 * k < 3 := by omega
      have k4 : k ≤ 3074457345618258602 := by omega
      have d1 : decide (k ≤ (n - 1) / 3) = true := decide_eq_true k2
      clear hq hk hk0
      go_enter Try.func4, Try.ntmps4
      go_wp2_with (first | (go_at_call 7; refine HU.out.mono ?_; rintro e w1 ⟨rfl, hb⟩) | (go_at_call 12; refine (HQ.out _).mono ?_; rintro e w2 ⟨rfl, rfl⟩) | (go_at_call 13; refine (HK.out _).mono ?_; rintro e w3 ⟨rfl, rfl⟩))
      go_ret
      exact ⟨by first | rfl | (simp; omega), hb⟩

theorem voteQuorums_walk (f n : Int) (w : World) (_ : (Lit.int .i64 f).wf = true) (wn : (Lit.int .i64 n).wf = true) : Calls Try.prog 4 #[.int .i64 f, .int .i64 n] w fun e w' => e = .returned (.bool true) ∧ Below w.heap.size w w' :=
  quor_core f n w wn (quorum f) (faults n) ⟨fun h => if_pos h, fun h => if_neg h⟩ ⟨fun h => if_pos h, fun h => if_neg (by omega)⟩ (fun w1 => quorum_any f w1) (fun w1 => faults_any n w1 wn)
end Go.Proofs.Ytimacmimibpgpaa.Vote
