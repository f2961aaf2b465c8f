/-
  The contract of wire.GetText, where a text stands.
-/
import Derived.Test.YtbcemghkmmbmdaaGet2
namespace Go.Proofs.Ytbcemghkmmbmdaa
open Go.RowKit

theorem neNil (w : World) : (binOp .neq 29 .nilIface .nilIface).run Try.prog w = .ok (.bool false) w := by kernel_rfl

set_option maxHeartbeats 800000 in
set_option maxRecDepth 100000 in
theorem getText_ok (a : Option Addr) (l : List UInt8) (cap n p q r1 r2 st : Nat) (T : ByteArray) (w : World) (hn : n = l.length) (hl : Lies w a l) (hlen : n ≤ 100000000000000) (hlc : n ≤ cap) (hcm : cap ≤ maxLen)
    (hp : p ≤ n) (hr : rd 0 0 (l.drop p) = (r1, r2)) (h2 : 0 < r2) (hq : r1 ≤ q) (hq2 : q ≤ 4096) (hst : st = p + r2) (hfit : st + r1 ≤ n) (hT : T = ⟨((l.drop st).take r1).toArray⟩) :
    Calls Try.prog 88 #[.slice a n cap, .int .i64 p, .int .i64 q] w fun e w' => e = .returned (.tuple #[.string T, .int .i64 ((st + r1 : Nat) : Int), .nilIface]) ∧ w = w' := by
  have hne := neNil
  have HN : Hid (n = l.length) := hn
  have hcall := getNum_ok a l cap n p q r1 r2 w HN.out hl hlen hlc hp hr h2 hq
  rw [← hst] at hcall
  have HC : Hid (Calls Try.prog 87 #[.slice a n cap, .int .i64 p, .int .u64 q] w fun e w' => e = .returned (.tuple #[.int .u64 r1, .int .i64 (st : Int), .nilIface]) ∧ w = w') := hcall
  have hll : ((l.drop st).take r1).length = r1 := by
    rw [List.length_take, List.length_drop]; omega
  have hLL : Lies w (Option.map (fun x => x.add st) a) ((l.drop st).take r1) := (hl.drop st).take r1
  have cv2 : (convert 31 9 (.slice (Option.map (fun x => x.add st) a) r1 (cap - st))).run Try.prog w = .ok (.string T) w := by
    have := conv_lies (cap := cap - st) hLL
    rw [hll] at this
    rw [hT]; exact this
  have cv1 : cap ≤ st → (convert 31 9 (.slice a r1 0)).run Try.prog w = .ok (.string T) w := fun h => by
    have := conv_lies (w := w) (a := a) (cap := 0) (l := (l.drop st).take r1) (Lies.empty _ _ (by omega))
    rw [hll] at this
    rw [hT]; exact this
  unfold maxLen at hcm
  clear hcall hr hst hT hll hLL hn hl
  by_cases hcs : cap ≤ st
  · have cv1' := cv1 hcs
    clear cv1 cv2
    go_enter Try.func88, Try.ntmps88
    go_wp2_with fail
    refine HC.out.mono ?_
    rintro e w' ⟨rfl, rfl⟩
    go_wp2
    go_ret3
    exact ⟨by simp, rfl⟩
  · clear cv1
    go_enter Try.func88, Try.ntmps88
    go_wp2_with fail
    refine HC.out.mono ?_
    rintro e w' ⟨rfl, rfl⟩
    go_wp2
    go_ret3
    exact ⟨by simp, rfl⟩
end Go.Proofs.Ytbcemghkmmbmdaa
