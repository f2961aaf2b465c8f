/-
  The contracts of mayBe, Check and Put.
-/
import Derived.Test.YtanlanolblbckaaOrOp
import Derived.Test.YtanlanolblbckaaPut
namespace Go.Proofs.Ytanlanolblbckaa.Order
open Go.RowKit Route

/-- A request's value: its cells. -/
abbrev rv (r : Rq) (a : Option Addr) (kn cap : Nat) : Array Value := #[.int .i64 r.c, .int .i64 r.t, .int .i64 r.k, .string r.nm, .string r.pt, .slice a kn cap, .int .i64 r.n]

/-- What is asked of a request's list of keys. -/
structure KeysAt (w : World) (a : Option Addr) (kn cap : Nat) (ks : List ByteArray) : Prop where
  len : kn = ks.length
  lies : Route.Lies w a ks
  most : kn ≤ 140737488355328
  nm : kn ≤ cap

theorem KeysAt.below {w w' : World} {a : Option Addr} {kn cap : Nat} {ks : List ByteArray} (h : KeysAt w a kn cap ks) (hb : Below w.heap.size w w') : KeysAt w' a kn cap ks :=
  ⟨h.len, h.lies.below hb (Nat.le_refl _), h.most, h.nm⟩

theorem mayBeOp_any (r : Rq) (a : Option Addr) (kn cap : Nat) (w : World) (hnm : r.nm.size ≤ 100000) (hpt : r.pt.size ≤ 100000) (hk : KeysAt w a kn cap r.ks) :
    Calls Try.prog 28 #[.agg #[.int .i64 r.k, .string r.nm, .string r.pt, .slice a kn cap, .int .i64 r.n]] w fun e w' => e = .returned (.bool (mayOp r)) ∧ Below w.heap.size w w' := by
  by_cases h1 : r.k = 1 ∨ r.k = 3 ∨ r.k = 4 ∨ r.k = 7
  · exact op_1000 r.k r.n r.nm r.pt a kn cap r.ks w (by rw [asks, if_pos h1]) hnm hpt hk.len hk.lies hk.most _ (by rw [mayOp, if_pos h1])
  · by_cases h2 : r.k = 2
    · exact op_1110 r.k r.n r.nm r.pt a kn cap r.ks w (by rw [asks, if_neg h1, if_pos h2]) hnm hpt hk.len hk.lies hk.most _ (by rw [mayOp, if_neg h1, if_pos h2])
    · by_cases h6 : r.k = 6
      · exact op_1100 r.k r.n r.nm r.pt a kn cap r.ks w (by rw [asks, if_neg h1, if_neg h2, if_pos h6]) hnm hpt hk.len hk.lies hk.most _ (by rw [mayOp, if_neg h1, if_neg h2, if_pos h6])
      · by_cases h8 : r.k = 8
        · exact op_0001 r.k r.n r.nm r.pt a kn cap r.ks w (by rw [asks, if_neg h1, if_neg h2, if_neg h6, if_pos h8]) hnm hpt hk.len hk.lies hk.most _ (by rw [mayOp, if_neg h1, if_neg h2, if_neg h6, if_pos h8])
        · by_cases h5 : r.k = 5 ∨ r.k = 9
          · exact op_0000 r.k r.n r.nm r.pt a kn cap r.ks w (by rw [asks, if_neg h1, if_neg h2, if_neg h6, if_neg h8, if_pos h5]) hnm hpt hk.len hk.lies hk.most _ (by rw [mayOp, if_neg h1, if_neg h2, if_neg h6, if_neg h8, if_pos h5])
          · rw [mayOp, if_neg h1, if_neg h2, if_neg h6, if_neg h8, if_neg h5]
            exact op_none r.k r.n r.nm r.pt _ w (by rw [asks, if_neg h1, if_neg h2, if_neg h6, if_neg h8, if_neg h5])

set_option maxHeartbeats 2000000 in
set_option maxRecDepth 100000 in
theorem mayBe_any (r : Rq) (a : Option Addr) (kn cap : Nat) (w : World) (hnm : r.nm.size ≤ 100000) (hpt : r.pt.size ≤ 100000) (hk : KeysAt w a kn cap r.ks) :
    Calls Try.prog 17 #[.agg (rv r a kn cap)] w fun e w' => e = .returned (.bool (may r)) ∧ Below w.heap.size w w' := by
  obtain ⟨c, t, k, n, nm, pt, ks⟩ := r
  have HR : Hid (may ⟨c, t, k, n, nm, pt, ks⟩ = (within c 0 7 && within t 1 1000 && mayOp ⟨c, t, k, n, nm, pt, ks⟩)) := rfl
  have HO : Hid (∀ w', Below w.heap.size w w' → Calls Try.prog 28 #[.agg #[.int .i64 k, .string nm, .string pt, .slice a kn cap, .int .i64 n]] w' fun e w2 => e = .returned (.bool (mayOp ⟨c, t, k, n, nm, pt, ks⟩)) ∧ Below w'.heap.size w' w2) :=
    fun w' hb => mayBeOp_any ⟨c, t, k, n, nm, pt, ks⟩ a kn cap w' hnm hpt (hk.below hb)
  clear hnm hpt hk
  generalize mayOp ⟨c, t, k, n, nm, pt, ks⟩ = o at *
  generalize may ⟨c, t, k, n, nm, pt, ks⟩ = m at *
  have HW : Hid (Below w.heap.size w (w.alloc (.cells #[.int .i64 c, .int .i64 t, .int .i64 k, .string nm, .string pt, .slice a kn cap, .int .i64 n] 26))) := (Below.refl _ _).alloc (Nat.le_refl _) _
  show Calls Try.prog 17 #[.agg #[.int .i64 c, .int .i64 t, .int .i64 k, .string nm, .string pt, .slice a kn cap, .int .i64 n]] w _
  go_enter Try.func17, Try.ntmps17
  go_wp2_with fail
  refine (within_any c 0 7 _).mono ?_
  rintro e w1 ⟨rfl, rfl⟩
  cases q1 : within c 0 7 with
  | false =>
    go_wp2
    go_ret
    exact ⟨by first | rfl | (rw [HR.out, q1]; rfl), HW.out⟩
  | true =>
    go_wp2_with fail
    refine (within_any t 1 1000 _).mono ?_
    rintro e w1 ⟨rfl, rfl⟩
    cases q2 : within t 1 1000 with
    | false =>
      go_wp2
      go_ret
      exact ⟨by first | rfl | (rw [HR.out, q1, q2]; rfl), HW.out⟩
    | true =>
      go_wp2_with fail
      refine (HO.out _ HW.out).mono ?_
      rintro e w1 ⟨rfl, hb⟩
      go_wp2
      go_ret
      exact ⟨by rw [HR.out, q1, q2]; rfl, HW.out.trans (hb.mono HW.out.size)⟩

set_option maxHeartbeats 1000000 in
theorem check_any (r : Rq) (a : Option Addr) (kn cap : Nat) (w : World) (hnm : r.nm.size ≤ 100000) (hpt : r.pt.size ≤ 100000) (hk : KeysAt w a kn cap r.ks) :
    Calls Try.prog 10 #[.agg (rv r a kn cap)] w fun e w' => e = .returned (if may r = true then .nilIface else .iface 36 (.int .i64 1)) ∧ Below w.heap.size w w' := by
  have HM : Hid (∀ w', Below w.heap.size w w' → Calls Try.prog 17 #[.agg (rv r a kn cap)] w' fun e w2 => e = .returned (.bool (may r)) ∧ Below w'.heap.size w' w2) :=
    fun w' hb => mayBe_any r a kn cap w' hnm hpt (hk.below hb)
  have HW : Hid (Below w.heap.size w (w.alloc (.cells (rv r a kn cap) 26))) := (Below.refl _ _).alloc (Nat.le_refl _) _
  clear hnm hpt hk
  cases q : may r
  all_goals
    rw [q] at HM
    go_enter Try.func10, Try.ntmps10
    go_wp2_with fail
    refine (HM.out _ HW.out).mono ?_
    rintro e w1 ⟨rfl, hb⟩
    go_wp2
    go_ret
    exact ⟨rfl, HW.out.trans (hb.mono HW.out.size)⟩
end Go.Proofs.Ytanlanolblbckaa.Order
