/-
  The contracts of what reads, on: wire.readNum of any bytes, wire.GetNum, wire.GetText.
-/
import Derived.Test.YtbcemghkmmbmdaaGet
namespace Go.Proofs.Ytbcemghkmmbmdaa
open Go.RowKit

set_option maxHeartbeats 400000 in
theorem readNum_empty (a : Option Addr) (cap : Nat) (w : World) :
    Calls Try.prog 93 #[.slice a 0 cap] w fun e w' => e = .returned (.tuple #[.int .u64 0, .int .i64 0]) ∧ w = w' := by
  go_enter Try.func93, Try.ntmps93
  go_wp2
  refine wp_loop_rounds 1 ?_
  rw [rounds_succ]
  go_wp2
  go_ret2
  exact ⟨rfl, rfl⟩

theorem readNum_any (a : Option Addr) (l : List UInt8) (cap n : Nat) (w : World) (hn : n = l.length) (hl : Lies w a l) (hlen : l.length ≤ 140737488355328) :
    Calls Try.prog 93 #[.slice a n cap] w fun e w' => e = .returned (.tuple #[.int .u64 (rd 0 0 l).1, .int .i64 (rd 0 0 l).2]) ∧ w = w' := by
  subst hn
  by_cases h0 : 0 < l.length
  · obtain ⟨b, off, rfl, hc⟩ := hl.at h0
    exact readNum_some b off cap l w hc hlen
  · have : l = [] := List.eq_nil_of_length_eq_zero (by omega)
    subst this
    exact readNum_empty a cap w

set_option maxHeartbeats 400000 in
theorem getNum_arg (a : Option Addr) (n cap : Nat) (p : Int) (q : Int) (w : World) (h : p < 0 ∨ (n : Int) < p) :
    Calls Try.prog 87 #[.slice a n cap, .int .i64 p, .int .u64 q] w fun e w' => e = .returned (.tuple #[.int .u64 0, .int .i64 0, .iface 34 (.int .i64 1)]) ∧ w = w' := by
  rcases h with h | h
  · go_enter Try.func87, Try.ntmps87
    go_wp2
    all_goals (go_ret3; exact ⟨rfl, rfl⟩)
  · by_cases h' : p < 0
    all_goals
      go_enter Try.func87, Try.ntmps87
      go_wp2
      all_goals (go_ret3; exact ⟨rfl, rfl⟩)

theorem add_add (x : Addr) (p j : Nat) : (x.add p).add j = x.add (p + j) := by
  unfold Addr.add
  by_cases hp : p = 0 <;> by_cases hj : j = 0 <;> simp [hp, hj] <;> omega

theorem Lies.drop {w : World} {a : Option Addr} {l : List UInt8} (h : Lies w a l) (p : Nat) : Lies w (Option.map (fun x => x.add p) a) (l.drop p) := by
  rcases h with rfl | ⟨x, rfl, hx⟩
  · exact Or.inl (by simp)
  · refine Or.inr ⟨x.add p, rfl, fun j u hj => ?_⟩
    rw [add_add]
    refine hx (p + j) u ?_
    rw [← hj]
    simp [bv, List.getElem?_drop]

theorem Lies.empty (w : World) (a : Option Addr) {l : List UInt8} (h : l.length = 0) : Lies w a l := Or.inl (List.eq_nil_of_length_eq_zero h)

theorem Lies.take {w : World} {a : Option Addr} {l : List UInt8} (h : Lies w a l) (p : Nat) : Lies w a (l.take p) := by
  rcases h with rfl | ⟨x, rfl, hx⟩
  · exact Or.inl (by simp)
  · refine Or.inr ⟨x, rfl, fun j u hj => ?_⟩
    refine hx j u ?_
    simp only [bv, List.map_take, List.getElem?_take] at hj
    split at hj
    · exact hj
    · cases hj

/-- The call of readNum in GetNum, whatever way the cut goes. -/
theorem readNum_cut {w : World} {a : Option Addr} {l : List UInt8} {n p r1 r2 : Nat} (hn : n = l.length) (hl : Lies w a l) (hlen : n ≤ 100000000000000) (hp : p ≤ n) (hr : rd 0 0 (l.drop p) = (r1, r2)) (cap' : Nat) :
    Calls Try.prog 93 #[.slice (Option.map (fun x => x.add p) a) (n - p) cap'] w fun e w' => e = .returned (.tuple #[.int .u64 r1, .int .i64 r2]) ∧ w = w' := by
  have h := readNum_any (Option.map (fun x => x.add p) a) (l.drop p) cap' (n - p) w (by rw [List.length_drop, hn]) (hl.drop p) (by rw [List.length_drop]; omega)
  rw [hr] at h
  exact h

theorem readNum_end {w : World} {a : Option Addr} {l : List UInt8} {n p r1 r2 : Nat} (hn : n = l.length) (hp : n ≤ p) (hr : rd 0 0 (l.drop p) = (r1, r2)) (cap' : Nat) :
    Calls Try.prog 93 #[.slice a (n - p) cap'] w fun e w' => e = .returned (.tuple #[.int .u64 r1, .int .i64 r2]) ∧ w = w' := by
  have h := readNum_any a (l.drop p) cap' (n - p) w (by rw [List.length_drop, hn]) (Lies.empty _ _ (by rw [List.length_drop]; omega)) (by rw [List.length_drop]; omega)
  rw [hr] at h
  exact h

theorem rd_le : ∀ (l : List UInt8) (i a : Nat), (rd i a l).2 ≤ i + l.length
  | [], i, a => by simp [rd]
  | d :: r, i, a => by
    have ih := rd_le r (i + 1) (a + d.toNat % 128 * 2 ^ (7 * i))
    simp only [rd, List.length_cons]
    repeat' split
    all_goals (first | omega | (show 0 ≤ _; omega) | (show i + 1 ≤ _; omega))

set_option maxHeartbeats 800000 in
theorem getNum_ok (a : Option Addr) (l : List UInt8) (cap n p q r1 r2 : Nat) (w : World) (hn : n = l.length) (hl : Lies w a l) (hlen : n ≤ 100000000000000) (hlc : n ≤ cap)
    (hp : p ≤ n) (hr : rd 0 0 (l.drop p) = (r1, r2)) (h2 : 0 < r2) (hq : r1 ≤ q) :
    Calls Try.prog 87 #[.slice a n cap, .int .i64 p, .int .u64 q] w fun e w' => e = .returned (.tuple #[.int .u64 r1, .int .i64 ((p + r2 : Nat) : Int), .nilIface]) ∧ w = w' := by
  have HN : Hid (n = l.length) := hn
  have HR : Hid (rd 0 0 (l.drop p) = (r1, r2)) := hr
  have h2n : r2 ≤ n - p := by
    have := rd_le (l.drop p) 0 0
    rw [hr, List.length_drop, ← hn] at this
    simpa using this
  have hpc : p < cap := by omega
  clear hn hr
  go_enter Try.func87, Try.ntmps87
  go_wp2_with (go_at_call 93; refine (readNum_cut HN.out hl hlen hp HR.out _).mono ?_; rintro e w' ⟨rfl, rfl⟩)
  all_goals (go_ret3; exact ⟨by simp, rfl⟩)

set_option maxHeartbeats 800000 in
theorem getNum_form (a : Option Addr) (l : List UInt8) (cap n p q r1 : Nat) (w : World) (hn : n = l.length) (hl : Lies w a l) (hlen : n ≤ 100000000000000) (hlc : n ≤ cap)
    (hp : p ≤ n) (hr : rd 0 0 (l.drop p) = (r1, 0)) :
    Calls Try.prog 87 #[.slice a n cap, .int .i64 p, .int .u64 q] w fun e w' => e = .returned (.tuple #[.int .u64 0, .int .i64 0, .iface 34 (.int .i64 2)]) ∧ w = w' := by
  have HN : Hid (n = l.length) := hn
  have HR : Hid (rd 0 0 (l.drop p) = (r1, 0)) := hr
  clear hn hr
  by_cases hpc : p < cap
  · go_enter Try.func87, Try.ntmps87
    go_wp2_with (go_at_call 93; refine (readNum_cut HN.out hl hlen hp HR.out _).mono ?_; rintro e w' ⟨rfl, rfl⟩)
    all_goals (go_ret3; exact ⟨rfl, rfl⟩)
  · have hpc' : cap ≤ p := by omega
    go_enter Try.func87, Try.ntmps87
    go_wp2_with (go_at_call 93; refine (readNum_end HN.out (by omega) HR.out _).mono ?_; rintro e w' ⟨rfl, rfl⟩)
    all_goals (go_ret3; exact ⟨rfl, rfl⟩)

set_option maxHeartbeats 800000 in
theorem getNum_large (a : Option Addr) (l : List UInt8) (cap n p q r1 r2 : Nat) (w : World) (hn : n = l.length) (hl : Lies w a l) (hlen : n ≤ 100000000000000) (hlc : n ≤ cap)
    (hp : p ≤ n) (hr : rd 0 0 (l.drop p) = (r1, r2)) (h2 : 0 < r2) (hq : q < r1) :
    Calls Try.prog 87 #[.slice a n cap, .int .i64 p, .int .u64 q] w fun e w' => e = .returned (.tuple #[.int .u64 0, .int .i64 0, .iface 34 (.int .i64 7)]) ∧ w = w' := by
  have HN : Hid (n = l.length) := hn
  have HR : Hid (rd 0 0 (l.drop p) = (r1, r2)) := hr
  have h2n : r2 ≤ n - p := by
    have := rd_le (l.drop p) 0 0
    rw [hr, List.length_drop, ← hn] at this
    simpa using this
  have hpc : p < cap := by omega
  clear hn hr
  go_enter Try.func87, Try.ntmps87
  go_wp2_with (go_at_call 93; refine (readNum_cut HN.out hl hlen hp HR.out _).mono ?_; rintro e w' ⟨rfl, rfl⟩)
  all_goals (go_ret3; exact ⟨rfl, rfl⟩)
end Go.Proofs.Ytbcemghkmmbmdaa
