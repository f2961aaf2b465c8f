/-
  The contracts of what is small: isWithin, asked, areKeys, isName; the answer's name and Same of two lists.
-/
import Derived.Test.YtanlanolblbckaaOrMay
import Derived.Test.YtanlanolblbckaaRtAns
namespace Go.Proofs.Ytanlanolblbckaa.Order
open Go.RowKit Route

theorem eqNil (w : World) : (binOp .eql 30 .nilIface .nilIface).run Try.prog w = .ok (.bool true) w := by kernel_rfl
theorem neNil (w : World) : (binOp .neq 30 .nilIface .nilIface).run Try.prog w = .ok (.bool false) w := by kernel_rfl
theorem eqFormNil (w : World) : (binOp .eql 30 (.iface 36 (.int .i64 2)) .nilIface).run Try.prog w = .ok (.bool false) w := by kernel_rfl
theorem neFormNil (w : World) : (binOp .neq 30 (.iface 36 (.int .i64 2)) .nilIface).run Try.prog w = .ok (.bool true) w := by kernel_rfl
theorem eqArgNil (w : World) : (binOp .eql 30 (.iface 36 (.int .i64 1)) .nilIface).run Try.prog w = .ok (.bool false) w := by kernel_rfl
theorem neArgNil (w : World) : (binOp .neq 30 (.iface 36 (.int .i64 1)) .nilIface).run Try.prog w = .ok (.bool true) w := by kernel_rfl
theorem eqForm (w : World) : (binOp .eql 30 (.iface 36 (.int .i64 2)) (.iface 36 (.int .i64 2))).run Try.prog w = .ok (.bool true) w := by kernel_rfl
theorem neForm (w : World) : (binOp .neq 30 (.iface 36 (.int .i64 2)) (.iface 36 (.int .i64 2))).run Try.prog w = .ok (.bool false) w := by kernel_rfl
theorem eqArg (w : World) : (binOp .eql 30 (.iface 36 (.int .i64 1)) (.iface 36 (.int .i64 1))).run Try.prog w = .ok (.bool true) w := by kernel_rfl

theorem len_text (s : ByteArray) (z : Nat) (hz : z = s.size) (w : World) : (Builtin.len_ #[9] 3 #[.string s]).run Try.prog w = .ok (.int .i64 (z : Int)) w := by
  rw [run_len_string w 9 3 s Try.underlying9, hz]; rfl

set_option maxHeartbeats 400000 in
theorem within_any (n lo hi : Int) (w : World) : Calls Try.prog 27 #[.int .i64 n, .int .i64 lo, .int .i64 hi] w fun e w' => e = .returned (.bool (within n lo hi)) ∧ w' = w := by
  obtain ⟨r, hr⟩ : ∃ r, r = within n lo hi := ⟨_, rfl⟩
  have HR : Hid (r = within n lo hi) := hr
  rw [← hr]
  clear hr
  by_cases h1 : lo ≤ n
  · by_cases h2 : n ≤ hi
    · have hr : r = true := by rw [HR.out, within_iff]; exact ⟨h1, h2⟩
      subst hr
      go_enter Try.func27, Try.ntmps27
      go_wp2
      go_ret
      exact ⟨rfl, rfl⟩
    · have hr : r = false := by rw [HR.out, within, decide_eq_false h2, Bool.and_false]
      subst hr
      go_enter Try.func27, Try.ntmps27
      go_wp2
      go_ret
      exact ⟨rfl, rfl⟩
  · have hr : r = false := by rw [HR.out, within, decide_eq_false h1, Bool.false_and]
    subst hr
    go_enter Try.func27, Try.ntmps27
    go_wp2
    go_ret
    exact ⟨rfl, rfl⟩

/-- The fields that a kind asks for: name, path, keys, number. -/
def asks (k : Int) : Bool × Bool × Bool × Bool × Bool :=
  if k = 1 ∨ k = 3 ∨ k = 4 ∨ k = 7 then (true, false, false, false, true)
  else if k = 2 then (true, true, true, false, true)
  else if k = 6 then (true, true, false, false, true)
  else if k = 8 then (false, false, false, true, true)
  else if k = 5 ∨ k = 9 then (false, false, false, false, true)
  else (false, false, false, false, false)

set_option maxHeartbeats 4000000 in
set_option maxRecDepth 100000 in
theorem asked_core (k : Int) (a b c d o : Bool) (w : World) (h : Hid (asks k = (a, b, c, d, o))) :
    Calls Try.prog 36 #[.int .i64 k] w fun e w' => e = .returned (.tuple #[.agg #[.bool a, .bool b, .bool c, .bool d], .bool o]) ∧ Below w.heap.size w w' := by
  by_cases h1 : k = 1 ∨ k = 3 ∨ k = 4 ∨ k = 7
  · have e := h.out
    rw [asks, if_pos h1] at e
    injection e with e1 e; injection e with e2 e; injection e with e3 e; injection e with e4 e5
    subst e1; subst e2; subst e3; subst e4; subst e5
    clear h
    rcases h1 with rfl | rfl | rfl | rfl
    all_goals
      go_enter Try.func36, Try.ntmps36
      go_wp2
      exact bodyPost_ret (v := .tuple #[.agg #[.bool true, .bool false, .bool false, .bool false], .bool true]) (by simp [results, Try.results36, go_sem]) rfl ⟨rfl, ((Below.refl _ _).alloc (Nat.le_refl _) _)⟩
  · have e := h.out
    rw [asks, if_neg h1] at e
    have n1 : ¬ k = 1 := fun e => h1 (by omega)
    have n3 : ¬ k = 3 := fun e => h1 (by omega)
    have n4 : ¬ k = 4 := fun e => h1 (by omega)
    have n7 : ¬ k = 7 := fun e => h1 (by omega)
    by_cases h2 : k = 2
    · rw [if_pos h2] at e
      injection e with e1 e; injection e with e2 e; injection e with e3 e; injection e with e4 e5
      subst e1; subst e2; subst e3; subst e4; subst e5
      subst h2
      clear h
      go_enter Try.func36, Try.ntmps36
      go_wp2
      exact bodyPost_ret (v := .tuple #[.agg #[.bool true, .bool true, .bool true, .bool false], .bool true]) (by simp [results, Try.results36, go_sem]) rfl ⟨rfl, ((Below.refl _ _).alloc (Nat.le_refl _) _)⟩
    · rw [if_neg h2] at e
      by_cases h6 : k = 6
      · rw [if_pos h6] at e
        injection e with e1 e; injection e with e2 e; injection e with e3 e; injection e with e4 e5
        subst e1; subst e2; subst e3; subst e4; subst e5
        subst h6
        clear h
        go_enter Try.func36, Try.ntmps36
        go_wp2
        exact bodyPost_ret (v := .tuple #[.agg #[.bool true, .bool true, .bool false, .bool false], .bool true]) (by simp [results, Try.results36, go_sem]) rfl ⟨rfl, ((Below.refl _ _).alloc (Nat.le_refl _) _)⟩
      · rw [if_neg h6] at e
        by_cases h8 : k = 8
        · rw [if_pos h8] at e
          injection e with e1 e; injection e with e2 e; injection e with e3 e; injection e with e4 e5
          subst e1; subst e2; subst e3; subst e4; subst e5
          subst h8
          clear h
          go_enter Try.func36, Try.ntmps36
          go_wp2
          exact bodyPost_ret (v := .tuple #[.agg #[.bool false, .bool false, .bool false, .bool true], .bool true]) (by simp [results, Try.results36, go_sem]) rfl ⟨rfl, ((Below.refl _ _).alloc (Nat.le_refl _) _)⟩
        · rw [if_neg h8] at e
          by_cases h5 : k = 5 ∨ k = 9
          · rw [if_pos h5] at e
            injection e with e1 e; injection e with e2 e; injection e with e3 e; injection e with e4 e5
            subst e1; subst e2; subst e3; subst e4; subst e5
            clear h
            rcases h5 with rfl | rfl
            all_goals
              go_enter Try.func36, Try.ntmps36
              go_wp2
              exact bodyPost_ret (v := .tuple #[.agg #[.bool false, .bool false, .bool false, .bool false], .bool true]) (by simp [results, Try.results36, go_sem]) rfl ⟨rfl, ((Below.refl _ _).alloc (Nat.le_refl _) _)⟩
          · rw [if_neg h5] at e
            injection e with e1 e; injection e with e2 e; injection e with e3 e; injection e with e4 e5
            subst e1; subst e2; subst e3; subst e4; subst e5
            have n5 : ¬ k = 5 := fun e => h5 (by omega)
            have n9 : ¬ k = 9 := fun e => h5 (by omega)
            clear h h1 h5
            go_enter Try.func36, Try.ntmps36
            go_wp2
            exact bodyPost_ret (v := .tuple #[.agg #[.bool false, .bool false, .bool false, .bool false], .bool false]) (by simp [results, Try.results36, go_sem]) rfl ⟨rfl, ((Below.refl _ _).alloc (Nat.le_refl _) _)⟩

/-- 'isName'. -/
theorem isName_any (s : ByteArray) (w : World) (hs : s.size ≤ 100000) : Calls Try.prog 37 #[.string s] w fun e w' => e = .returned (.bool (isPart s)) ∧ Below w.heap.size w w' := by
  have q1 := eqNil
  have q2 := eqFormNil
  rw [← name_iff]
  cases hp : isPath s with
  | false =>
    rw [Bool.false_and]
    go_enter Try.func37, Try.ntmps37
    go_wp2_with (go_at_call 45; refine (parts_no s w hs hp).mono ?_; rintro e w1 ⟨rfl, hb⟩)
    go_ret
    exact ⟨rfl, hb⟩
  | true =>
    rw [Bool.true_and]
    have HC : Hid (Calls _ _ _ _ _) := parts_ok s w hs hp
    obtain ⟨n, hn⟩ : ∃ n, n = (parts s).length := ⟨_, rfl⟩
    have HN : Hid (n = (parts s).length) := hn
    rw [← hn]
    clear hn
    have hn8 : n ≤ 8 := by rw [HN.out]; exact (path_len hp).2
    by_cases h1 : n = 1
    · rw [decide_eq_true h1]
      subst h1
      go_enter Try.func37, Try.ntmps37
      go_wp2_with fail
      refine HC.out.mono ?_
      rintro e w1 ⟨v, rfl, hb⟩
      obtain ⟨a, cap, rfl, _, _, _⟩ := hb.liesN HN.out
      go_wp2
      go_ret
      exact ⟨rfl, hb.2.1⟩
    · rw [decide_eq_false h1]
      have h1' : ((n : Int) == 1) = false := by simp; omega
      go_enter Try.func37, Try.ntmps37
      go_wp2_with fail
      refine HC.out.mono ?_
      rintro e w1 ⟨v, rfl, hb⟩
      obtain ⟨a, cap, rfl, _, _, _⟩ := hb.liesN HN.out
      go_wp2
      go_ret
      exact ⟨rfl, hb.2.1⟩

theorem refName_any (s : ByteArray) (w : World) (hs : s.size ≤ 100000) : Calls Try.prog 31 #[.string s] w fun e w' => e = .returned (.bool (isPart s)) ∧ w = w' := by
  go_enter Try.func31, Try.ntmps31
  go_wp2_with (go_at_call 40; refine (refPart_any s w (by omega)).mono ?_; rintro e w1 ⟨rfl, rfl⟩)
  go_ret
  exact ⟨rfl, rfl⟩
end Go.Proofs.Ytanlanolblbckaa.Order
