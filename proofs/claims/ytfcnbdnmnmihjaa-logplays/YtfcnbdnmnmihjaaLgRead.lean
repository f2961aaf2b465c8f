/-
  The contracts of what reads a tape's bytes: bytes.Clone, log.recordAt, log.wholeRecords.
-/
import Derived.Test.YtfcnbdnmnmihjaaLgMem
import Derived.Lib.SliceRun
namespace Go.Proofs.Ytfcnbdnmnmihjaa
open Go.RowKit

set_option maxHeartbeats 400000 in
theorem clone_any {a : Option Addr} {k cap : Nat} {l : List UInt8} {w : World} (hk : Hid (k = l.length)) (hl : Lies w a l) (hnil : a = none → k = 0 ∧ cap = 0) (hlen : k ≤ 100000000000000) :
    Calls Try.prog 27 #[.slice a k cap] w fun e w' => ∃ a' k' cap', e = .returned (.slice a' k' cap') ∧ Row w.heap.size w' (.slice a' k' cap') l ∧ Below w.heap.size w w' := by
  cases a with
  | none =>
    obtain ⟨rfl, rfl⟩ := hnil rfl
    have h0 : l = [] := List.eq_nil_of_length_eq_zero hk.out.symm
    subst h0
    have hq : ∀ W, (binOp .eql 31 (.slice none 0 0) (.slice none 0 0)).run Try.prog W = .ok (.bool true) W := fun W => Lib.run_eql_slice_nil W _ _ _ _ _ _ _ Try.underlying31
    go_enter Try.func27, Try.ntmps27
    go_wp2
    go_ret
    exact ⟨_, _, _, rfl, Row.nil _ _, Below.refl _ _⟩
  | some x =>
    have hS : w.heap.size ≤ (w.alloc (.cells #[] 5)).heap.size := by simp
    have hba : Below w.heap.size w (w.alloc (.cells #[] 5)) := (Below.refl _ _).alloc (Nat.le_refl _) _
    have hl' : Lies (w.alloc (.cells #[] 5)) (some x) l := hl.below hba (Nat.le_refl _)
    have hR : Row w.heap.size (w.alloc (.cells #[] 5)) (.slice (some ⟨w.heap.size, 0, none⟩) 0 0) [] := Row.made _ _ (Nat.le_refl _)
    have HP : Hid (∀ v' w1, Row w.heap.size w1 v' ([] ++ l) → (w.alloc (.cells #[] 5)).grownBy w1 (Value.slice (some ⟨w.heap.size, 0, none⟩) 0 0).ownBlock →
        ∃ a' k' cap', v' = .slice a' k' cap' ∧ Row w.heap.size w1 (.slice a' k' cap') l ∧ Below w.heap.size w w1) := by
      intro v' w1 hr hg
      obtain ⟨a', k', cap', rfl, _⟩ := hr.form
      exact ⟨a', k', cap', rfl, hr, hba.grown hg hS (fun g hg => by simp [Value.ownBlock] at hg; omega)⟩
    have HL : Hid (([] : List UInt8).length + k ≤ 140737488355328) := by show _ ≤ _; simp; omega
    have HK : Hid (some x = none → k = 0 ∧ cap = 0) := hnil
    clear hba hl hnil
    have hq : ∀ W, (binOp .eql 31 (.slice (some x) k cap) (.slice none 0 0)).run Try.prog W = .ok (.bool false) W := fun W => Lib.run_eql_slice_nil W _ _ _ _ _ _ _ Try.underlying31
    go_enter Try.func27, Try.ntmps27
    go_wp2_with (at_builtin; refine wpList_grow rfl (.tmp 5) (.tmp 6) rfl w.heap.size (.slice (some ⟨w.heap.size, 0, none⟩) 0 0) [] rfl hR hS l (some x) k cap rfl hk hl' HK.out HL.out ?_; intro v2 w2 hr2 hg2 hat2; obtain ⟨a3, k3, cap3, rfl, hT⟩ := HP.out v2 w2 hr2 hg2; replace hT : Hid _ := hT)
    go_ret
    exact ⟨_, _, _, rfl, hT.out⟩

set_option maxHeartbeats 800000 in
theorem recordAt_yes (a : Option Addr) (l : List UInt8) (cap n p r1 r2 : Nat) (w : World) (hn : n = l.length) (hl : Lies w a l) (hlen : n ≤ 1000000000000) (hlc : n ≤ cap)
    (hr : rd 0 0 (l.drop p) = (r1, r2)) (h2 : 0 < r2) (h1 : 1 ≤ r1) (hm : r1 ≤ 65536) (hf : p + r2 + r1 ≤ n) :
    Calls Try.prog 28 #[.slice a n cap, .int .i64 p] w fun e w' => e = .returned (.tuple #[.int .i64 ((p + r2 : Nat) : Int), .int .i64 ((p + r2 + r1 : Nat) : Int), .bool true]) ∧ w = w' := by
  have HC : Hid (Calls _ _ _ _ _) := getNum_ok a l cap n p 65536 r1 r2 w hn hl (by omega) hlc (by omega) hr h2 hm
  clear hn hr hl
  go_enter Try.func28, Try.ntmps28
  go_wp2_with fail
  refine HC.out.mono ?_
  rintro e w' ⟨rfl, rfl⟩
  clear HC
  go_wp2
  go_ret3
  exact ⟨by simp, rfl⟩

set_option maxHeartbeats 800000 in
theorem recordAt_no (a : Option Addr) (l : List UInt8) (cap n p : Nat) (w : World) (hn : n = l.length) (hl : Lies w a l) (hlen : n ≤ 1000000000000) (hlc : n ≤ cap)
    (hp : p ≤ n) (hw : whole (l.drop p) = false) :
    Calls Try.prog 28 #[.slice a n cap, .int .i64 p] w fun e w' => e = .returned (.tuple #[.int .i64 0, .int .i64 0, .bool false]) ∧ w = w' := by
  obtain ⟨r1, hr1⟩ : ∃ r1, r1 = (rd 0 0 (l.drop p)).1 := ⟨_, rfl⟩
  obtain ⟨r2, hr2⟩ : ∃ r2, r2 = (rd 0 0 (l.drop p)).2 := ⟨_, rfl⟩
  have hr : rd 0 0 (l.drop p) = (r1, r2) := by rw [hr1, hr2]
  have hle := rd_le (l.drop p) 0 0
  simp only [whole, hr, decide_eq_false_iff_not, List.length_drop] at hw hle
  rw [← hn] at hw hle
  clear hr1 hr2
  by_cases hz : r2 = 0
  · subst hz
    have HC : Hid (Calls _ _ _ _ _) := getNum_form a l cap n p 65536 r1 w hn hl (by omega) hlc hp hr
    clear hn hr hl hw
    go_enter Try.func28, Try.ntmps28
    go_wp2_with fail
    refine HC.out.mono ?_
    rintro e w' ⟨rfl, rfl⟩
    clear HC
    go_wp2
    go_ret3
    exact ⟨rfl, rfl⟩
  · by_cases hq : 65536 < r1
    · have HC : Hid (Calls _ _ _ _ _) := getNum_large a l cap n p 65536 r1 r2 w hn hl (by omega) hlc hp hr (by omega) hq
      clear hn hr hl hw
      go_enter Try.func28, Try.ntmps28
      go_wp2_with fail
      refine HC.out.mono ?_
      rintro e w' ⟨rfl, rfl⟩
      clear HC
      go_wp2
      go_ret3
      exact ⟨rfl, rfl⟩
    · have HC : Hid (Calls _ _ _ _ _) := getNum_ok a l cap n p 65536 r1 r2 w hn hl (by omega) hlc hp hr (by omega) (by omega)
      have hc : r1 < 1 ∨ (1 ≤ r1 ∧ n < p + r2 + r1) := by omega
      have hb : p + r2 ≤ n := by omega
      clear hn hr hl hw
      rcases hc with hc | ⟨hc1, hc2⟩
      all_goals
        go_enter Try.func28, Try.ntmps28
        go_wp2_with fail
        refine HC.out.mono ?_
        rintro e w' ⟨rfl, rfl⟩
        clear HC
        go_wp2
        go_ret3
        exact ⟨rfl, rfl⟩
end Go.Proofs.Ytfcnbdnmnmihjaa
