/-
  The walk of RouteUnder.
-/
import Derived.Test.YtdbndfignjnjkaaUp
import Derived.Test.YtdbndfignjnjkaaUnder
import Derived.Test.YtdbndfignjnjkaaRefUnder
namespace Go.Proofs.Ytdbndfignjnjkaa
open Go.RowKit

set_option maxHeartbeats 1000000 in
theorem routeUnder_walk (d s : ByteArray) (w : World) (hd : d.size ≤ maxLen) (hs : s.size ≤ maxLen) :
    Calls Try.prog 5 #[.string d, .string s] w fun e w' => e = .returned (.bool true) ∧ Below w.heap.size w w' := by
  unfold maxLen at hd hs
  by_cases h1 : 2000 < d.size
  · go_enter Try.func5, Try.ntmps5
    go_wp2_with fail
    refine (up_any w).mono ?_
    rintro e w1 ⟨rfl, hb⟩
    go_wp2
    go_ret
    exact ⟨rfl, hb⟩
  · by_cases h2 : 2000 < s.size
    · go_enter Try.func5, Try.ntmps5
      go_wp2_with fail
      refine (up_any w).mono ?_
      rintro e w1 ⟨rfl, hb⟩
      go_wp2
      go_ret
      exact ⟨rfl, hb⟩
    · have hu : Hid (∀ w1, Calls Try.prog 16 #[.string d, .string s] w1 fun e w' => e = .returned (.bool (isUnder d s)) ∧ Below w1.heap.size w1 w') := fun w1 => under_any d s w1 (by omega) (by omega)
      have hr : Hid (∀ w1, Calls Try.prog 17 #[.string d, .string s] w1 fun e w' => e = .returned (.bool (isUnder d s)) ∧ Below w1.heap.size w1 w') := fun w1 => refUnder_any d s w1 (by omega) (by omega)
      generalize isUnder d s = r at *
      have heq : ∀ W : World, (binOp .eql 4 (.bool r) (.bool r)).run Try.prog W = .ok (.bool true) W := fun W => by cases r <;> kernel_rfl
      go_enter Try.func5, Try.ntmps5
      go_wp2_with fail
      refine (up_any w).mono ?_
      rintro e w1 ⟨rfl, hb⟩
      go_wp2_with fail
      refine (hu.out w1).mono ?_
      rintro e w2 ⟨rfl, hb2⟩
      go_wp2_with fail
      refine (hr.out w2).mono ?_
      rintro e w3 ⟨rfl, hb3⟩
      go_wp2
      go_ret
      have hB := hb.trans (hb2.mono hb.size)
      exact ⟨rfl, hB.trans (hb3.mono hB.size)⟩
end Go.Proofs.Ytdbndfignjnjkaa
