/-
  Whether a message may be: the test, whole.
-/
import Derived.Test.YtbcemghkmmbmdaaMsMb1
import Derived.Test.YtbcemghkmmbmdaaMsMb2
import Derived.Test.YtbcemghkmmbmdaaMsMb3
import Derived.Test.YtbcemghkmmbmdaaMsMb4
import Derived.Test.YtbcemghkmmbmdaaMsMb5
import Derived.Test.YtbcemghkmmbmdaaMsMb6
import Derived.Test.YtbcemghkmmbmdaaMsMb7
namespace Go.Proofs.Ytbcemghkmmbmdaa.Msg
open Go.RowKit Route

theorem mayBe_any (m : Ms) (a : Option Addr) (n c : Nat) (a' : Option Addr) (n' c' : Nat) (w : World) (hM : MsIn w m a n a' n') (hF : Fit m) :
    Calls Try.prog 26 #[.agg (msV m a n c a' n' c')] w fun e w' => e = .returned (.bool (mayB m)) ∧ Below w.heap.size w w' := by
  cases h1 : (isIn m.k 1 7) with
  | false => exact mayBe_1 m a n c a' n' c' w hM hF h1
  | true =>
    cases h2 : (nodeB m.f) with
    | false => exact mayBe_2 m a n c a' n' c' w hM hF h1 h2
    | true =>
      cases h3 : (isIn m.v 0 64) with
      | false => exact mayBe_3 m a n c a' n' c' w hM hF h1 h2 h3
      | true =>
        cases h4 : (isIn m.s 0 (if m.k = 7 then 1000 else 64)) with
        | false => exact mayBe_4 m a n c a' n' c' w hM hF h1 h2 h3 h4
        | true =>
          cases h5 : (decide (m.b.size ≤ 4096)) with
          | false => exact mayBe_5 m a n c a' n' c' w hM hF h1 h2 h3 h4 h5
          | true =>
            cases h6 : (pfsB m.p (if m.k = 5 then 64 else 0 : Int).toNat) with
            | false => exact mayBe_6 m a n c a' n' c' w hM hF h1 h2 h3 h4 h5 h6
            | true =>
              exact mayBe_7 m a n c a' n' c' w hM hF h1 h2 h3 h4 h5 h6
end Go.Proofs.Ytbcemghkmmbmdaa.Msg
