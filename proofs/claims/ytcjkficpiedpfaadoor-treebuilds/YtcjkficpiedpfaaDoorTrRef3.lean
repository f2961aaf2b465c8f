/-
  The document's answer for files: its 'Clash', and its 'Build' where the cut may not be, or the files are too many.
-/
import Derived.Test.YtcjkficpiedpfaaDoorTrBuild2
import Derived.Test.YtcjkficpiedpfaaDoorTrTold
namespace Go.Proofs.YtcjkficpiedpfaaDoor.Tree
open Go.RowKit Route Chunk

set_option maxHeartbeats 4000000 in
set_option maxRecDepth 100000 in
theorem refClash_any (p q : ByteArray) (w : World) (hp : p.size ≤ 100000) (hq : q.size ≤ 100000) :
    Calls Tryd.prog 41 #[.string p, .string q] w fun e w' => e = .returned (.bool (clashB p q)) ∧ Below w.heap.size w w' := by
  have h1 : Hid (∀ W, Calls Tryd.prog 32 #[.string p, .string q] W fun e w' => e = .returned (.bool (isUnder p q)) ∧ Below W.heap.size W w') := fun W => refUnder_any p q W hp hq
  have h2 : Hid (∀ W, Calls Tryd.prog 32 #[.string q, .string p] W fun e w' => e = .returned (.bool (isUnder q p)) ∧ Below W.heap.size W w') := fun W => refUnder_any q p W hq hp
  by_cases hpq : p = q
  · subst hpq
    have e : clashB p p = true := by simp [clashB]
    rw [e]
    clear h1 h2
    go_enter Tryd.func41, Tryd.ntmps41
    go_wp2
    go_ret
    exact ⟨rfl, Below.refl _ _⟩
  · have hne := ne_text hpq
    have e : clashB p q = (isUnder p q || isUnder q p) := by simp [clashB, hpq]
    rw [e]
    generalize isUnder p q = b1 at h1
    generalize isUnder q p = b2 at h2
    clear hpq e
    cases b1 with
    | true =>
      go_enter Tryd.func41, Tryd.ntmps41
      go_wp2_with fail
      refine (h1.out _).mono ?_
      rintro e w1 ⟨rfl, hb1⟩
      go_wp2
      go_ret
      exact ⟨rfl, hb1⟩
    | false =>
      go_enter Tryd.func41, Tryd.ntmps41
      go_wp2_with fail
      refine (h1.out _).mono ?_
      rintro e w1 ⟨rfl, hb1⟩
      go_wp2_with fail
      refine (h2.out _).mono ?_
      rintro e w2 ⟨rfl, hb2⟩
      go_wp2
      go_ret
      exact ⟨by simp, hb1.trans (hb2.mono hb1.size)⟩

set_option maxHeartbeats 4000000 in
set_option maxRecDepth 100000 in
theorem refBuild_may (a : Option Addr) (n cap : Nat) (mn mx mk : Int) (w : World) (hm : mayB mn mx mk = false) :
    Calls Tryd.prog 20 #[.slice a n cap, cutV mn mx mk] w fun e w' => e = .returned (.tuple #[.slice none 0 0, .int .i64 1, .int .i64 (-1)]) ∧ Below w.heap.size w w' := by
  have HM : Hid (∀ W, Calls Tryd.prog 40 #[.agg #[.int .i64 mn, .int .i64 mx, .int .i64 mk]] W fun e w' => e = .returned (.bool false) ∧ Below W.heap.size W w') := fun W => by
    have := refMay_any mn mx mk W
    rw [hm] at this
    exact this
  unfold cutV
  clear hm
  go_enter Tryd.func20, Tryd.ntmps20
  go_wp2_with fail
  refine (HM.out _).mono ?_
  rintro e w1 ⟨rfl, hb1⟩
  obtain ⟨_, _, _, hbw, _⟩ := cut_box hb1
  clear hb1
  go_wp2
  refine bodyPost_ret (v := .tuple #[.slice none 0 0, .int .i64 1, .int .i64 (-1)]) (by simp [results, Tryd.results20, go_sem]) rfl ?_
  exact ⟨rfl, hbw⟩

set_option maxHeartbeats 4000000 in
set_option maxRecDepth 100000 in
theorem refBuild_large (a : Option Addr) (n cap : Nat) (mn mx mk : Int) (w : World) (hm : mayB mn mx mk = true) (hn : 32 < n) (hn2 : n ≤ 1000) :
    Calls Tryd.prog 20 #[.slice a n cap, cutV mn mx mk] w fun e w' => e = .returned (.tuple #[.slice none 0 0, .int .i64 7, .int .i64 (-1)]) ∧ Below w.heap.size w w' := by
  have HM : Hid (∀ W, Calls Tryd.prog 40 #[.agg #[.int .i64 mn, .int .i64 mx, .int .i64 mk]] W fun e w' => e = .returned (.bool true) ∧ Below W.heap.size W w') := fun W => by
    have := refMay_any mn mx mk W
    rw [hm] at this
    exact this
  unfold cutV
  clear hm
  go_enter Tryd.func20, Tryd.ntmps20
  go_wp2_with fail
  refine (HM.out _).mono ?_
  rintro e w1 ⟨rfl, hb1⟩
  obtain ⟨_, _, _, hbw, _⟩ := cut_box hb1
  clear hb1
  go_wp2
  refine bodyPost_ret (v := .tuple #[.slice none 0 0, .int .i64 7, .int .i64 (-1)]) (by simp [results, Tryd.results20, go_sem]) rfl ?_
  exact ⟨rfl, hbw⟩
end Go.Proofs.YtcjkficpiedpfaaDoor.Tree
