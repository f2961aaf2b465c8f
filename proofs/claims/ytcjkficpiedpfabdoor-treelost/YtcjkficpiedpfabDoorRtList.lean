/-
  What is told of a list of texts: whether they may be a path's parts (the program's answer and the document's), and whether two lists are the same.
-/
import Derived.Test.YtcjkficpiedpfabDoorRtPart
import Derived.BigQuiet
namespace Go.Proofs.YtcjkficpiedpfabDoor.Route
open Go.RowKit

theorem Lies.at {w : World} {a : Option Addr} {l : List ByteArray} (h : Lies w a l) (h0 : 0 < l.length) :
    ∃ b off, a = some ⟨b, off, none⟩ ∧ ∀ j, j < l.length → w.cell? ⟨b, off + j, none⟩ = some (.string (l.getD j ByteArray.empty)) := by
  rcases h with rfl | ⟨x, rfl, hx⟩
  · simp at h0
  · obtain ⟨b, off, spot⟩ := x
    have hspot : spot = none := by simpa [Addr.add] using World.cell?_spot (hx 0 h0)
    subst hspot
    exact ⟨b, off, rfl, fun j hj => by rw [← Go.WideShapes.add_plain]; exact hx j hj⟩

theorem all_drop {l : List ByteArray} {k : Nat} (h : k < l.length) : (l.drop k).all isPart = (isPart (l.getD k ByteArray.empty) && (l.drop (k + 1)).all isPart) := by
  rw [List.drop_eq_getElem_cons h, List.all_cons]
  simp [List.getD_eq_getElem?_getD, List.getElem?_eq_getElem h]

set_option maxHeartbeats 4000000 in
set_option maxRecDepth 100000 in
theorem arePath_far (a : Option Addr) (k cap : Nat) (w : World) (hk : ¬ (1 ≤ k ∧ k ≤ 8)) (hm : k ≤ 140737488355328) :
    Calls Tryd.prog 60 #[.slice a k cap] w fun e w' => e = .returned (.bool false) ∧ w = w' := by
  by_cases h0 : k < 1
  · go_enter Tryd.func60, Tryd.ntmps60
    go_wp2
    go_ret
    exact ⟨rfl, rfl⟩
  · have h9 : 8 < k := by omega
    go_enter Tryd.func60, Tryd.ntmps60
    go_wp2
    go_ret
    exact ⟨rfl, rfl⟩

set_option maxHeartbeats 4000000 in
set_option maxRecDepth 100000 in
theorem arePath_any (a : Option Addr) (l : List ByteArray) (k cap : Nat) (w : World) (hk : k = l.length) (hl : Lies w a l) (hm : k ≤ 140737488355328) :
    Calls Tryd.prog 60 #[.slice a k cap] w fun e w' => e = .returned (.bool (arePath l)) ∧ Below w.heap.size w w' := by
  by_cases hk8 : 1 ≤ k ∧ k ≤ 8
  · obtain ⟨hk1, hk8⟩ := hk8
    obtain ⟨b, off, rfl, hc⟩ := hl.at (by omega)
    obtain ⟨r, hr⟩ : ∃ r, r = l.all isPart := ⟨_, rfl⟩
    have HR : Hid (r = l.all isPart) := hr
    have e : arePath l = r := by rw [hr, arePath, decide_eq_true (by omega), Bool.true_and]
    have HK : Hid (k = l.length) := hk
    have HC : Hid (∀ j, j < l.length → w.cell? ⟨b, off + j, none⟩ = some (.string (l.getD j ByteArray.empty))) := hc
    rw [e]
    clear e hr hk hc hl
    go_enter Tryd.func60, Tryd.ntmps60
    go_wp2
    go_loopw [2, 15] (fun t2 t3 wr => t2 = .bool false ∧ ∃ j : Nat, t3 = .int .i64 j ∧ j ≤ k ∧ Below w.heap.size w wr ∧ Hid (r = (l.drop j).all isPart)) (fun _ t3 _ => k - (intOf t3).toNat)
    case atStart => exact ⟨rfl, 0, rfl, by omega, Below.refl _ _, by show r = _; rw [List.drop_zero]; exact HR.out⟩
    case round =>
      obtain ⟨rfl, j, rfl, hj, hbw, HJ⟩ := hrel
      by_cases hjk : j < k
      · have hjl : j < l.length := by rw [← HK.out]; exact hjk
        have hcell := cell_later hbw (HC.out j hjl)
        have hall := all_drop hjl
        obtain ⟨x, hx⟩ : ∃ x, x = l.getD j ByteArray.empty := ⟨_, rfl⟩
        rw [← hx] at hcell hall
        have HX : Hid ((l.drop j).all isPart = (isPart x && (l.drop (j + 1)).all isPart)) := hall
        clear hx hall hjl
        cases hp : isPart x with
        | true =>
          go_wp2_with fail
          refine (isPart_any x wr).mono ?_
          rintro e w1 ⟨rfl, hb1⟩
          rw [hp]
          go_wp2
          go_roundw
          case rel => exact ⟨rfl, j + 1, by go_num, by omega, hbw.trans (hb1.mono hbw.size), by show r = _; rw [HJ.out, HX.out, hp, Bool.true_and]⟩
          case measure => simp [intOf]; omega
        | false =>
          have hr : r = false := by rw [HJ.out, HX.out, hp, Bool.false_and]
          go_wp2_with fail
          refine (isPart_any x wr).mono ?_
          rintro e w1 ⟨rfl, hb1⟩
          rw [hp]
          go_wp2
          go_ret
          exact ⟨by first | rfl | (rw [hr]; rfl), hbw.trans (hb1.mono hbw.size)⟩
      · have hr : r = true := by rw [HJ.out, List.drop_of_length_le (by rw [← HK.out]; omega)]; rfl
        go_wp2
        go_ret
        exact ⟨by first | rfl | (rw [hr]; rfl), hbw⟩
  · have e : arePath l = false := by rw [arePath, decide_eq_false (by omega), Bool.false_and]
    rw [e]
    refine (arePath_far a k cap w hk8 hm).mono ?_
    rintro e w1 ⟨rfl, rfl⟩
    exact ⟨rfl, Below.refl _ _⟩

theorem drop_step {l m : List ByteArray} {j : Nat} (h : j < l.length) (h2 : j < m.length) : decide (l.drop j = m.drop j) = (decide (l.getD j ByteArray.empty = m.getD j ByteArray.empty) && decide (l.drop (j + 1) = m.drop (j + 1))) := by
  have e1 : l.getD j ByteArray.empty = l[j] := by simp [List.getD_eq_getElem?_getD, List.getElem?_eq_getElem h]
  have e2 : m.getD j ByteArray.empty = m[j] := by simp [List.getD_eq_getElem?_getD, List.getElem?_eq_getElem h2]
  rw [e1, e2, List.drop_eq_getElem_cons h, List.drop_eq_getElem_cons h2, ← Bool.decide_and]
  exact decide_eq_decide.2 (by rw [List.cons.injEq])
end Go.Proofs.YtcjkficpiedpfabDoor.Route
