/-
  Texts one behind the other: the program's 'Join' and the document's; and whether two lists of texts are the same.
-/
import Derived.Test.YtcjkficpiedpfabDoorChBuild
namespace Go.Proofs.YtcjkficpiedpfabDoor.Chunk
open Go.RowKit Route

theorem lies_at {w : World} {a : Option Addr} {l : List ByteArray} (h : Lies w a l) (h0 : 0 < l.length) :
    ∃ b off, a = some ⟨b, off, none⟩ ∧ ∀ j, j < l.length → w.cell? ⟨b, off + j, none⟩ = some (.string (l.getD j ByteArray.empty)) := by
  rcases h with rfl | ⟨x, rfl, hx⟩
  · simp at h0
  · obtain ⟨b, off, spot⟩ := x
    have hspot : spot = none := by simpa [Addr.add] using World.cell?_spot (hx 0 h0)
    subst hspot
    exact ⟨b, off, rfl, fun j hj => by rw [← Go.WideShapes.add_plain]; exact hx j hj⟩

theorem drop_two {l m : List ByteArray} {j : Nat} (h : j < l.length) (h2 : j < m.length) : decide (l.drop j = m.drop j) = (decide (l.getD j ByteArray.empty = m.getD j ByteArray.empty) && decide (l.drop (j + 1) = m.drop (j + 1))) := by
  have e1 : l.getD j ByteArray.empty = l[j] := by simp [List.getD_eq_getElem?_getD, List.getElem?_eq_getElem h]
  have e2 : m.getD j ByteArray.empty = m[j] := by simp [List.getD_eq_getElem?_getD, List.getElem?_eq_getElem h2]
  rw [e1, e2, List.drop_eq_getElem_cons h, List.drop_eq_getElem_cons h2, ← Bool.decide_and]
  exact decide_eq_decide.2 (by rw [List.cons.injEq])

/-- The bytes of the first i texts. -/
def upto (l : List ByteArray) (i : Nat) : List UInt8 := ((l.take i).map toL).flatten

theorem upto_zero (l : List ByteArray) : upto l 0 = [] := rfl
theorem upto_step (l : List ByteArray) (i : Nat) (h : i < l.length) : upto l (i + 1) = upto l i ++ toL (l.getD i ByteArray.empty) := by
  have e : l.getD i ByteArray.empty = l[i] := by simp [List.getD_eq_getElem?_getD, List.getElem?_eq_getElem h]
  rw [upto, upto, List.take_succ_eq_append_getElem h, List.map_append, List.flatten_append, e]
  simp
theorem upto_all (l : List ByteArray) (i : Nat) (h : l.length ≤ i) : ofL (upto l i) = cat l := by
  rw [upto, List.take_of_length_le h]; rfl
theorem upto_len (l : List ByteArray) (i : Nat) : (upto l i).length ≤ (cat l).size := by
  rw [cat, size_ofL, upto]
  have e : (l.map toL).flatten = ((l.take i).map toL).flatten ++ ((l.drop i).map toL).flatten := by
    rw [← List.flatten_append, ← List.map_append, List.take_append_drop]
  rw [e, List.length_append]
  omega

set_option maxHeartbeats 4000000 in
set_option maxRecDepth 100000 in
theorem join_any (a : Option Addr) (l : List ByteArray) (n cap : Nat) (w : World) (hn : n = l.length) (hl : Lies w a l) (hn2 : n ≤ 140737488355328) (hlen : (cat l).size ≤ 140737488355328) :
    Calls Tryd.prog 22 #[.slice a n cap] w fun e w' => e = .returned (.string (cat l)) ∧ Below w.heap.size w w' := by
  obtain ⟨J, hJ⟩ : ∃ J, J = cat l := ⟨_, rfl⟩
  have HJ : Hid (J = cat l) := hJ
  have HL : Hid ((cat l).size ≤ 140737488355328) := hlen
  have HN : Hid (n = l.length) := hn
  rw [← hJ]
  have hcells : Hid (∀ j, j < n → ∃ b off, a = some ⟨b, off, none⟩ ∧ w.cell? ⟨b, off + j, none⟩ = some (.string (l.getD j ByteArray.empty))) := by
    intro j hj
    obtain ⟨b, off, h1, h2⟩ := lies_at hl (by omega)
    exact ⟨b, off, h1, h2 j (by omega)⟩
  clear hJ hlen hn hl
  go_enter Tryd.func22, Tryd.ntmps22
  go_wp2
  go_loopw [8] (fun t8 wr => ∃ i : Nat, t8 = .int .i64 (i : Int) ∧ i ≤ n ∧ Lib.IsBuilder 77 5 w.heap.size w.heap.size (Lib.byteCells (upto l i)) wr ∧ Below w.heap.size w wr) (fun t8 _ => n - (intOf t8).toNat)
  case atStart => exact ⟨0, rfl, by omega, Lib.fresh_isBuilder 77 5 w, (Below.refl _ _).alloc (Nat.le_refl _) _⟩
  case round =>
    obtain ⟨i, rfl, hi, hib, hbw⟩ := hrel
    have hsz := hbw.size
    by_cases hin : i < n
    · obtain ⟨b, off, rfl, hc⟩ := hcells.out i hin
      have hcell := cell_later hbw hc
      have hstep : Hid (Lib.byteCells (upto l (i + 1)) = Lib.byteCells (upto l i) ++ Lib.strCells (l.getD i ByteArray.empty)) := by
        show _ = _
        rw [upto_step l i (by rw [← HN.out]; exact hin), Lib.byteCells_append, Lib.strCells_eq]; rfl
      have hfit : (Lib.byteCells (upto l i)).length + (l.getD i ByteArray.empty).size ≤ 140737488355328 := by
        have h1 := upto_len l (i + 1)
        rw [upto_step l i (by rw [← HN.out]; exact hin), List.length_append, length_toL] at h1
        rw [Lib.byteCells_length]
        have := HL.out
        omega
      generalize l.getD i ByteArray.empty = x at hc hcell hstep hfit
      have hwr := write_any w.heap.size w.heap.size (Lib.byteCells (upto l i)) x wr hib hfit hsz
      generalize Lib.byteCells (upto l i) = bs at hib hstep hfit hwr
      clear hfit hc
      go_wp2_with (go_at_call 33; refine hwr.mono ?_; rintro e w1 ⟨⟨v, rfl⟩, hb1, hbe⟩)
      go_roundw
      case rel => exact ⟨i + 1, by go_num, by omega, by rw [hstep.out]; exact hb1, hbw.trans hbe⟩
      case measure => simp [intOf]; omega
    · have hst := Tryd.Builder_String_any w.heap.size w.heap.size (upto l i) wr hib hsz
      have e : (⟨(upto l i).toArray⟩ : ByteArray) = J := by
        have := upto_all l i (by rw [← HN.out]; omega)
        rw [HJ.out, ← this]; rfl
      rw [e] at hst
      clear e hib
      go_wp2_with (go_at_call 34; refine hst.mono ?_; rintro e w1 ⟨rfl, hb1⟩)
      go_ret
      exact ⟨rfl, hbw.trans hb1⟩

set_option maxHeartbeats 4000000 in
set_option maxRecDepth 100000 in
theorem same_any (a : Option Addr) (l : List ByteArray) (k cap : Nat) (a' : Option Addr) (m : List ByteArray) (k' cap' : Nat) (w : World) (hk : k = l.length) (hl : Lies w a l) (hk' : k' = m.length) (hl' : Lies w a' m) (hm : k ≤ 140737488355328) (hm' : k' ≤ 140737488355328) :
    Calls Tryd.prog 18 #[.slice a k cap, .slice a' k' cap'] w fun e w' => e = .returned (.bool (decide (l = m))) ∧ Below w.heap.size w w' := by
  by_cases hkk : k = k'
  · subst hkk
    by_cases h0 : k = 0
    · have e1 : l = [] := List.eq_nil_of_length_eq_zero (by omega)
      have e2 : m = [] := List.eq_nil_of_length_eq_zero (by omega)
      subst e1; subst e2; subst h0
      clear hk hk' hl hl'
      go_enter Tryd.func18, Tryd.ntmps18
      go_wp2
      go_loop [5] (fun t5 => t5 = .int .i64 0) (fun _ => 0)
      case atStart => rfl
      case round =>
        subst hrel
        go_wp2
        go_ret
        exact ⟨rfl, Below.refl _ _⟩
    · obtain ⟨b, off, rfl, hc⟩ := lies_at hl (by omega)
      obtain ⟨b', off', rfl, hc'⟩ := lies_at hl' (by omega)
      obtain ⟨r, hr⟩ : ∃ r, r = decide (l = m) := ⟨_, rfl⟩
      have HR : Hid (r = decide (l = m)) := hr
      rw [← hr]
      have HK : Hid (k = l.length) := hk
      have HK' : Hid (k = m.length) := hk'
      have HC : Hid (∀ j, j < l.length → w.cell? ⟨b, off + j, none⟩ = some (.string (l.getD j ByteArray.empty))) := hc
      have HC' : Hid (∀ j, j < m.length → w.cell? ⟨b', off' + j, none⟩ = some (.string (m.getD j ByteArray.empty))) := hc'
      clear hr hk hk' hc hc' hl hl'
      go_enter Tryd.func18, Tryd.ntmps18
      go_wp2
      go_loopw [4, 5] (fun t4 t5 wr => t4 = .bool false ∧ ∃ j : Nat, t5 = .int .i64 j ∧ j ≤ k ∧ Below w.heap.size w wr ∧ Hid (r = decide (l.drop j = m.drop j))) (fun _ t5 _ => k - (intOf t5).toNat)
      case atStart => exact ⟨rfl, 0, rfl, by omega, Below.refl _ _, by show r = _; rw [List.drop_zero, List.drop_zero]; exact HR.out⟩
      case round =>
        obtain ⟨rfl, j, rfl, hj, hbw, HJ⟩ := hrel
        by_cases hjk : j < k
        · have hjl : j < l.length := by rw [← HK.out]; exact hjk
          have hjm : j < m.length := by rw [← HK'.out]; exact hjk
          have hcell := cell_later hbw (HC.out j hjl)
          have hcell' := cell_later hbw (HC'.out j hjm)
          have hall := drop_two hjl hjm
          obtain ⟨x, hx⟩ : ∃ x, x = l.getD j ByteArray.empty := ⟨_, rfl⟩
          obtain ⟨y, hy⟩ : ∃ y, y = m.getD j ByteArray.empty := ⟨_, rfl⟩
          rw [← hx] at hcell hall
          rw [← hy] at hcell' hall
          have HX : Hid (decide (l.drop j = m.drop j) = (decide (x = y) && decide (l.drop (j + 1) = m.drop (j + 1)))) := hall
          clear hx hy hall hjl hjm
          have hse := str_eq x y
          by_cases hxy : x = y
          · rw [decide_eq_true hxy] at hse
            go_wp2
            go_region
            go_wp2
            go_roundw
            case rel => exact ⟨rfl, j + 1, by go_num, by omega, hbw.drew, by show r = _; rw [HJ.out, HX.out, decide_eq_true hxy, Bool.true_and]⟩
            case measure => simp [intOf]; omega
          · rw [decide_eq_false hxy] at hse
            have hr : r = false := by rw [HJ.out, HX.out, decide_eq_false hxy, Bool.false_and]
            go_wp2
            go_region
            go_wp2
            go_ret
            exact ⟨by first | rfl | (rw [hr]; rfl), hbw.drew⟩
        · have hr : r = true := by rw [HJ.out, List.drop_of_length_le (by rw [← HK.out]; omega), List.drop_of_length_le (by rw [← HK'.out]; omega)]; rfl
          go_wp2
          go_ret
          exact ⟨by first | rfl | (rw [hr]; rfl), hbw⟩
  · have e : decide (l = m) = false := decide_eq_false (fun e => hkk (by rw [hk, hk', e]))
    rw [e]
    clear hk hk' hl hl' e
    go_enter Tryd.func18, Tryd.ntmps18
    go_wp2
    go_ret
    exact ⟨rfl, Below.refl _ _⟩
end Go.Proofs.YtcjkficpiedpfabDoor.Chunk
