/-
  The contracts of mayBeOp and mayBe.
-/
import Derived.Test.YtanlanolblbckaaOrKeys
namespace Go.Proofs.Ytanlanolblbckaa.Order
open Go.RowKit Route

/-- The cells of a block in a later world. -/
theorem bcells {W w1 : World} {b : Nat} {cs : Array Value} {T : TypeId} (h : W.heap[b]? = some (.cells cs T (0, 0))) (hb : Below W.heap.size W w1) : w1.heap[b]? = some (.cells cs T (0, 0)) :=
  (hb.block b (Array.getElem?_eq_some_iff.1 h).1).trans h
theorem five {w : World} {b : Nat} {x0 x1 x2 x3 x4 : Value} {T : TypeId} (h : w.heap[b]? = some (.cells #[x0, x1, x2, x3, x4] T (0, 0))) :
    w.cell? ⟨b, 0, none⟩ = some x0 ∧ w.cell? ⟨b, 1, none⟩ = some x1 ∧ w.cell? ⟨b, 2, none⟩ = some x2 ∧ w.cell? ⟨b, 3, none⟩ = some x3 ∧ w.cell? ⟨b, 4, none⟩ = some x4 := by
  simp [World.cell?, h]
theorem four {w : World} {b : Nat} {x0 x1 x2 x3 : Value} {T : TypeId} (h : w.heap[b]? = some (.cells #[x0, x1, x2, x3] T (0, 0))) :
    w.cell? ⟨b, 0, none⟩ = some x0 ∧ w.cell? ⟨b, 1, none⟩ = some x1 ∧ w.cell? ⟨b, 2, none⟩ = some x2 ∧ w.cell? ⟨b, 3, none⟩ = some x3 := by
  simp [World.cell?, h]

/-- The operation's box and the fields' box in a world. -/
def Bx (w W : World) (b : Nat) (cs fs : Array Value) : Prop := W.heap[w.heap.size]? = some (.cells cs 24 (0, 0)) ∧ W.heap[b]? = some (.cells fs 69 (0, 0)) ∧ Below w.heap.size w W
theorem Bx.below {w W W' : World} {b : Nat} {cs fs : Array Value} (h : Bx w W b cs fs) (hb : Below W.heap.size W W') : Bx w W' b cs fs :=
  ⟨bcells h.1 hb, bcells h.2.1 hb, h.2.2.trans (hb.mono h.2.2.size)⟩
theorem Bx.made {w w1 : World} {cs fs : Array Value} (hb : Below (w.alloc (.cells cs 24)).heap.size (w.alloc (.cells cs 24)) w1) : Bx w (w1.alloc (.cells fs 69)) w1.heap.size cs fs := by
  have h0 : (w.alloc (.cells cs 24)).heap[w.heap.size]? = some (.cells cs 24 (0, 0)) := heap_alloc_new w _
  have h1 := bcells h0 hb
  have hl : w.heap.size < w1.heap.size := (Array.getElem?_eq_some_iff.1 h1).1
  refine ⟨(Below.heap_alloc _ _ _ hl).trans h1, heap_alloc_new w1 _, ?_⟩
  have hb0 : Below w.heap.size w w1 := ((Below.refl w.heap.size w).alloc (Nat.le_refl _) _).trans (hb.mono (by simp))
  exact hb0.alloc hb0.size _
theorem Bx.op {w W : World} {b : Nat} {x0 x1 x2 x3 x4 : Value} {fs : Array Value} (h : Bx w W b #[x0, x1, x2, x3, x4] fs) :
    W.cell? ⟨w.heap.size, 0, none⟩ = some x0 ∧ W.cell? ⟨w.heap.size, 1, none⟩ = some x1 ∧ W.cell? ⟨w.heap.size, 2, none⟩ = some x2 ∧ W.cell? ⟨w.heap.size, 3, none⟩ = some x3 ∧ W.cell? ⟨w.heap.size, 4, none⟩ = some x4 := five h.1
theorem Bx.fs {w W : World} {b : Nat} {cs : Array Value} {x0 x1 x2 x3 : Value} (h : Bx w W b cs #[x0, x1, x2, x3]) :
    W.cell? ⟨b, 0, none⟩ = some x0 ∧ W.cell? ⟨b, 1, none⟩ = some x1 ∧ W.cell? ⟨b, 2, none⟩ = some x2 ∧ W.cell? ⟨b, 3, none⟩ = some x3 := four h.2.1

theorem text_ne {s : ByteArray} (h : s.size ≠ 0) : s.toList.isEmpty = false := by
  rw [ByteArray.toList_eq, List.isEmpty_eq_false_iff]
  intro e
  have := congrArg List.length e
  simp at this
  exact h (by rw [this]; rfl)

set_option maxHeartbeats 4000000 in
set_option maxRecDepth 100000 in
theorem op_none (k n : Int) (nm pt : ByteArray) (v : Value) (w : World) (ha : asks k = (false, false, false, false, false)) :
    Calls Try.prog 28 #[.agg #[.int .i64 k, .string nm, .string pt, v, .int .i64 n]] w fun e w' => e = .returned (.bool false) ∧ Below w.heap.size w w' := by
  have HA : Hid (∀ w, Calls _ _ _ _ _) := fun w => asked_core k false false false false false w ha
  clear ha
  go_enter Try.func28, Try.ntmps28
  go_wp2_with fail
  refine (HA.out _).mono ?_
  rintro e w1 ⟨rfl, hb1⟩
  have BX : Hid (Below w.heap.size w _) := (Bx.made (fs := #[.bool false, .bool false, .bool false, .bool false]) hb1).2.2
  go_wp2
  go_ret
  exact ⟨rfl, BX.out⟩

theorem noText_eq {s : ByteArray} (h : noText s = true) : s = ByteArray.empty := by
  have h0 : s.size = 0 := by simpa [noText] using h
  apply ByteArray.ext
  exact Array.eq_empty_of_size_eq_zero h0

set_option maxHeartbeats 4000000 in
set_option maxRecDepth 100000 in
theorem op_1000 (k n : Int) (nm pt : ByteArray) (a : Option Addr) (kn cap : Nat) (ks : List ByteArray) (w : World) (ha : asks k = (true, false, false, false, true)) (hnm : nm.size ≤ 100000) (hpt : pt.size ≤ 100000) (hkn : kn = ks.length) (hl : Route.Lies w a ks) (hkm : kn ≤ 140737488355328) (r : Bool) (hr : r = (isPart nm && noText pt && noKeys ks && isZero n)) :
    Calls Try.prog 28 #[.agg #[.int .i64 k, .string nm, .string pt, .slice a kn cap, .int .i64 n]] w fun e w' => e = .returned (.bool r) ∧ Below w.heap.size w w' := by
  have HA : Hid (∀ w, Calls _ _ _ _ _) := fun w => asked_core k true false false false true w ha
  have HN : Hid (∀ w, Calls _ _ _ _ _) := fun w => isName_any nm w hnm
  have HR : Hid (_ = _) := hr
  have HKN : Hid (kn = ks.length) := hkn
  have HL : Hid (Route.Lies w a ks) := hl
  have s1 := neNil
  have s2 := neFormNil
  clear ha hr hkn hl
  go_enter Try.func28, Try.ntmps28
  go_wp2_with fail
  refine (HA.out _).mono ?_
  rintro e w1 ⟨rfl, hb1⟩
  have BX : Hid (Bx _ _ _ _ _) := Bx.made (fs := #[.bool true, .bool false, .bool false, .bool false]) hb1
  have hz : w.heap.size < w1.heap.size := by have := hb1.size; simp at this; omega
  obtain ⟨o0, o1, o2, o3, o4⟩ := five (bcells (heap_alloc_new w _) hb1)
  obtain ⟨f0, f1, f2, f3⟩ := BX.out.fs
  go_wp2_with fail
  refine (HN.out _).mono ?_
  rintro e w2 ⟨rfl, hb2⟩
  have BX2 := BX.out.below hb2
  clear BX o0 o1 o2 o3 o4 f0 f1 f2 f3 hz hb1
  have BX : Hid (Bx _ _ _ _ _) := BX2
  clear BX2 hb2
  obtain ⟨o0, o1, o2, o3, o4⟩ := BX.out.op
  obtain ⟨f0, f1, f2, f3⟩ := BX.out.fs
  cases q1 : isPart nm with
  | false =>
    go_wp2
    go_ret
    exact ⟨by first | rfl | (rw [HR.out, q1]; rfl), BX.out.2.2⟩
  | true =>
    cases q2 : noText pt with
    | false =>
      have t2 := text_ne (s := pt) (by simpa [noText] using q2)
      go_wp2
      go_ret
      exact ⟨by first | rfl | (rw [HR.out, q1, q2]; rfl), BX.out.2.2⟩
    | true =>
      have t2 : pt = ByteArray.empty := noText_eq q2
      subst t2
      cases q3 : noKeys ks with
      | false =>
        have t3 : 0 < kn := by have e1 := HKN.out; have e2 : ¬ ks.length = 0 := by simpa [noKeys] using q3
                               omega
        go_wp2
        go_ret
        exact ⟨by first | rfl | (rw [HR.out, q1, q2, q3]; rfl), BX.out.2.2⟩
      | true =>
        have t3 : kn = 0 := by rw [HKN.out]; simpa [noKeys] using q3
        subst t3
        cases q4 : isZero n with
        | false =>
          have t4 : (n == 0) = false := by simpa [isZero] using q4
          go_wp2
          go_ret
          exact ⟨by first | rfl | (rw [HR.out, q1, q2, q3, q4]; rfl), BX.out.2.2⟩
        | true =>
          have t4 : n = 0 := by simpa [isZero] using q4
          subst t4
          go_wp2
          go_ret
          exact ⟨by first | rfl | (rw [HR.out, q1, q2, q3, q4]; rfl), BX.out.2.2⟩

set_option maxHeartbeats 4000000 in
set_option maxRecDepth 100000 in
theorem op_1110 (k n : Int) (nm pt : ByteArray) (a : Option Addr) (kn cap : Nat) (ks : List ByteArray) (w : World) (ha : asks k = (true, true, true, false, true)) (hnm : nm.size ≤ 100000) (hpt : pt.size ≤ 100000) (hkn : kn = ks.length) (hl : Route.Lies w a ks) (hkm : kn ≤ 140737488355328) (r : Bool) (hr : r = (isPart nm && isPath pt && keysOk ks && isZero n)) :
    Calls Try.prog 28 #[.agg #[.int .i64 k, .string nm, .string pt, .slice a kn cap, .int .i64 n]] w fun e w' => e = .returned (.bool r) ∧ Below w.heap.size w w' := by
  have HA : Hid (∀ w, Calls _ _ _ _ _) := fun w => asked_core k true true true false true w ha
  have HN : Hid (∀ w, Calls _ _ _ _ _) := fun w => isName_any nm w hnm
  have HR : Hid (_ = _) := hr
  have HKN : Hid (kn = ks.length) := hkn
  have HL : Hid (Route.Lies w a ks) := hl
  have s1 := neNil
  have s2 := neFormNil
  clear ha hr hkn hl
  go_enter Try.func28, Try.ntmps28
  go_wp2_with fail
  refine (HA.out _).mono ?_
  rintro e w1 ⟨rfl, hb1⟩
  have BX : Hid (Bx _ _ _ _ _) := Bx.made (fs := #[.bool true, .bool true, .bool true, .bool false]) hb1
  have hz : w.heap.size < w1.heap.size := by have := hb1.size; simp at this; omega
  obtain ⟨o0, o1, o2, o3, o4⟩ := five (bcells (heap_alloc_new w _) hb1)
  obtain ⟨f0, f1, f2, f3⟩ := BX.out.fs
  go_wp2_with fail
  refine (HN.out _).mono ?_
  rintro e w2 ⟨rfl, hb2⟩
  have BX2 := BX.out.below hb2
  clear BX o0 o1 o2 o3 o4 f0 f1 f2 f3 hz hb1
  have BX : Hid (Bx _ _ _ _ _) := BX2
  clear BX2 hb2
  obtain ⟨o0, o1, o2, o3, o4⟩ := BX.out.op
  obtain ⟨f0, f1, f2, f3⟩ := BX.out.fs
  cases q1 : isPart nm with
  | false =>
    go_wp2
    go_ret
    exact ⟨by first | rfl | (rw [HR.out, q1]; rfl), BX.out.2.2⟩
  | true =>
    cases q2 : isPath pt with
    | false =>
      go_wp2_with fail
      refine (check_no pt _ hpt q2).mono ?_
      rintro e w3 ⟨rfl, hb3⟩
      have BX3 := BX.out.below hb3
      clear BX o0 o1 o2 o3 o4 f0 f1 f2 f3
      have BX : Hid (Bx _ _ _ _ _) := BX3
      clear BX3 hb3
      obtain ⟨o0, o1, o2, o3, o4⟩ := BX.out.op
      obtain ⟨f0, f1, f2, f3⟩ := BX.out.fs
      go_wp2
      go_ret
      exact ⟨by first | rfl | (rw [HR.out, q1, q2]; rfl), BX.out.2.2⟩
    | true =>
      go_wp2_with fail
      refine (check_ok pt _ hpt q2).mono ?_
      rintro e w3 ⟨rfl, hb3⟩
      have BX3 := BX.out.below hb3
      clear BX o0 o1 o2 o3 o4 f0 f1 f2 f3
      have BX : Hid (Bx _ _ _ _ _) := BX3
      clear BX3 hb3
      obtain ⟨o0, o1, o2, o3, o4⟩ := BX.out.op
      obtain ⟨f0, f1, f2, f3⟩ := BX.out.fs
      have HK : Hid (∀ w', Below w.heap.size w w' → Calls Try.prog 39 #[.slice a kn cap] w' fun e w2 => e = .returned (.bool (keysOk ks)) ∧ w2 = w') := fun w' hb => areKeys_any a ks kn cap w' HKN.out (HL.out.below hb (Nat.le_refl _)) hkm
      go_wp2_with fail
      refine (HK.out _ BX.out.2.2).mono ?_
      rintro e w4 ⟨rfl, rfl⟩
      clear HK
      cases q3 : keysOk ks with
      | false =>
        go_wp2
        go_ret
        exact ⟨by first | rfl | (rw [HR.out, q1, q2, q3]; rfl), BX.out.2.2⟩
      | true =>
        cases q4 : isZero n with
        | false =>
          have t4 : (n == 0) = false := by simpa [isZero] using q4
          go_wp2
          go_ret
          exact ⟨by first | rfl | (rw [HR.out, q1, q2, q3, q4]; rfl), BX.out.2.2⟩
        | true =>
          have t4 : n = 0 := by simpa [isZero] using q4
          subst t4
          go_wp2
          go_ret
          exact ⟨by first | rfl | (rw [HR.out, q1, q2, q3, q4]; rfl), BX.out.2.2⟩

set_option maxHeartbeats 4000000 in
set_option maxRecDepth 100000 in
theorem op_1100 (k n : Int) (nm pt : ByteArray) (a : Option Addr) (kn cap : Nat) (ks : List ByteArray) (w : World) (ha : asks k = (true, true, false, false, true)) (hnm : nm.size ≤ 100000) (hpt : pt.size ≤ 100000) (hkn : kn = ks.length) (hl : Route.Lies w a ks) (hkm : kn ≤ 140737488355328) (r : Bool) (hr : r = (isPart nm && isPath pt && noKeys ks && isZero n)) :
    Calls Try.prog 28 #[.agg #[.int .i64 k, .string nm, .string pt, .slice a kn cap, .int .i64 n]] w fun e w' => e = .returned (.bool r) ∧ Below w.heap.size w w' := by
  have HA : Hid (∀ w, Calls _ _ _ _ _) := fun w => asked_core k true true false false true w ha
  have HN : Hid (∀ w, Calls _ _ _ _ _) := fun w => isName_any nm w hnm
  have HR : Hid (_ = _) := hr
  have HKN : Hid (kn = ks.length) := hkn
  have HL : Hid (Route.Lies w a ks) := hl
  have s1 := neNil
  have s2 := neFormNil
  clear ha hr hkn hl
  go_enter Try.func28, Try.ntmps28
  go_wp2_with fail
  refine (HA.out _).mono ?_
  rintro e w1 ⟨rfl, hb1⟩
  have BX : Hid (Bx _ _ _ _ _) := Bx.made (fs := #[.bool true, .bool true, .bool false, .bool false]) hb1
  have hz : w.heap.size < w1.heap.size := by have := hb1.size; simp at this; omega
  obtain ⟨o0, o1, o2, o3, o4⟩ := five (bcells (heap_alloc_new w _) hb1)
  obtain ⟨f0, f1, f2, f3⟩ := BX.out.fs
  go_wp2_with fail
  refine (HN.out _).mono ?_
  rintro e w2 ⟨rfl, hb2⟩
  have BX2 := BX.out.below hb2
  clear BX o0 o1 o2 o3 o4 f0 f1 f2 f3 hz hb1
  have BX : Hid (Bx _ _ _ _ _) := BX2
  clear BX2 hb2
  obtain ⟨o0, o1, o2, o3, o4⟩ := BX.out.op
  obtain ⟨f0, f1, f2, f3⟩ := BX.out.fs
  cases q1 : isPart nm with
  | false =>
    go_wp2
    go_ret
    exact ⟨by first | rfl | (rw [HR.out, q1]; rfl), BX.out.2.2⟩
  | true =>
    cases q2 : isPath pt with
    | false =>
      go_wp2_with fail
      refine (check_no pt _ hpt q2).mono ?_
      rintro e w3 ⟨rfl, hb3⟩
      have BX3 := BX.out.below hb3
      clear BX o0 o1 o2 o3 o4 f0 f1 f2 f3
      have BX : Hid (Bx _ _ _ _ _) := BX3
      clear BX3 hb3
      obtain ⟨o0, o1, o2, o3, o4⟩ := BX.out.op
      obtain ⟨f0, f1, f2, f3⟩ := BX.out.fs
      go_wp2
      go_ret
      exact ⟨by first | rfl | (rw [HR.out, q1, q2]; rfl), BX.out.2.2⟩
    | true =>
      go_wp2_with fail
      refine (check_ok pt _ hpt q2).mono ?_
      rintro e w3 ⟨rfl, hb3⟩
      have BX3 := BX.out.below hb3
      clear BX o0 o1 o2 o3 o4 f0 f1 f2 f3
      have BX : Hid (Bx _ _ _ _ _) := BX3
      clear BX3 hb3
      obtain ⟨o0, o1, o2, o3, o4⟩ := BX.out.op
      obtain ⟨f0, f1, f2, f3⟩ := BX.out.fs
      cases q3 : noKeys ks with
      | false =>
        have t3 : 0 < kn := by have e1 := HKN.out; have e2 : ¬ ks.length = 0 := by simpa [noKeys] using q3
                               omega
        go_wp2
        go_ret
        exact ⟨by first | rfl | (rw [HR.out, q1, q2, q3]; rfl), BX.out.2.2⟩
      | true =>
        have t3 : kn = 0 := by rw [HKN.out]; simpa [noKeys] using q3
        subst t3
        cases q4 : isZero n with
        | false =>
          have t4 : (n == 0) = false := by simpa [isZero] using q4
          go_wp2
          go_ret
          exact ⟨by first | rfl | (rw [HR.out, q1, q2, q3, q4]; rfl), BX.out.2.2⟩
        | true =>
          have t4 : n = 0 := by simpa [isZero] using q4
          subst t4
          go_wp2
          go_ret
          exact ⟨by first | rfl | (rw [HR.out, q1, q2, q3, q4]; rfl), BX.out.2.2⟩

set_option maxHeartbeats 4000000 in
set_option maxRecDepth 100000 in
theorem op_0001 (k n : Int) (nm pt : ByteArray) (a : Option Addr) (kn cap : Nat) (ks : List ByteArray) (w : World) (ha : asks k = (false, false, false, true, true)) (hnm : nm.size ≤ 100000) (hpt : pt.size ≤ 100000) (hkn : kn = ks.length) (hl : Route.Lies w a ks) (hkm : kn ≤ 140737488355328) (r : Bool) (hr : r = (noText nm && noText pt && noKeys ks && within n 0 100)) :
    Calls Try.prog 28 #[.agg #[.int .i64 k, .string nm, .string pt, .slice a kn cap, .int .i64 n]] w fun e w' => e = .returned (.bool r) ∧ Below w.heap.size w w' := by
  have HA : Hid (∀ w, Calls _ _ _ _ _) := fun w => asked_core k false false false true true w ha
  have HN : Hid (∀ w, Calls _ _ _ _ _) := fun w => isName_any nm w hnm
  have HR : Hid (_ = _) := hr
  have HKN : Hid (kn = ks.length) := hkn
  have HL : Hid (Route.Lies w a ks) := hl
  have s1 := neNil
  have s2 := neFormNil
  clear ha hr hkn hl
  go_enter Try.func28, Try.ntmps28
  go_wp2_with fail
  refine (HA.out _).mono ?_
  rintro e w1 ⟨rfl, hb1⟩
  have BX : Hid (Bx _ _ _ _ _) := Bx.made (fs := #[.bool false, .bool false, .bool false, .bool true]) hb1
  have hz : w.heap.size < w1.heap.size := by have := hb1.size; simp at this; omega
  obtain ⟨o0, o1, o2, o3, o4⟩ := five (bcells (heap_alloc_new w _) hb1)
  obtain ⟨f0, f1, f2, f3⟩ := BX.out.fs
  cases q1 : noText nm with
  | false =>
    have t1 := text_ne (s := nm) (by simpa [noText] using q1)
    go_wp2
    go_ret
    exact ⟨by first | rfl | (rw [HR.out, q1]; rfl), BX.out.2.2⟩
  | true =>
    have t1 : nm = ByteArray.empty := noText_eq q1
    subst t1
    cases q2 : noText pt with
    | false =>
      have t2 := text_ne (s := pt) (by simpa [noText] using q2)
      go_wp2
      go_ret
      exact ⟨by first | rfl | (rw [HR.out, q1, q2]; rfl), BX.out.2.2⟩
    | true =>
      have t2 : pt = ByteArray.empty := noText_eq q2
      subst t2
      cases q3 : noKeys ks with
      | false =>
        have t3 : 0 < kn := by have e1 := HKN.out; have e2 : ¬ ks.length = 0 := by simpa [noKeys] using q3
                               omega
        go_wp2
        go_ret
        exact ⟨by first | rfl | (rw [HR.out, q1, q3]; rfl), BX.out.2.2⟩
      | true =>
        have t3 : kn = 0 := by rw [HKN.out]; simpa [noKeys] using q3
        subst t3
        go_wp2_with fail
        refine (within_any n 0 100 _).mono ?_
        rintro e w5 ⟨rfl, rfl⟩
        cases q4 : within n 0 100
        all_goals
          go_wp2
          go_ret
          exact ⟨by first | rfl | (rw [HR.out, q1, q3, q4]; rfl), BX.out.2.2⟩

set_option maxHeartbeats 4000000 in
set_option maxRecDepth 100000 in
theorem op_0000 (k n : Int) (nm pt : ByteArray) (a : Option Addr) (kn cap : Nat) (ks : List ByteArray) (w : World) (ha : asks k = (false, false, false, false, true)) (hnm : nm.size ≤ 100000) (hpt : pt.size ≤ 100000) (hkn : kn = ks.length) (hl : Route.Lies w a ks) (hkm : kn ≤ 140737488355328) (r : Bool) (hr : r = (noText nm && noText pt && noKeys ks && isZero n)) :
    Calls Try.prog 28 #[.agg #[.int .i64 k, .string nm, .string pt, .slice a kn cap, .int .i64 n]] w fun e w' => e = .returned (.bool r) ∧ Below w.heap.size w w' := by
  have HA : Hid (∀ w, Calls _ _ _ _ _) := fun w => asked_core k false false false false true w ha
  have HN : Hid (∀ w, Calls _ _ _ _ _) := fun w => isName_any nm w hnm
  have HR : Hid (_ = _) := hr
  have HKN : Hid (kn = ks.length) := hkn
  have HL : Hid (Route.Lies w a ks) := hl
  have s1 := neNil
  have s2 := neFormNil
  clear ha hr hkn hl
  go_enter Try.func28, Try.ntmps28
  go_wp2_with fail
  refine (HA.out _).mono ?_
  rintro e w1 ⟨rfl, hb1⟩
  have BX : Hid (Bx _ _ _ _ _) := Bx.made (fs := #[.bool false, .bool false, .bool false, .bool false]) hb1
  have hz : w.heap.size < w1.heap.size := by have := hb1.size; simp at this; omega
  obtain ⟨o0, o1, o2, o3, o4⟩ := five (bcells (heap_alloc_new w _) hb1)
  obtain ⟨f0, f1, f2, f3⟩ := BX.out.fs
  cases q1 : noText nm with
  | false =>
    have t1 := text_ne (s := nm) (by simpa [noText] using q1)
    go_wp2
    go_ret
    exact ⟨by first | rfl | (rw [HR.out, q1]; rfl), BX.out.2.2⟩
  | true =>
    have t1 : nm = ByteArray.empty := noText_eq q1
    subst t1
    cases q2 : noText pt with
    | false =>
      have t2 := text_ne (s := pt) (by simpa [noText] using q2)
      go_wp2
      go_ret
      exact ⟨by first | rfl | (rw [HR.out, q1, q2]; rfl), BX.out.2.2⟩
    | true =>
      have t2 : pt = ByteArray.empty := noText_eq q2
      subst t2
      cases q3 : noKeys ks with
      | false =>
        have t3 : 0 < kn := by have e1 := HKN.out; have e2 : ¬ ks.length = 0 := by simpa [noKeys] using q3
                               omega
        go_wp2
        go_ret
        exact ⟨by first | rfl | (rw [HR.out, q1, q3]; rfl), BX.out.2.2⟩
      | true =>
        have t3 : kn = 0 := by rw [HKN.out]; simpa [noKeys] using q3
        subst t3
        cases q4 : isZero n with
        | false =>
          have t4 : (n == 0) = false := by simpa [isZero] using q4
          go_wp2
          go_ret
          exact ⟨by first | rfl | (rw [HR.out, q1, q3, q4]; rfl), BX.out.2.2⟩
        | true =>
          have t4 : n = 0 := by simpa [isZero] using q4
          subst t4
          go_wp2
          go_ret
          exact ⟨by first | rfl | (rw [HR.out, q1, q3, q4]; rfl), BX.out.2.2⟩

end Go.Proofs.Ytanlanolblbckaa.Order
