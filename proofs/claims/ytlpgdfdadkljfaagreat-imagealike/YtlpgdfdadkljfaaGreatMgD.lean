/-
  Contracts that the walks stand on, several texts in one: OrOp, OrPut, OrShort.
-/
import Derived.Test.YtlpgdfdadkljfaaGreatMgC

/-
  The contracts of mayBeOp and mayBe.
-/
namespace Go.Proofs.YtlpgdfdadkljfaaGreat.Order
open Go.RowKit Route

/-- The cells of a block in a later world. -/
theorem bcells {W w1 : World} {b : Nat} {cs : Array Value} {T : TypeId} (h : W.heap[b]? = some (.cells cs T (0, 0))) (hb : Below W.heap.size W w1) : w1.heap[b]? = some (.cells cs T (0, 0)) :=
  (hb.block b (Array.getElem?_eq_some_iff.1 h).1).trans h
theorem five {w : World} {b : Nat} {x0 x1 x2 x3 x4 : Value} {T : TypeId} (h : w.heap[b]? = some (.cells #[x0, x1, x2, x3, x4] T (0, 0))) :
    w.cell? ⟨b, 0, none⟩ = some x0 ∧ w.cell? ⟨b, 1, none⟩ = some x1 ∧ w.cell? ⟨b, 2, none⟩ = some x2 ∧ w.cell? ⟨b, 3, none⟩ = some x3 ∧ w.cell? ⟨b, 4, none⟩ = some x4 := by
  simp [World.cell?, h]
theorem four {w : World} {b : Nat} {x0 x1 x2 x3 : Value} {T : TypeId} (h : w.heap[b]? = some (.cells #[x0, x1, x2, x3] T (0, 0))) :
    w.cell? ⟨b, 0, none⟩ = some x0 ∧ w.cell? ⟨b, 1, none⟩ = some x1 ∧ w.cell? ⟨b, 2, none⟩ = some x2 ∧ w.cell? ⟨b, 3, none⟩ = some x3 := by
  simp [World.cell?, h]

/-- The operation's box and the fields' box in a world. -/
def Bx (w W : World) (b : Nat) (cs fs : Array Value) : Prop := W.heap[w.heap.size]? = some (.cells cs 34 (0, 0)) ∧ W.heap[b]? = some (.cells fs 130 (0, 0)) ∧ Below w.heap.size w W
theorem Bx.below {w W W' : World} {b : Nat} {cs fs : Array Value} (h : Bx w W b cs fs) (hb : Below W.heap.size W W') : Bx w W' b cs fs :=
  ⟨bcells h.1 hb, bcells h.2.1 hb, h.2.2.trans (hb.mono h.2.2.size)⟩
theorem Bx.made {w w1 : World} {cs fs : Array Value} (hb : Below (w.alloc (.cells cs 34)).heap.size (w.alloc (.cells cs 34)) w1) : Bx w (w1.alloc (.cells fs 130)) w1.heap.size cs fs := by
  have h0 : (w.alloc (.cells cs 34)).heap[w.heap.size]? = some (.cells cs 34 (0, 0)) := heap_alloc_new w _
  have h1 := bcells h0 hb
  have hl : w.heap.size < w1.heap.size := (Array.getElem?_eq_some_iff.1 h1).1
  refine ⟨(Below.heap_alloc _ _ _ hl).trans h1, heap_alloc_new w1 _, ?_⟩
  have hb0 : Below w.heap.size w w1 := ((Below.refl w.heap.size w).alloc (Nat.le_refl _) _).trans (hb.mono (by simp))
  exact hb0.alloc hb0.size _
theorem Bx.op {w W : World} {b : Nat} {x0 x1 x2 x3 x4 : Value} {fs : Array Value} (h : Bx w W b #[x0, x1, x2, x3, x4] fs) :
    W.cell? ⟨w.heap.size, 0, none⟩ = some x0 ∧ W.cell? ⟨w.heap.size, 1, none⟩ = some x1 ∧ W.cell? ⟨w.heap.size, 2, none⟩ = some x2 ∧ W.cell? ⟨w.heap.size, 3, none⟩ = some x3 ∧ W.cell? ⟨w.heap.size, 4, none⟩ = some x4 := five h.1
theorem Bx.fs {w W : World} {b : Nat} {cs : Array Value} {x0 x1 x2 x3 : Value} (h : Bx w W b cs #[x0, x1, x2, x3]) :
    W.cell? ⟨b, 0, none⟩ = some x0 ∧ W.cell? ⟨b, 1, none⟩ = some x1 ∧ W.cell? ⟨b, 2, none⟩ = some x2 ∧ W.cell? ⟨b, 3, none⟩ = some x3 := four h.2.1

theorem text_ne {s : ByteArray} (h : s.size ≠ 0) : s.toList.isEmpty = false := by
  rw [ByteArray.toList_eq, List.isEmpty_eq_false_iff]
  intro e
  have := congrArg List.length e
  simp at this
  exact h (by rw [this]; rfl)

set_option maxHeartbeats 4000000 in
set_option maxRecDepth 100000 in
theorem op_none (k n : Int) (nm pt : ByteArray) (v : Value) (w : World) (ha : asks k = (false, false, false, false, false)) :
    Calls Tryz.prog 60 #[.agg #[.int .i64 k, .string nm, .string pt, v, .int .i64 n]] w fun e w' => e = .returned (.bool false) ∧ Below w.heap.size w w' := by
  have HA : Hid (∀ w, Calls _ _ _ _ _) := fun w => asked_core k false false false false false w ha
  clear ha
  go_enter Tryz.func60, Tryz.ntmps60
  go_wp2_with fail
  refine (HA.out _).mono ?_
  rintro e w1 ⟨rfl, hb1⟩
  have BX : Hid (Below w.heap.size w _) := (Bx.made (fs := #[.bool false, .bool false, .bool false, .bool false]) hb1).2.2
  go_wp2
  go_ret
  exact ⟨rfl, BX.out⟩

theorem noText_eq {s : ByteArray} (h : noText s = true) : s = ByteArray.empty := by
  have h0 : s.size = 0 := by simpa [noText] using h
  apply ByteArray.ext
  exact Array.eq_empty_of_size_eq_zero h0

set_option maxHeartbeats 4000000 in
set_option maxRecDepth 100000 in
theorem op_1000 (k n : Int) (nm pt : ByteArray) (a : Option Addr) (kn cap : Nat) (ks : List ByteArray) (w : World) (ha : asks k = (true, false, false, false, true)) (hnm : nm.size ≤ 100000) (hpt : pt.size ≤ 100000) (hkn : kn = ks.length) (hl : Route.Lies w a ks) (hkm : kn ≤ 140737488355328) (r : Bool) (hr : r = (isPart nm && noText pt && noKeys ks && isZero n)) :
    Calls Tryz.prog 60 #[.agg #[.int .i64 k, .string nm, .string pt, .slice a kn cap, .int .i64 n]] w fun e w' => e = .returned (.bool r) ∧ Below w.heap.size w w' := by
  have HA : Hid (∀ w, Calls _ _ _ _ _) := fun w => asked_core k true false false false true w ha
  have HN : Hid (∀ w, Calls _ _ _ _ _) := fun w => isName_any nm w hnm
  have HR : Hid (_ = _) := hr
  have HKN : Hid (kn = ks.length) := hkn
  have HL : Hid (Route.Lies w a ks) := hl
  have s1 := neNil
  have s2 := neFormNil
  clear ha hr hkn hl
  go_enter Tryz.func60, Tryz.ntmps60
  go_wp2_with fail
  refine (HA.out _).mono ?_
  rintro e w1 ⟨rfl, hb1⟩
  have BX : Hid (Bx _ _ _ _ _) := Bx.made (fs := #[.bool true, .bool false, .bool false, .bool false]) hb1
  have hz : w.heap.size < w1.heap.size := by have := hb1.size; simp at this; omega
  obtain ⟨o0, o1, o2, o3, o4⟩ := five (bcells (heap_alloc_new w _) hb1)
  obtain ⟨f0, f1, f2, f3⟩ := BX.out.fs
  go_wp2_with fail
  refine (HN.out _).mono ?_
  rintro e w2 ⟨rfl, hb2⟩
  have BX2 := BX.out.below hb2
  clear BX o0 o1 o2 o3 o4 f0 f1 f2 f3 hz hb1
  have BX : Hid (Bx _ _ _ _ _) := BX2
  clear BX2 hb2
  obtain ⟨o0, o1, o2, o3, o4⟩ := BX.out.op
  obtain ⟨f0, f1, f2, f3⟩ := BX.out.fs
  cases q1 : isPart nm with
  | false =>
    go_wp2
    go_ret
    exact ⟨by first | rfl | (rw [HR.out, q1]; rfl), BX.out.2.2⟩
  | true =>
    cases q2 : noText pt with
    | false =>
      have t2 := text_ne (s := pt) (by simpa [noText] using q2)
      go_wp2
      go_ret
      exact ⟨by first | rfl | (rw [HR.out, q1, q2]; rfl), BX.out.2.2⟩
    | true =>
      have t2 : pt = ByteArray.empty := noText_eq q2
      subst t2
      cases q3 : noKeys ks with
      | false =>
        have t3 : 0 < kn := by have e1 := HKN.out; have e2 : ¬ ks.length = 0 := by simpa [noKeys] using q3
                               omega
        go_wp2
        go_ret
        exact ⟨by first | rfl | (rw [HR.out, q1, q2, q3]; rfl), BX.out.2.2⟩
      | true =>
        have t3 : kn = 0 := by rw [HKN.out]; simpa [noKeys] using q3
        subst t3
        cases q4 : isZero n with
        | false =>
          have t4 : (n == 0) = false := by simpa [isZero] using q4
          go_wp2
          go_ret
          exact ⟨by first | rfl | (rw [HR.out, q1, q2, q3, q4]; rfl), BX.out.2.2⟩
        | true =>
          have t4 : n = 0 := by simpa [isZero] using q4
          subst t4
          go_wp2
          go_ret
          exact ⟨by first | rfl | (rw [HR.out, q1, q2, q3, q4]; rfl), BX.out.2.2⟩

set_option maxHeartbeats 4000000 in
set_option maxRecDepth 100000 in
theorem op_1110 (k n : Int) (nm pt : ByteArray) (a : Option Addr) (kn cap : Nat) (ks : List ByteArray) (w : World) (ha : asks k = (true, true, true, false, true)) (hnm : nm.size ≤ 100000) (hpt : pt.size ≤ 100000) (hkn : kn = ks.length) (hl : Route.Lies w a ks) (hkm : kn ≤ 140737488355328) (r : Bool) (hr : r = (isPart nm && isPath pt && keysOk ks && isZero n)) :
    Calls Tryz.prog 60 #[.agg #[.int .i64 k, .string nm, .string pt, .slice a kn cap, .int .i64 n]] w fun e w' => e = .returned (.bool r) ∧ Below w.heap.size w w' := by
  have HA : Hid (∀ w, Calls _ _ _ _ _) := fun w => asked_core k true true true false true w ha
  have HN : Hid (∀ w, Calls _ _ _ _ _) := fun w => isName_any nm w hnm
  have HR : Hid (_ = _) := hr
  have HKN : Hid (kn = ks.length) := hkn
  have HL : Hid (Route.Lies w a ks) := hl
  have s1 := neNil
  have s2 := neFormNil
  clear ha hr hkn hl
  go_enter Tryz.func60, Tryz.ntmps60
  go_wp2_with fail
  refine (HA.out _).mono ?_
  rintro e w1 ⟨rfl, hb1⟩
  have BX : Hid (Bx _ _ _ _ _) := Bx.made (fs := #[.bool true, .bool true, .bool true, .bool false]) hb1
  have hz : w.heap.size < w1.heap.size := by have := hb1.size; simp at this; omega
  obtain ⟨o0, o1, o2, o3, o4⟩ := five (bcells (heap_alloc_new w _) hb1)
  obtain ⟨f0, f1, f2, f3⟩ := BX.out.fs
  go_wp2_with fail
  refine (HN.out _).mono ?_
  rintro e w2 ⟨rfl, hb2⟩
  have BX2 := BX.out.below hb2
  clear BX o0 o1 o2 o3 o4 f0 f1 f2 f3 hz hb1
  have BX : Hid (Bx _ _ _ _ _) := BX2
  clear BX2 hb2
  obtain ⟨o0, o1, o2, o3, o4⟩ := BX.out.op
  obtain ⟨f0, f1, f2, f3⟩ := BX.out.fs
  cases q1 : isPart nm with
  | false =>
    go_wp2
    go_ret
    exact ⟨by first | rfl | (rw [HR.out, q1]; rfl), BX.out.2.2⟩
  | true =>
    cases q2 : isPath pt with
    | false =>
      go_wp2_with fail
      refine (check_no pt _ hpt q2).mono ?_
      rintro e w3 ⟨rfl, hb3⟩
      have BX3 := BX.out.below hb3
      clear BX o0 o1 o2 o3 o4 f0 f1 f2 f3
      have BX : Hid (Bx _ _ _ _ _) := BX3
      clear BX3 hb3
      obtain ⟨o0, o1, o2, o3, o4⟩ := BX.out.op
      obtain ⟨f0, f1, f2, f3⟩ := BX.out.fs
      go_wp2
      go_ret
      exact ⟨by first | rfl | (rw [HR.out, q1, q2]; rfl), BX.out.2.2⟩
    | true =>
      go_wp2_with fail
      refine (check_ok pt _ hpt q2).mono ?_
      rintro e w3 ⟨rfl, hb3⟩
      have BX3 := BX.out.below hb3
      clear BX o0 o1 o2 o3 o4 f0 f1 f2 f3
      have BX : Hid (Bx _ _ _ _ _) := BX3
      clear BX3 hb3
      obtain ⟨o0, o1, o2, o3, o4⟩ := BX.out.op
      obtain ⟨f0, f1, f2, f3⟩ := BX.out.fs
      have HK : Hid (∀ w', Below w.heap.size w w' → Calls Tryz.prog 85 #[.slice a kn cap] w' fun e w2 => e = .returned (.bool (keysOk ks)) ∧ w2 = w') := fun w' hb => areKeys_any a ks kn cap w' HKN.out (HL.out.below hb (Nat.le_refl _)) hkm
      go_wp2_with fail
      refine (HK.out _ BX.out.2.2).mono ?_
      rintro e w4 ⟨rfl, rfl⟩
      clear HK
      cases q3 : keysOk ks with
      | false =>
        go_wp2
        go_ret
        exact ⟨by first | rfl | (rw [HR.out, q1, q2, q3]; rfl), BX.out.2.2⟩
      | true =>
        cases q4 : isZero n with
        | false =>
          have t4 : (n == 0) = false := by simpa [isZero] using q4
          go_wp2
          go_ret
          exact ⟨by first | rfl | (rw [HR.out, q1, q2, q3, q4]; rfl), BX.out.2.2⟩
        | true =>
          have t4 : n = 0 := by simpa [isZero] using q4
          subst t4
          go_wp2
          go_ret
          exact ⟨by first | rfl | (rw [HR.out, q1, q2, q3, q4]; rfl), BX.out.2.2⟩

set_option maxHeartbeats 4000000 in
set_option maxRecDepth 100000 in
theorem op_1100 (k n : Int) (nm pt : ByteArray) (a : Option Addr) (kn cap : Nat) (ks : List ByteArray) (w : World) (ha : asks k = (true, true, false, false, true)) (hnm : nm.size ≤ 100000) (hpt : pt.size ≤ 100000) (hkn : kn = ks.length) (hl : Route.Lies w a ks) (hkm : kn ≤ 140737488355328) (r : Bool) (hr : r = (isPart nm && isPath pt && noKeys ks && isZero n)) :
    Calls Tryz.prog 60 #[.agg #[.int .i64 k, .string nm, .string pt, .slice a kn cap, .int .i64 n]] w fun e w' => e = .returned (.bool r) ∧ Below w.heap.size w w' := by
  have HA : Hid (∀ w, Calls _ _ _ _ _) := fun w => asked_core k true true false false true w ha
  have HN : Hid (∀ w, Calls _ _ _ _ _) := fun w => isName_any nm w hnm
  have HR : Hid (_ = _) := hr
  have HKN : Hid (kn = ks.length) := hkn
  have HL : Hid (Route.Lies w a ks) := hl
  have s1 := neNil
  have s2 := neFormNil
  clear ha hr hkn hl
  go_enter Tryz.func60, Tryz.ntmps60
  go_wp2_with fail
  refine (HA.out _).mono ?_
  rintro e w1 ⟨rfl, hb1⟩
  have BX : Hid (Bx _ _ _ _ _) := Bx.made (fs := #[.bool true, .bool true, .bool false, .bool false]) hb1
  have hz : w.heap.size < w1.heap.size := by have := hb1.size; simp at this; omega
  obtain ⟨o0, o1, o2, o3, o4⟩ := five (bcells (heap_alloc_new w _) hb1)
  obtain ⟨f0, f1, f2, f3⟩ := BX.out.fs
  go_wp2_with fail
  refine (HN.out _).mono ?_
  rintro e w2 ⟨rfl, hb2⟩
  have BX2 := BX.out.below hb2
  clear BX o0 o1 o2 o3 o4 f0 f1 f2 f3 hz hb1
  have BX : Hid (Bx _ _ _ _ _) := BX2
  clear BX2 hb2
  obtain ⟨o0, o1, o2, o3, o4⟩ := BX.out.op
  obtain ⟨f0, f1, f2, f3⟩ := BX.out.fs
  cases q1 : isPart nm with
  | false =>
    go_wp2
    go_ret
    exact ⟨by first | rfl | (rw [HR.out, q1]; rfl), BX.out.2.2⟩
  | true =>
    cases q2 : isPath pt with
    | false =>
      go_wp2_with fail
      refine (check_no pt _ hpt q2).mono ?_
      rintro e w3 ⟨rfl, hb3⟩
      have BX3 := BX.out.below hb3
      clear BX o0 o1 o2 o3 o4 f0 f1 f2 f3
      have BX : Hid (Bx _ _ _ _ _) := BX3
      clear BX3 hb3
      obtain ⟨o0, o1, o2, o3, o4⟩ := BX.out.op
      obtain ⟨f0, f1, f2, f3⟩ := BX.out.fs
      go_wp2
      go_ret
      exact ⟨by first | rfl | (rw [HR.out, q1, q2]; rfl), BX.out.2.2⟩
    | true =>
      go_wp2_with fail
      refine (check_ok pt _ hpt q2).mono ?_
      rintro e w3 ⟨rfl, hb3⟩
      have BX3 := BX.out.below hb3
      clear BX o0 o1 o2 o3 o4 f0 f1 f2 f3
      have BX : Hid (Bx _ _ _ _ _) := BX3
      clear BX3 hb3
      obtain ⟨o0, o1, o2, o3, o4⟩ := BX.out.op
      obtain ⟨f0, f1, f2, f3⟩ := BX.out.fs
      cases q3 : noKeys ks with
      | false =>
        have t3 : 0 < kn := by have e1 := HKN.out; have e2 : ¬ ks.length = 0 := by simpa [noKeys] using q3
                               omega
        go_wp2
        go_ret
        exact ⟨by first | rfl | (rw [HR.out, q1, q2, q3]; rfl), BX.out.2.2⟩
      | true =>
        have t3 : kn = 0 := by rw [HKN.out]; simpa [noKeys] using q3
        subst t3
        cases q4 : isZero n with
        | false =>
          have t4 : (n == 0) = false := by simpa [isZero] using q4
          go_wp2
          go_ret
          exact ⟨by first | rfl | (rw [HR.out, q1, q2, q3, q4]; rfl), BX.out.2.2⟩
        | true =>
          have t4 : n = 0 := by simpa [isZero] using q4
          subst t4
          go_wp2
          go_ret
          exact ⟨by first | rfl | (rw [HR.out, q1, q2, q3, q4]; rfl), BX.out.2.2⟩

set_option maxHeartbeats 4000000 in
set_option maxRecDepth 100000 in
theorem op_0001 (k n : Int) (nm pt : ByteArray) (a : Option Addr) (kn cap : Nat) (ks : List ByteArray) (w : World) (ha : asks k = (false, false, false, true, true)) (hnm : nm.size ≤ 100000) (hpt : pt.size ≤ 100000) (hkn : kn = ks.length) (hl : Route.Lies w a ks) (hkm : kn ≤ 140737488355328) (r : Bool) (hr : r = (noText nm && noText pt && noKeys ks && within n 0 100)) :
    Calls Tryz.prog 60 #[.agg #[.int .i64 k, .string nm, .string pt, .slice a kn cap, .int .i64 n]] w fun e w' => e = .returned (.bool r) ∧ Below w.heap.size w w' := by
  have HA : Hid (∀ w, Calls _ _ _ _ _) := fun w => asked_core k false false false true true w ha
  have HN : Hid (∀ w, Calls _ _ _ _ _) := fun w => isName_any nm w hnm
  have HR : Hid (_ = _) := hr
  have HKN : Hid (kn = ks.length) := hkn
  have HL : Hid (Route.Lies w a ks) := hl
  have s1 := neNil
  have s2 := neFormNil
  clear ha hr hkn hl
  go_enter Tryz.func60, Tryz.ntmps60
  go_wp2_with fail
  refine (HA.out _).mono ?_
  rintro e w1 ⟨rfl, hb1⟩
  have BX : Hid (Bx _ _ _ _ _) := Bx.made (fs := #[.bool false, .bool false, .bool false, .bool true]) hb1
  have hz : w.heap.size < w1.heap.size := by have := hb1.size; simp at this; omega
  obtain ⟨o0, o1, o2, o3, o4⟩ := five (bcells (heap_alloc_new w _) hb1)
  obtain ⟨f0, f1, f2, f3⟩ := BX.out.fs
  cases q1 : noText nm with
  | false =>
    have t1 := text_ne (s := nm) (by simpa [noText] using q1)
    go_wp2
    go_ret
    exact ⟨by first | rfl | (rw [HR.out, q1]; rfl), BX.out.2.2⟩
  | true =>
    have t1 : nm = ByteArray.empty := noText_eq q1
    subst t1
    cases q2 : noText pt with
    | false =>
      have t2 := text_ne (s := pt) (by simpa [noText] using q2)
      go_wp2
      go_ret
      exact ⟨by first | rfl | (rw [HR.out, q1, q2]; rfl), BX.out.2.2⟩
    | true =>
      have t2 : pt = ByteArray.empty := noText_eq q2
      subst t2
      cases q3 : noKeys ks with
      | false =>
        have t3 : 0 < kn := by have e1 := HKN.out; have e2 : ¬ ks.length = 0 := by simpa [noKeys] using q3
                               omega
        go_wp2
        go_ret
        exact ⟨by first | rfl | (rw [HR.out, q1, q3]; rfl), BX.out.2.2⟩
      | true =>
        have t3 : kn = 0 := by rw [HKN.out]; simpa [noKeys] using q3
        subst t3
        go_wp2_with fail
        refine (within_any n 0 100 _).mono ?_
        rintro e w5 ⟨rfl, rfl⟩
        cases q4 : within n 0 100
        all_goals
          go_wp2
          go_ret
          exact ⟨by first | rfl | (rw [HR.out, q1, q3, q4]; rfl), BX.out.2.2⟩

set_option maxHeartbeats 4000000 in
set_option maxRecDepth 100000 in
theorem op_0000 (k n : Int) (nm pt : ByteArray) (a : Option Addr) (kn cap : Nat) (ks : List ByteArray) (w : World) (ha : asks k = (false, false, false, false, true)) (hnm : nm.size ≤ 100000) (hpt : pt.size ≤ 100000) (hkn : kn = ks.length) (hl : Route.Lies w a ks) (hkm : kn ≤ 140737488355328) (r : Bool) (hr : r = (noText nm && noText pt && noKeys ks && isZero n)) :
    Calls Tryz.prog 60 #[.agg #[.int .i64 k, .string nm, .string pt, .slice a kn cap, .int .i64 n]] w fun e w' => e = .returned (.bool r) ∧ Below w.heap.size w w' := by
  have HA : Hid (∀ w, Calls _ _ _ _ _) := fun w => asked_core k false false false false true w ha
  have HN : Hid (∀ w, Calls _ _ _ _ _) := fun w => isName_any nm w hnm
  have HR : Hid (_ = _) := hr
  have HKN : Hid (kn = ks.length) := hkn
  have HL : Hid (Route.Lies w a ks) := hl
  have s1 := neNil
  have s2 := neFormNil
  clear ha hr hkn hl
  go_enter Tryz.func60, Tryz.ntmps60
  go_wp2_with fail
  refine (HA.out _).mono ?_
  rintro e w1 ⟨rfl, hb1⟩
  have BX : Hid (Bx _ _ _ _ _) := Bx.made (fs := #[.bool false, .bool false, .bool false, .bool false]) hb1
  have hz : w.heap.size < w1.heap.size := by have := hb1.size; simp at this; omega
  obtain ⟨o0, o1, o2, o3, o4⟩ := five (bcells (heap_alloc_new w _) hb1)
  obtain ⟨f0, f1, f2, f3⟩ := BX.out.fs
  cases q1 : noText nm with
  | false =>
    have t1 := text_ne (s := nm) (by simpa [noText] using q1)
    go_wp2
    go_ret
    exact ⟨by first | rfl | (rw [HR.out, q1]; rfl), BX.out.2.2⟩
  | true =>
    have t1 : nm = ByteArray.empty := noText_eq q1
    subst t1
    cases q2 : noText pt with
    | false =>
      have t2 := text_ne (s := pt) (by simpa [noText] using q2)
      go_wp2
      go_ret
      exact ⟨by first | rfl | (rw [HR.out, q1, q2]; rfl), BX.out.2.2⟩
    | true =>
      have t2 : pt = ByteArray.empty := noText_eq q2
      subst t2
      cases q3 : noKeys ks with
      | false =>
        have t3 : 0 < kn := by have e1 := HKN.out; have e2 : ¬ ks.length = 0 := by simpa [noKeys] using q3
                               omega
        go_wp2
        go_ret
        exact ⟨by first | rfl | (rw [HR.out, q1, q3]; rfl), BX.out.2.2⟩
      | true =>
        have t3 : kn = 0 := by rw [HKN.out]; simpa [noKeys] using q3
        subst t3
        cases q4 : isZero n with
        | false =>
          have t4 : (n == 0) = false := by simpa [isZero] using q4
          go_wp2
          go_ret
          exact ⟨by first | rfl | (rw [HR.out, q1, q3, q4]; rfl), BX.out.2.2⟩
        | true =>
          have t4 : n = 0 := by simpa [isZero] using q4
          subst t4
          go_wp2
          go_ret
          exact ⟨by first | rfl | (rw [HR.out, q1, q3, q4]; rfl), BX.out.2.2⟩

end Go.Proofs.YtlpgdfdadkljfaaGreat.Order

/-
  The contracts of mayBe, Check and Put.
-/
namespace Go.Proofs.YtlpgdfdadkljfaaGreat.Order
open Go.RowKit Route

/-- A request's value: its cells. -/
abbrev rv (r : Rq) (a : Option Addr) (kn cap : Nat) : Array Value := #[.int .i64 r.c, .int .i64 r.t, .int .i64 r.k, .string r.nm, .string r.pt, .slice a kn cap, .int .i64 r.n]

/-- What is asked of a request's list of keys. -/
structure KeysAt (w : World) (a : Option Addr) (kn cap : Nat) (ks : List ByteArray) : Prop where
  len : kn = ks.length
  lies : Route.Lies w a ks
  most : kn ≤ 140737488355328
  nm : kn ≤ cap

theorem KeysAt.below {w w' : World} {a : Option Addr} {kn cap : Nat} {ks : List ByteArray} (h : KeysAt w a kn cap ks) (hb : Below w.heap.size w w') : KeysAt w' a kn cap ks :=
  ⟨h.len, h.lies.below hb (Nat.le_refl _), h.most, h.nm⟩

theorem mayBeOp_any (r : Rq) (a : Option Addr) (kn cap : Nat) (w : World) (hnm : r.nm.size ≤ 100000) (hpt : r.pt.size ≤ 100000) (hk : KeysAt w a kn cap r.ks) :
    Calls Tryz.prog 60 #[.agg #[.int .i64 r.k, .string r.nm, .string r.pt, .slice a kn cap, .int .i64 r.n]] w fun e w' => e = .returned (.bool (mayOp r)) ∧ Below w.heap.size w w' := by
  by_cases h1 : r.k = 1 ∨ r.k = 3 ∨ r.k = 4 ∨ r.k = 7
  · exact op_1000 r.k r.n r.nm r.pt a kn cap r.ks w (by rw [asks, if_pos h1]) hnm hpt hk.len hk.lies hk.most _ (by rw [mayOp, if_pos h1])
  · by_cases h2 : r.k = 2
    · exact op_1110 r.k r.n r.nm r.pt a kn cap r.ks w (by rw [asks, if_neg h1, if_pos h2]) hnm hpt hk.len hk.lies hk.most _ (by rw [mayOp, if_neg h1, if_pos h2])
    · by_cases h6 : r.k = 6
      · exact op_1100 r.k r.n r.nm r.pt a kn cap r.ks w (by rw [asks, if_neg h1, if_neg h2, if_pos h6]) hnm hpt hk.len hk.lies hk.most _ (by rw [mayOp, if_neg h1, if_neg h2, if_pos h6])
      · by_cases h8 : r.k = 8
        · exact op_0001 r.k r.n r.nm r.pt a kn cap r.ks w (by rw [asks, if_neg h1, if_neg h2, if_neg h6, if_pos h8]) hnm hpt hk.len hk.lies hk.most _ (by rw [mayOp, if_neg h1, if_neg h2, if_neg h6, if_pos h8])
        · by_cases h5 : r.k = 5 ∨ r.k = 9
          · exact op_0000 r.k r.n r.nm r.pt a kn cap r.ks w (by rw [asks, if_neg h1, if_neg h2, if_neg h6, if_neg h8, if_pos h5]) hnm hpt hk.len hk.lies hk.most _ (by rw [mayOp, if_neg h1, if_neg h2, if_neg h6, if_neg h8, if_pos h5])
          · rw [mayOp, if_neg h1, if_neg h2, if_neg h6, if_neg h8, if_neg h5]
            exact op_none r.k r.n r.nm r.pt _ w (by rw [asks, if_neg h1, if_neg h2, if_neg h6, if_neg h8, if_neg h5])

set_option maxHeartbeats 2000000 in
set_option maxRecDepth 100000 in
theorem mayBe_any (r : Rq) (a : Option Addr) (kn cap : Nat) (w : World) (hnm : r.nm.size ≤ 100000) (hpt : r.pt.size ≤ 100000) (hk : KeysAt w a kn cap r.ks) :
    Calls Tryz.prog 35 #[.agg (rv r a kn cap)] w fun e w' => e = .returned (.bool (may r)) ∧ Below w.heap.size w w' := by
  obtain ⟨c, t, k, n, nm, pt, ks⟩ := r
  have HR : Hid (may ⟨c, t, k, n, nm, pt, ks⟩ = (within c 0 7 && within t 1 1000 && mayOp ⟨c, t, k, n, nm, pt, ks⟩)) := rfl
  have HO : Hid (∀ w', Below w.heap.size w w' → Calls Tryz.prog 60 #[.agg #[.int .i64 k, .string nm, .string pt, .slice a kn cap, .int .i64 n]] w' fun e w2 => e = .returned (.bool (mayOp ⟨c, t, k, n, nm, pt, ks⟩)) ∧ Below w'.heap.size w' w2) :=
    fun w' hb => mayBeOp_any ⟨c, t, k, n, nm, pt, ks⟩ a kn cap w' hnm hpt (hk.below hb)
  clear hnm hpt hk
  generalize mayOp ⟨c, t, k, n, nm, pt, ks⟩ = o at *
  generalize may ⟨c, t, k, n, nm, pt, ks⟩ = m at *
  have HW : Hid (Below w.heap.size w (w.alloc (.cells #[.int .i64 c, .int .i64 t, .int .i64 k, .string nm, .string pt, .slice a kn cap, .int .i64 n] 59))) := (Below.refl _ _).alloc (Nat.le_refl _) _
  show Calls Tryz.prog 35 #[.agg #[.int .i64 c, .int .i64 t, .int .i64 k, .string nm, .string pt, .slice a kn cap, .int .i64 n]] w _
  go_enter Tryz.func35, Tryz.ntmps35
  go_wp2_with fail
  refine (within_any c 0 7 _).mono ?_
  rintro e w1 ⟨rfl, rfl⟩
  cases q1 : within c 0 7 with
  | false =>
    go_wp2
    go_ret
    exact ⟨by first | rfl | (rw [HR.out, q1]; rfl), HW.out⟩
  | true =>
    go_wp2_with fail
    refine (within_any t 1 1000 _).mono ?_
    rintro e w1 ⟨rfl, rfl⟩
    cases q2 : within t 1 1000 with
    | false =>
      go_wp2
      go_ret
      exact ⟨by first | rfl | (rw [HR.out, q1, q2]; rfl), HW.out⟩
    | true =>
      go_wp2_with fail
      refine (HO.out _ HW.out).mono ?_
      rintro e w1 ⟨rfl, hb⟩
      go_wp2
      go_ret
      exact ⟨by rw [HR.out, q1, q2]; rfl, HW.out.trans (hb.mono HW.out.size)⟩

set_option maxHeartbeats 1000000 in
theorem check_any (r : Rq) (a : Option Addr) (kn cap : Nat) (w : World) (hnm : r.nm.size ≤ 100000) (hpt : r.pt.size ≤ 100000) (hk : KeysAt w a kn cap r.ks) :
    Calls Tryz.prog 18 #[.agg (rv r a kn cap)] w fun e w' => e = .returned (if may r = true then .nilIface else .iface 53 (.int .i64 1)) ∧ Below w.heap.size w w' := by
  have HM : Hid (∀ w', Below w.heap.size w w' → Calls Tryz.prog 35 #[.agg (rv r a kn cap)] w' fun e w2 => e = .returned (.bool (may r)) ∧ Below w'.heap.size w' w2) :=
    fun w' hb => mayBe_any r a kn cap w' hnm hpt (hk.below hb)
  have HW : Hid (Below w.heap.size w (w.alloc (.cells (rv r a kn cap) 59))) := (Below.refl _ _).alloc (Nat.le_refl _) _
  clear hnm hpt hk
  cases q : may r
  all_goals
    rw [q] at HM
    go_enter Tryz.func18, Tryz.ntmps18
    go_wp2_with fail
    refine (HM.out _ HW.out).mono ?_
    rintro e w1 ⟨rfl, hb⟩
    go_wp2
    go_ret
    exact ⟨rfl, HW.out.trans (hb.mono HW.out.size)⟩
end Go.Proofs.YtlpgdfdadkljfaaGreat.Order

/-
  The answer's Short of an operation; a request in memory.
-/
namespace Go.Proofs.YtlpgdfdadkljfaaGreat.Order
open Go.RowKit Route

/-- What is known of an operation that is short. -/
def ShortR (r : Rq) : Prop := r.nm.size ≤ 2000 ∧ r.pt.size ≤ 2000 ∧ r.ks.length ≤ 100

/-- A request that came in. -/
structure ReqAt (w : World) (a : Option Addr) (kn cap : Nat) (r : Rq) : Prop where
  len : kn = r.ks.length
  lies : Route.Lies w a r.ks
  nm : r.nm.size ≤ maxLen
  pt : r.pt.size ≤ maxLen
  kc : kn ≤ cap
  cm : cap ≤ maxLen
  sz : ∀ s ∈ r.ks, s.size ≤ maxLen
  nil : a = none → cap = 0

theorem ReqAt.keys {w : World} {a : Option Addr} {kn cap : Nat} {r : Rq} (h : ReqAt w a kn cap r) (hs : ShortR r) : KeysAt w a kn cap r.ks :=
  ⟨h.len, h.lies, by rw [h.len]; have := hs.2.2; omega, h.kc⟩
theorem ReqAt.below {w w' : World} {a : Option Addr} {kn cap : Nat} {r : Rq} (h : ReqAt w a kn cap r) (hb : Below w.heap.size w w') : ReqAt w' a kn cap r :=
  ⟨h.len, h.lies.below hb (Nat.le_refl _), h.nm, h.pt, h.kc, h.cm, h.sz, h.nil⟩

/-- What Short tells. -/
def ShPost (r : Rq) (w : World) (e : Ending) (w' : World) : Prop := ∃ b, e = .returned (.bool b) ∧ Hid ((b = true → ShortR r) ∧ Below w.heap.size w w')

set_option maxHeartbeats 2000000 in
set_option maxRecDepth 100000 in
theorem short_any (r : Rq) (a : Option Addr) (kn cap : Nat) (w : World) (h : ReqAt w a kn cap r) :
    Calls Tryz.prog 17 #[.agg #[.int .i64 r.k, .string r.nm, .string r.pt, .slice a kn cap, .int .i64 r.n]] w (ShPost r w) := by
  have HW : Hid (Below w.heap.size w (w.alloc (.cells #[.int .i64 r.k, .string r.nm, .string r.pt, .slice a kn cap, .int .i64 r.n] 34))) := (Below.refl _ _).alloc (Nat.le_refl _) _
  obtain ⟨c, t, k, m, nm, pt, ks⟩ := r
  obtain ⟨x, hx⟩ : ∃ x, x = nm.size := ⟨_, rfl⟩
  obtain ⟨y, hy⟩ : ∃ y, y = pt.size := ⟨_, rfl⟩
  have l1 := len_text nm x hx
  have l2 := len_text pt y hy
  have hxm : x ≤ 9223372036854775807 := by rw [hx]; exact h.nm
  have hym : y ≤ 9223372036854775807 := by rw [hy]; exact h.pt
  have hkm : kn ≤ 9223372036854775807 := Nat.le_trans h.kc h.cm
  have HK : Hid (kn = ks.length) := h.len
  have HL : Hid (Route.Lies w a ks) := h.lies
  have HZ : Hid (∀ s ∈ ks, s.size ≤ maxLen) := h.sz
  have HX : Hid (x = nm.size) := hx
  have HY : Hid (y = pt.size) := hy
  clear h hx hy
  by_cases h1 : 2000 < x
  · go_enter Tryz.func17, Tryz.ntmps17
    go_wp2
    go_ret
    exact ⟨_, rfl, fun e => (by cases e), HW.out⟩
  · by_cases h2 : 2000 < y
    · go_enter Tryz.func17, Tryz.ntmps17
      go_wp2
      go_ret
      exact ⟨_, rfl, fun e => (by cases e), HW.out⟩
    · by_cases h3 : 100 < kn
      · go_enter Tryz.func17, Tryz.ntmps17
        go_wp2
        go_ret
        exact ⟨_, rfl, fun e => (by cases e), HW.out⟩
      · have HS : Hid (ShortR ⟨c, t, k, m, nm, pt, ks⟩) := ⟨by show nm.size ≤ _; rw [← HX.out]; omega, by show pt.size ≤ _; rw [← HY.out]; omega, by show ks.length ≤ _; rw [← HK.out]; omega⟩
        clear HX HY
        go_enter Tryz.func17, Tryz.ntmps17
        go_wp2
        go_loop [2, 3] (fun t2 t3 => t2 = .bool false ∧ ∃ j : Nat, t3 = .int .i64 j ∧ j ≤ kn) (fun _ t3 => kn - (intOf t3).toNat)
        case atStart => exact ⟨rfl, 0, rfl, by omega⟩
        case round =>
          obtain ⟨rfl, j, rfl, hj⟩ := hrel
          by_cases hjk : j < kn
          · have hjl : j < ks.length := by rw [← HK.out]; exact hjk
            obtain ⟨b, off, rfl, hc⟩ := HL.out.at (by omega)
            have hcell := cell_later HW.out (hc j hjl)
            obtain ⟨s, hs⟩ : ∃ s, s = ks.getD j ByteArray.empty := ⟨_, rfl⟩
            rw [← hs] at hcell
            have hsm : s.size ≤ maxLen := HZ.out s (by rw [hs]; simp [List.getD_eq_getElem?_getD, List.getElem?_eq_getElem hjl])
            obtain ⟨z, hz⟩ : ∃ z, z = s.size := ⟨_, rfl⟩
            have hlen := len_text s z hz
            have hzm : z ≤ 9223372036854775807 := by rw [hz]; exact hsm
            clear hs hjl hc hz hsm
            by_cases hz2 : 2000 < z
            · go_wp2
              go_ret
              exact ⟨_, rfl, fun e => (by cases e), HW.out⟩
            · go_wp2
              go_round
              case rel => exact ⟨rfl, j + 1, by go_num, by omega⟩
              case measure => simp [intOf]; omega
          · go_wp2
            go_ret
            exact ⟨_, rfl, fun _ => HS.out, HW.out⟩

end Go.Proofs.YtlpgdfdadkljfaaGreat.Order
