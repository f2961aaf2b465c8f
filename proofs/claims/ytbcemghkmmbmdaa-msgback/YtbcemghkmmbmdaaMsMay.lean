/-
  Whether a message may be: the program's own test.
-/
import Derived.Test.YtbcemghkmmbmdaaMsMem
import Derived.Deep.RegionHeld
import Derived.Deep.QuietTactic
namespace Go.Proofs.Ytbcemghkmmbmdaa.Msg
open Go.RowKit Route

theorem all_no {α : Type} {l : List α} {f : α → Bool} {j : Nat} (h : j < l.length) (hf : f l[j] = false) : l.all f = false := by
  rw [List.all_eq_false]
  exact ⟨l[j], List.getElem_mem _, by simp [hf]⟩
theorem all_yes {α : Type} {l : List α} {f : α → Bool} (h : ∀ j (hj : j < l.length), f l[j] = true) : l.all f = true := by
  rw [List.all_eq_true]
  intro x hx
  obtain ⟨j, hj, rfl⟩ := List.getElem_of_mem hx
  exact h j hj

theorem isWithin_any (n a b : Int) (w : World) : Calls Try.prog 47 #[.int .i64 n, .int .i64 a, .int .i64 b] w fun e w' => e = .returned (.bool (isIn n a b)) ∧ w' = w := by
  unfold isIn
  by_cases h1 : a ≤ n
  · by_cases h2 : n ≤ b
    · go_enter Try.func47, Try.ntmps47
      go_wp2
      go_ret
      exact ⟨by simp; omega, rfl⟩
    · go_enter Try.func47, Try.ntmps47
      go_wp2
      go_ret
      exact ⟨by simp; omega, rfl⟩
  · go_enter Try.func47, Try.ntmps47
    go_wp2
    go_ret
    exact ⟨by simp; omega, rfl⟩
theorem isNode_any (n : Int) (w : World) : Calls Try.prog 48 #[.int .i64 n] w fun e w' => e = .returned (.bool (nodeB n)) ∧ w' = w := by
  unfold nodeB
  go_enter Try.func48, Try.ntmps48
  go_wp2_with fail
  refine (isWithin_any n 0 12 _).mono ?_
  rintro e w1 ⟨rfl, rfl⟩
  go_wp2
  go_ret
  exact ⟨rfl, rfl⟩
theorem isView_any (n : Int) (w : World) : Calls Try.prog 49 #[.int .i64 n] w fun e w' => e = .returned (.bool (isIn n 0 64)) ∧ w' = w := by
  go_enter Try.func49, Try.ntmps49
  go_wp2_with fail
  refine (isWithin_any n 0 64 _).mono ?_
  rintro e w1 ⟨rfl, rfl⟩
  go_wp2
  go_ret
  exact ⟨rfl, rfl⟩
theorem isBody_any (s : ByteArray) (hs : s.size ≤ 9223372036854775807) (w : World) : Calls Try.prog 51 #[.string s] w fun e w' => e = .returned (.bool (decide (s.size ≤ 4096))) ∧ w' = w := by
  obtain ⟨z, hz⟩ : ∃ z, z = s.size := ⟨_, rfl⟩
  have l1 := len_text s z hz
  have HZ : Hid (z = s.size) := hz
  have hzm : z ≤ 9223372036854775807 := by omega
  rw [← hz]
  clear hs hz
  by_cases h : z ≤ 4096
  · go_enter Try.func51, Try.ntmps51
    go_wp2
    go_ret
    exact ⟨by simp; omega, rfl⟩
  · go_enter Try.func51, Try.ntmps51
    go_wp2
    go_ret
    exact ⟨by simp; omega, rfl⟩
theorem mostSeq_any (k : Int) (w : World) : Calls Try.prog 50 #[.int .i64 k] w fun e w' => e = .returned (.int .i64 (if k = 7 then 1000 else 64)) ∧ w' = w := by
  by_cases h : k = 7
  · subst h
    go_enter Try.func50, Try.ntmps50
    go_wp2
    go_ret
    exact ⟨rfl, rfl⟩
  · have e0 : (k == 7) = false := by simp [h]
    rw [if_neg h]
    go_enter Try.func50, Try.ntmps50
    go_wp2
    go_ret
    exact ⟨rfl, rfl⟩
theorem mostProofs_any (k : Int) (w : World) : Calls Try.prog 53 #[.int .i64 k] w fun e w' => e = .returned (.int .i64 (if k = 5 then 64 else 0)) ∧ w' = w := by
  by_cases h : k = 5
  · subst h
    go_enter Try.func53, Try.ntmps53
    go_wp2
    go_ret
    exact ⟨rfl, rfl⟩
  · have e0 : (k == 5) = false := by simp [h]
    rw [if_neg h]
    go_enter Try.func53, Try.ntmps53
    go_wp2
    go_ret
    exact ⟨rfl, rfl⟩
theorem mostChanges_any (k : Int) (w : World) : Calls Try.prog 56 #[.int .i64 k] w fun e w' => e = .returned (.int .i64 (if k = 6 then 13 else 0)) ∧ w' = w := by
  by_cases h : k = 6
  · subst h
    go_enter Try.func56, Try.ntmps56
    go_wp2
    go_ret
    exact ⟨rfl, rfl⟩
  · have e0 : (k == 6) = false := by simp [h]
    rw [if_neg h]
    go_enter Try.func56, Try.ntmps56
    go_wp2
    go_ret
    exact ⟨rfl, rfl⟩

set_option maxHeartbeats 4000000 in
theorem allI_any (a : Option Addr) (n cap : Nat) (l : List Int) (m : Nat) (w : World) (hn : n = l.length) (hl : LiesI w a l) (_ : n ≤ 1000000000) (hm2 : m ≤ 1000) :
    Calls Try.prog 82 #[.slice a n cap, .int .i64 (m : Int), .func (.func 48) #[] #[]] w fun e w' => e = .returned (.bool (decide (l.length ≤ m) && l.all nodeB)) ∧ w' = w := by
  have HN : Hid (n = l.length) := hn
  have HL : Hid (LiesI w a l) := hl
  by_cases hbig : m < n
  · have hr : (decide (l.length ≤ m) && l.all nodeB) = false := by rw [show decide (l.length ≤ m) = false by simp; omega]; rfl
    rw [hr]
    clear hn hl
    go_enter Try.func82, Try.ntmps82
    go_wp2
    go_ret
    exact ⟨rfl, rfl⟩
  · have HR : Hid ((decide (l.length ≤ m) && l.all nodeB) = l.all nodeB) := by show _ = _; rw [show decide (l.length ≤ m) = true by simp; omega]; rfl
    generalize hR : (decide (l.length ≤ m) && l.all nodeB) = R at HR ⊢
    clear hn hl hR
    go_enter Try.func82, Try.ntmps82
    go_wp2
    go_loopw [15] (fun t15 wr => ∃ i : Nat, t15 = .int .i64 (i : Int) ∧ i ≤ n ∧ w = wr ∧ Hid (∀ j (hj : j < l.length), j < i → nodeB l[j] = true)) (fun t15 _ => n - (intOf t15).toNat)
    case atStart => exact ⟨0, rfl, Nat.zero_le _, rfl, fun j _ hj => by omega⟩
    case round =>
      obtain ⟨i, rfl, hi, rfl, HI⟩ := hrel
      by_cases hin : i < n
      · have hil : i < l.length := by rw [← HN.out]; exact hin
        obtain ⟨x, hx, g0⟩ := HL.out.at hil
        subst hx
        have hix := index_int x n cap i hin
        rw [inAt_get hil] at g0
        generalize x.add (i * 1) = q at g0 hix
        generalize hv : l[i] = v at g0
        have HV : Hid (l[i] = v) := hv
        clear hv
        cases hb : nodeB v with
        | false =>
          have HF : Hid (l.all nodeB = false) := all_no hil (by rw [HV.out, hb])
          go_wp2_with (first | (go_at_call 48; refine (isNode_any v _).mono ?_; rintro e w1 ⟨rfl, rfl⟩; rw [hb]))
          go_ret
          exact ⟨by rw [HR.out, HF.out]; rfl, rfl⟩
        | true =>
          have HI2 : Hid (∀ j (hj : j < l.length), j < i + 1 → nodeB l[j] = true) := fun j hj h => by
            by_cases e : j = i
            · subst e; rw [HV.out, hb]
            · exact HI.out j hj (by omega)
          clear HI
          go_wp2_with (first | (go_at_call 48; refine (isNode_any v _).mono ?_; rintro e w1 ⟨rfl, rfl⟩; rw [hb]))
          go_roundw
          case rel => exact ⟨i + 1, by go_num, by omega, by first | rfl | trivial, HI2⟩
          case measure => simp [intOf]; omega
      · have HT : Hid (l.all nodeB = true) := all_yes fun j hj => HI.out j hj (by have := HN.out; omega)
        go_wp2
        go_ret
        exact ⟨by rw [HR.out, HT.out]; rfl, rfl⟩

/-- Cells of a proof's box. -/
def PfBox (w0 : World) (b : Nat) (x0 x1 x2 x3 : Value) (W : World) : Prop := Below w0.heap.size w0 W ∧ W.cell? ⟨b, 0, none⟩ = some x0 ∧ W.cell? ⟨b, 1, none⟩ = some x1 ∧ W.cell? ⟨b, 2, none⟩ = some x2 ∧ W.cell? ⟨b, 3, none⟩ = some x3

set_option maxHeartbeats 4000000 in
theorem isProof_any (e : Pf) (a : Option Addr) (n cap : Nat) (w : World) (hn : n = e.2.2.2.length) (hl : LiesI w a e.2.2.2) (hm : n ≤ 1000000000) (hs : e.2.2.1.size ≤ 9223372036854775807) :
    Calls Try.prog 54 #[.agg (pfV e a n cap)] w fun r w' => r = .returned (.bool (pfB e)) ∧ Below w.heap.size w w' := by
  obtain ⟨v, s, bd, fr⟩ := e
  simp only at hn hl hs
  unfold pfB pfV
  simp only
  obtain ⟨W1, hW1⟩ : ∃ W1, W1 = w.alloc (.cells #[.int .i64 v, .int .i64 s, .string bd, .slice a n cap] 89) := ⟨_, rfl⟩
  have HW1 : Hid (W1 = _) := hW1
  have hB : Below w.heap.size w W1 := by rw [hW1]; exact (Below.refl _ _).alloc (Nat.le_refl _) _
  have HB : Hid (Below w.heap.size w W1) := hB
  obtain ⟨x0, x1, x2, x3⟩ := four4 (show W1.heap[w.heap.size]? = _ by rw [hW1]; exact box_new _ _ _)
  have HA : Hid (∀ W, W = W1 → Calls _ _ _ _ _) := fun W h => allI_any a n cap fr 13 W hn (by rw [h]; exact hl.below hB (Nat.le_refl _)) hm (by omega)
  have HBd : Hid (∀ W, Calls _ _ _ _ _) := fun W => isBody_any bd hs W
  clear hW1 hB hn hl hs
  generalize (decide (fr.length ≤ 13) && fr.all nodeB) = R4 at *
  generalize decide (bd.size ≤ 4096) = R3 at *
  go_enter Try.func54, Try.ntmps54
  go_wp2_with fail
  rw [← HW1.out]
  refine (isView_any v W1).mono ?_
  rintro r w1 ⟨rfl, rfl⟩
  cases q1 : isIn v 0 64 with
  | false =>
    go_wp2
    go_ret
    exact ⟨by rw [q1]; rfl, HB.out⟩
  | true =>
    go_wp2_with fail
    refine (isWithin_any s 0 64 _).mono ?_
    rintro r w1 ⟨rfl, rfl⟩
    cases q2 : isIn s 0 64 with
    | false =>
      go_wp2
      go_ret
      exact ⟨by rw [q1, q2]; rfl, HB.out⟩
    | true =>
      go_wp2_with fail
      refine (HBd.out _).mono ?_
      rintro r w1 ⟨rfl, rfl⟩
      cases R3 with
      | false =>
        go_wp2
        go_ret
        exact ⟨by rw [q1, q2]; rfl, HB.out⟩
      | true =>
        go_wp2_with fail
        refine (HA.out _ rfl).mono ?_
        rintro r w1 ⟨rfl, rfl⟩
        go_wp2
        go_ret
        exact ⟨by rw [q1, q2]; rfl, HB.out⟩

set_option maxHeartbeats 4000000 in
theorem allP_any (a : Option Addr) (n cap : Nat) (l : List Pf) (m : Int) (w : World) (hn : n = l.length) (hl : LiesP w a l) (_ : n ≤ 1000000000) (hm0 : 0 ≤ m) (hm2 : m ≤ 1000) (hs : ∀ e ∈ l, e.2.2.1.size ≤ 9223372036854775807 ∧ e.2.2.2.length ≤ 1000000000) :
    Calls Try.prog 52 #[.slice a n cap, .int .i64 m, .func (.func 54) #[] #[]] w fun e w' => e = .returned (.bool (pfsB l m.toNat)) ∧ Below w.heap.size w w' := by
  have HN : Hid (n = l.length) := hn
  have HL : Hid (LiesP w a l) := hl
  have HS : Hid (∀ e ∈ l, e.2.2.1.size ≤ 9223372036854775807 ∧ e.2.2.2.length ≤ 1000000000) := hs
  unfold pfsB
  by_cases hbig : m < n
  · have hr : (decide (l.length ≤ m.toNat) && l.all pfB) = false := by rw [show decide (l.length ≤ m.toNat) = false by simp; omega]; rfl
    rw [hr]
    clear hn hl hs
    go_enter Try.func52, Try.ntmps52
    go_wp2
    go_ret
    exact ⟨rfl, Below.refl _ _⟩
  · have HR : Hid ((decide (l.length ≤ m.toNat) && l.all pfB) = l.all pfB) := by show _ = _; rw [show decide (l.length ≤ m.toNat) = true by simp; omega]; rfl
    generalize hR : (decide (l.length ≤ m.toNat) && l.all pfB) = R at HR ⊢
    clear hn hl hR hs
    go_enter Try.func52, Try.ntmps52
    go_wp2
    go_loopw [15] (fun t15 wr => ∃ i : Nat, t15 = .int .i64 (i : Int) ∧ i ≤ n ∧ Hid (Below w.heap.size w wr) ∧ Hid (∀ j (hj : j < l.length), j < i → pfB l[j] = true)) (fun t15 _ => n - (intOf t15).toNat)
    case atStart => exact ⟨0, rfl, Nat.zero_le _, Below.refl _ _, fun j _ hj => by omega⟩
    case round =>
      obtain ⟨i, rfl, hi, HB, HI⟩ := hrel
      by_cases hin : i < n
      · have hil : i < l.length := by rw [← HN.out]; exact hin
        obtain ⟨x, hx, g0, g1, g2, fa, fc, g3, hf⟩ := (HL.out.below HB.out (Nat.le_refl _)).at hil
        subst hx
        have hsz := HS.out _ (pfAt_mem hil)
        have hix := index_pf x n cap i hin
        rw [pfAt_get hil] at g0 g1 g2 g3 hf hsz
        generalize x.add (i * 4) = q at g0 g1 g2 g3 hix
        generalize hv : l[i] = v at g0 g1 g2 g3 hf hsz
        have HV : Hid (l[i] = v) := hv
        obtain ⟨v0, v1, v2, v3⟩ := v
        simp only at g0 g1 g2 g3 hf hsz
        obtain ⟨fn, hfn⟩ : ∃ fn, fn = v3.length := ⟨_, rfl⟩
        have HFN : Hid (fn = v3.length) := hfn
        rw [← hfn] at g3
        have HB2 : Hid (Below wr.heap.size wr (wr.alloc (.cells #[.int .i64 v0, .int .i64 v1, .string v2, .slice fa fn fc] 89))) := (Below.refl _ _).alloc (Nat.le_refl _) _
        have HC : Hid (Calls _ _ _ _ _) := isProof_any (v0, v1, v2, v3) fa fn fc (wr.alloc (.cells #[.int .i64 v0, .int .i64 v1, .string v2, .slice fa fn fc] 89)) hfn (hf.below HB2.out (Nat.le_refl _)) (by rw [hfn]; exact hsz.2) hsz.1
        clear hv hf hsz hfn
        cases hb : pfB (v0, v1, v2, v3) with
        | false =>
          rw [hb] at HC
          have HF : Hid (l.all pfB = false) := all_no hil (by rw [HV.out, hb])
          clear HI
          go_wp2_with (first | (go_at_call 54; refine HC.out.mono ?_; rintro e w1 ⟨rfl, hb1⟩; have HB3 : Hid (Below w.heap.size w w1) := (HB.out.trans (HB2.out.mono HB.out.size)).trans (hb1.mono (Nat.le_trans HB.out.size HB2.out.size))))
          go_ret
          exact ⟨by rw [HR.out, HF.out]; rfl, HB3.out⟩
        | true =>
          rw [hb] at HC
          have HI2 : Hid (∀ j (hj : j < l.length), j < i + 1 → pfB l[j] = true) := fun j hj h => by
            by_cases e : j = i
            · subst e; rw [HV.out, hb]
            · exact HI.out j hj (by omega)
          clear HI
          go_wp2_with (first | (go_at_call 54; refine HC.out.mono ?_; rintro e w1 ⟨rfl, hb1⟩; have HB3 : Hid (Below w.heap.size w w1) := (HB.out.trans (HB2.out.mono HB.out.size)).trans (hb1.mono (Nat.le_trans HB.out.size HB2.out.size))))
          go_roundw
          case rel => exact ⟨i + 1, by go_num, by omega, HB3, HI2⟩
          case measure => simp [intOf]; omega
      · have HT : Hid (l.all pfB = true) := all_yes fun j hj => HI.out j hj (by have := HN.out; omega)
        go_wp2
        go_ret
        exact ⟨by rw [HR.out, HT.out]; rfl, HB.out⟩

set_option maxHeartbeats 4000000 in
theorem isChange_any (e : Ch) (a : Option Addr) (n cap : Nat) (w : World) (hn : n = e.2.2.length) (hl : LiesP w a e.2.2) (hm : n ≤ 1000000000) (hs : ∀ x ∈ e.2.2, x.2.2.1.size ≤ 9223372036854775807 ∧ x.2.2.2.length ≤ 1000000000) :
    Calls Try.prog 57 #[.agg (chV e a n cap)] w fun r w' => r = .returned (.bool (chB e)) ∧ Below w.heap.size w w' := by
  obtain ⟨v, s, fr⟩ := e
  simp only at hn hl hs
  unfold chB chV
  simp only
  obtain ⟨W1, hW1⟩ : ∃ W1, W1 = w.alloc (.cells #[.int .i64 v, .int .i64 s, .slice a n cap] 61) := ⟨_, rfl⟩
  have HW1 : Hid (W1 = _) := hW1
  have hB : Below w.heap.size w W1 := by rw [hW1]; exact (Below.refl _ _).alloc (Nat.le_refl _) _
  have HB : Hid (Below w.heap.size w W1) := hB
  obtain ⟨x0, x1, x2⟩ := three3 (show W1.heap[w.heap.size]? = _ by rw [hW1]; exact box_new _ _ _)
  have HA : Hid (Calls _ _ _ _ _) := allP_any a n cap fr 64 W1 hn (hl.below hB (Nat.le_refl _)) hm (by omega) (by omega) hs
  rw [show (64 : Int).toNat = 64 from rfl] at HA
  clear hW1 hB hn hl hs
  generalize pfsB fr 64 = R4 at *
  go_enter Try.func57, Try.ntmps57
  go_wp2_with fail
  rw [← HW1.out]
  refine (isNode_any v W1).mono ?_
  rintro r w1 ⟨rfl, rfl⟩
  cases q1 : nodeB v with
  | false =>
    go_wp2
    go_ret
    exact ⟨by rw [q1]; rfl, HB.out⟩
  | true =>
    go_wp2_with fail
    refine (isView_any s _).mono ?_
    rintro r w1 ⟨rfl, rfl⟩
    cases q2 : isIn s 0 64 with
    | false =>
      go_wp2
      go_ret
      exact ⟨by rw [q1, q2]; rfl, HB.out⟩
    | true =>
      go_wp2_with fail
      refine HA.out.mono ?_
      rintro r w2 ⟨rfl, hb⟩
      go_wp2
      go_ret
      exact ⟨by rw [q1, q2]; rfl, HB.out.trans (hb.mono HB.out.size)⟩

set_option maxHeartbeats 4000000 in
theorem allC_any (a : Option Addr) (n cap : Nat) (l : List Ch) (m : Int) (w : World) (hn : n = l.length) (hl : LiesC w a l) (_ : n ≤ 1000000000) (hm0 : 0 ≤ m) (hm2 : m ≤ 1000) (hs : ∀ e ∈ l, e.2.2.length ≤ 1000000000 ∧ ∀ x ∈ e.2.2, x.2.2.1.size ≤ 9223372036854775807 ∧ x.2.2.2.length ≤ 1000000000) :
    Calls Try.prog 55 #[.slice a n cap, .int .i64 m, .func (.func 57) #[] #[]] w fun e w' => e = .returned (.bool (decide (l.length ≤ m.toNat) && l.all chB)) ∧ Below w.heap.size w w' := by
  have HN : Hid (n = l.length) := hn
  have HL : Hid (LiesC w a l) := hl
  have HS : Hid (∀ e ∈ l, e.2.2.length ≤ 1000000000 ∧ ∀ x ∈ e.2.2, x.2.2.1.size ≤ 9223372036854775807 ∧ x.2.2.2.length ≤ 1000000000) := hs
  by_cases hbig : m < n
  · have hr : (decide (l.length ≤ m.toNat) && l.all chB) = false := by rw [show decide (l.length ≤ m.toNat) = false by simp; omega]; rfl
    rw [hr]
    clear hn hl hs
    go_enter Try.func55, Try.ntmps55
    go_wp2
    go_ret
    exact ⟨rfl, Below.refl _ _⟩
  · have HR : Hid ((decide (l.length ≤ m.toNat) && l.all chB) = l.all chB) := by show _ = _; rw [show decide (l.length ≤ m.toNat) = true by simp; omega]; rfl
    generalize hR : (decide (l.length ≤ m.toNat) && l.all chB) = R at HR ⊢
    clear hn hl hR hs
    go_enter Try.func55, Try.ntmps55
    go_wp2
    go_loopw [15] (fun t15 wr => ∃ i : Nat, t15 = .int .i64 (i : Int) ∧ i ≤ n ∧ Hid (Below w.heap.size w wr) ∧ Hid (∀ j (hj : j < l.length), j < i → chB l[j] = true)) (fun t15 _ => n - (intOf t15).toNat)
    case atStart => exact ⟨0, rfl, Nat.zero_le _, Below.refl _ _, fun j _ hj => by omega⟩
    case round =>
      obtain ⟨i, rfl, hi, HB, HI⟩ := hrel
      by_cases hin : i < n
      · have hil : i < l.length := by rw [← HN.out]; exact hin
        obtain ⟨x, hx, g0, g1, fa, fc, g3, hf⟩ := (HL.out.below HB.out (Nat.le_refl _)).at hil
        subst hx
        have hsz := HS.out _ (chAt_mem hil)
        have hix := index_ch x n cap i hin
        rw [chAt_get hil] at g0 g1 g3 hf hsz
        generalize x.add (i * 3) = q at g0 g1 g3 hix
        generalize hv : l[i] = v at g0 g1 g3 hf hsz
        have HV : Hid (l[i] = v) := hv
        obtain ⟨v0, v1, v3⟩ := v
        simp only at g0 g1 g3 hf hsz
        obtain ⟨fn, hfn⟩ : ∃ fn, fn = v3.length := ⟨_, rfl⟩
        rw [← hfn] at g3
        have HB2 : Hid (Below wr.heap.size wr (wr.alloc (.cells #[.int .i64 v0, .int .i64 v1, .slice fa fn fc] 61))) := (Below.refl _ _).alloc (Nat.le_refl _) _
        have HC : Hid (Calls _ _ _ _ _) := isChange_any (v0, v1, v3) fa fn fc (wr.alloc (.cells #[.int .i64 v0, .int .i64 v1, .slice fa fn fc] 61)) hfn (hf.below HB2.out (Nat.le_refl _)) (by rw [hfn]; exact hsz.1) hsz.2
        clear hv hf hsz hfn
        cases hb : chB (v0, v1, v3) with
        | false =>
          rw [hb] at HC
          have HF : Hid (l.all chB = false) := all_no hil (by rw [HV.out, hb])
          clear HI
          go_wp2_with (first | (go_at_call 57; refine HC.out.mono ?_; rintro e w1 ⟨rfl, hb1⟩; have HB3 : Hid (Below w.heap.size w w1) := (HB.out.trans (HB2.out.mono HB.out.size)).trans (hb1.mono (Nat.le_trans HB.out.size HB2.out.size))))
          go_ret
          exact ⟨by rw [HR.out, HF.out]; rfl, HB3.out⟩
        | true =>
          rw [hb] at HC
          have HI2 : Hid (∀ j (hj : j < l.length), j < i + 1 → chB l[j] = true) := fun j hj h => by
            by_cases e : j = i
            · subst e; rw [HV.out, hb]
            · exact HI.out j hj (by omega)
          clear HI
          go_wp2_with (first | (go_at_call 57; refine HC.out.mono ?_; rintro e w1 ⟨rfl, hb1⟩; have HB3 : Hid (Below w.heap.size w w1) := (HB.out.trans (HB2.out.mono HB.out.size)).trans (hb1.mono (Nat.le_trans HB.out.size HB2.out.size))))
          go_roundw
          case rel => exact ⟨i + 1, by go_num, by omega, HB3, HI2⟩
          case measure => simp [intOf]; omega
      · have HT : Hid (l.all chB = true) := all_yes fun j hj => HI.out j hj (by have := HN.out; omega)
        go_wp2
        go_ret
        exact ⟨by rw [HR.out, HT.out]; rfl, HB.out⟩
end Go.Proofs.Ytbcemghkmmbmdaa.Msg
