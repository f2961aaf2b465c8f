/-
  A message's bytes, in plain mathematics; proofs and changes written.
-/
import Derived.Test.YtbcemghkmmbmdaaMsWr
namespace Go.Proofs.Ytbcemghkmmbmdaa.Msg
open Go.RowKit Route Order

def nums : List Int → List UInt8
  | [] => []
  | n :: r => digs n.toNat ++ nums r
def encP (e : Pf) : List UInt8 := digs e.1.toNat ++ (digs e.2.1.toNat ++ (txt e.2.2.1 ++ (digs e.2.2.2.length ++ nums e.2.2.2)))
def flatP : List Pf → List UInt8
  | [] => []
  | e :: r => encP e ++ flatP r
def encPs (l : List Pf) : List UInt8 := digs l.length ++ flatP l
def encC (e : Ch) : List UInt8 := digs e.1.toNat ++ (digs e.2.1.toNat ++ encPs e.2.2)
def flatC : List Ch → List UInt8
  | [] => []
  | e :: r => encC e ++ flatC r
/-- A message's bytes. -/
def encM (m : Ms) : List UInt8 := digs m.k.toNat ++ (digs m.f.toNat ++ (digs m.v.toNat ++ (digs m.s.toNat ++ (txt m.b ++ (encPs m.p ++ (digs m.c.length ++ flatC m.c))))))

/-- What may be, as facts. -/
structure PfOk (e : Pf) : Prop where
  v : 0 ≤ e.1 ∧ e.1 ≤ 64
  s : 0 ≤ e.2.1 ∧ e.2.1 ≤ 64
  b : e.2.2.1.size ≤ 4096
  n : e.2.2.2.length ≤ 13
  f : ∀ x ∈ e.2.2.2, 0 ≤ x ∧ x ≤ 12
structure ChOk (e : Ch) : Prop where
  f : 0 ≤ e.1 ∧ e.1 ≤ 12
  v : 0 ≤ e.2.1 ∧ e.2.1 ≤ 64
  n : e.2.2.length ≤ 64
  p : ∀ x ∈ e.2.2, PfOk x
structure MsOk (m : Ms) : Prop where
  k : 1 ≤ m.k ∧ m.k ≤ 7
  f : 0 ≤ m.f ∧ m.f ≤ 12
  v : 0 ≤ m.v ∧ m.v ≤ 64
  s : 0 ≤ m.s ∧ m.s ≤ (if m.k = 7 then 1000 else 64)
  b : m.b.size ≤ 4096
  pn : m.p.length ≤ 64
  pk : m.p = [] ∨ m.k = 5
  p : ∀ x ∈ m.p, PfOk x
  cn : m.c.length ≤ 13
  ck : m.c = [] ∨ m.k = 6
  c : ∀ x ∈ m.c, ChOk x

theorem isIn_iff {n a b : Int} : isIn n a b = true ↔ a ≤ n ∧ n ≤ b := by unfold isIn; simp
theorem pfB_iff {e : Pf} : pfB e = true ↔ PfOk e := by
  unfold pfB
  simp only [Bool.and_eq_true, decide_eq_true_eq, isIn_iff, List.all_eq_true]
  constructor
  · rintro ⟨h1, h2, h3, h4, h5⟩
    exact ⟨h1, h2, h3, h4, fun x hx => isIn_iff.1 (h5 x hx)⟩
  · intro h
    exact ⟨h.v, h.s, h.b, h.n, fun x hx => isIn_iff.2 (h.f x hx)⟩
theorem pfsB_iff {l : List Pf} {m : Nat} : pfsB l m = true ↔ l.length ≤ m ∧ ∀ x ∈ l, PfOk x := by
  unfold pfsB
  simp only [Bool.and_eq_true, decide_eq_true_eq, List.all_eq_true]
  exact ⟨fun h => ⟨h.1, fun x hx => pfB_iff.1 (h.2 x hx)⟩, fun h => ⟨h.1, fun x hx => pfB_iff.2 (h.2 x hx)⟩⟩
theorem chB_iff {e : Ch} : chB e = true ↔ ChOk e := by
  unfold chB nodeB
  simp only [Bool.and_eq_true, isIn_iff, pfsB_iff]
  exact ⟨fun h => ⟨h.1, h.2.1, h.2.2.1, h.2.2.2⟩, fun h => ⟨h.f, h.v, h.n, h.p⟩⟩
theorem mayB_iff {m : Ms} : mayB m = true ↔ MsOk m := by
  unfold mayB
  simp only [Bool.and_eq_true, decide_eq_true_eq, isIn_iff, pfsB_iff, List.all_eq_true]
  constructor
  · rintro ⟨h1, h2, h3, h4, h5, ⟨h6, h7⟩, h8, h9⟩
    refine ⟨h1, h2, h3, h4, h5, by split at h6 <;> omega, ?_, h7, by split at h8 <;> omega, ?_, fun x hx => chB_iff.1 (h9 x hx)⟩
    · by_cases e : m.k = 5
      · exact .inr e
      · rw [if_neg e] at h6; exact .inl (List.eq_nil_of_length_eq_zero (by omega))
    · by_cases e : m.k = 6
      · exact .inr e
      · rw [if_neg e] at h8; exact .inl (List.eq_nil_of_length_eq_zero (by omega))
  · intro h
    refine ⟨h.k, h.f, h.v, h.s, h.b, ⟨?_, h.p⟩, ?_, fun x hx => chB_iff.2 (h.c x hx)⟩
    · rcases h.pk with e | e
      · rw [e]; simp
      · rw [if_pos e]; exact h.pn
    · rcases h.ck with e | e
      · rw [e]; simp
      · rw [if_pos e]; exact h.cn

theorem nums_len {l : List Int} : (nums l).length ≤ 10 * l.length ∨ ∃ x ∈ l, ¬ (0 ≤ x ∧ x ≤ 12) := by
  induction l with
  | nil => exact .inl (by simp [nums])
  | cons n r ih =>
    by_cases hn : 0 ≤ n ∧ n ≤ 12
    · rcases ih with ih | ⟨x, hx, h⟩
      · left
        have := digs_len10 (n := n.toNat) (by omega)
        simp only [nums, List.length_append, List.length_cons]
        omega
      · exact .inr ⟨x, List.mem_cons_of_mem _ hx, h⟩
    · exact .inr ⟨n, List.mem_cons_self .., hn⟩
theorem encP_len {e : Pf} (h : PfOk e) : (encP e).length ≤ 5000 := by
  have h1 := digs_len10 (n := e.1.toNat) (by have := h.v; omega)
  have h2 := digs_len10 (n := e.2.1.toNat) (by have := h.s; omega)
  have h3 := digs_len10 (n := e.2.2.1.size) (by have := h.b; omega)
  have h4 := digs_len10 (n := e.2.2.2.length) (by have := h.n; omega)
  have h5 : (nums e.2.2.2).length ≤ 10 * e.2.2.2.length := by
    rcases nums_len (l := e.2.2.2) with h5 | ⟨x, hx, h5⟩
    · exact h5
    · exact absurd (h.f x hx) h5
  have h6 := h.b
  have h7 := h.n
  unfold encP txt
  simp only [List.length_append, Array.length_toList]
  have : e.2.2.1.data.size = e.2.2.1.size := rfl
  omega
theorem flatP_len {l : List Pf} (h : ∀ x ∈ l, PfOk x) : (flatP l).length ≤ 5000 * l.length := by
  induction l with
  | nil => simp [flatP]
  | cons e r ih =>
    have h1 := encP_len (h e (List.mem_cons_self ..))
    have h2 := ih fun x hx => h x (List.mem_cons_of_mem _ hx)
    simp only [flatP, List.length_append, List.length_cons]
    omega
theorem encC_len {e : Ch} (h : ChOk e) : (encC e).length ≤ 330000 := by
  have h1 := digs_len10 (n := e.1.toNat) (by have := h.f; omega)
  have h2 := digs_len10 (n := e.2.1.toNat) (by have := h.v; omega)
  have h4 := digs_len10 (n := e.2.2.length) (by have := h.n; omega)
  have h5 := flatP_len h.p
  have h7 := h.n
  unfold encC encPs
  simp only [List.length_append]
  omega

theorem nums_take {l : List Int} {j : Nat} (hj : j < l.length) : nums (l.take (j + 1)) = nums (l.take j) ++ digs (l[j]).toNat := by
  induction l generalizing j with
  | nil => simp at hj
  | cons n r ih =>
    cases j with
    | zero => simp [nums]
    | succ j => simp only [List.take_succ_cons, nums, List.getElem_cons_succ]; rw [ih (by simpa using hj), List.append_assoc]
theorem flatP_take {l : List Pf} {j : Nat} (hj : j < l.length) : flatP (l.take (j + 1)) = flatP (l.take j) ++ encP l[j] := by
  induction l generalizing j with
  | nil => simp at hj
  | cons n r ih =>
    cases j with
    | zero => simp [flatP]
    | succ j => simp only [List.take_succ_cons, flatP, List.getElem_cons_succ]; rw [ih (by simpa using hj), List.append_assoc]
theorem flatC_take {l : List Ch} {j : Nat} (hj : j < l.length) : flatC (l.take (j + 1)) = flatC (l.take j) ++ encC l[j] := by
  induction l generalizing j with
  | nil => simp at hj
  | cons n r ih =>
    cases j with
    | zero => simp [flatC]
    | succ j => simp only [List.take_succ_cons, flatC, List.getElem_cons_succ]; rw [ih (by simpa using hj), List.append_assoc]

/-- What lies below the writer's own memory stays while it writes. -/
theorem Wx.far {B p R : Nat} {l : List UInt8} {W0 w : World} {o : Option Nat} (h : Wx B p R l W0 w o) (_ : W0.heap.size ≤ B) : Below B W0 w := h.bel

set_option maxHeartbeats 4000000 in
set_option maxRecDepth 100000 in
theorem wlistI_any {B p R : Nat} {l : List UInt8} {W0 w : World} {o : Option Nat} (h : Wx B p R l W0 w o) (hB : W0.heap.size ≤ B) (a : Option Addr) (n cap : Nat) (L : List Int) (hn : n = L.length) (hl : LiesI W0 a L) (hm : n ≤ 13) (hL : ∀ x ∈ L, 0 ≤ x ∧ x ≤ 12) (hlen : l.length ≤ 40000000) (hR : 60000000 ≤ R) :
    Calls Try.prog 86 #[.pointer (some ⟨p, 0, none⟩), .slice a n cap, .func (.func 58) #[.pointer (some ⟨p, 0, none⟩)] #[]] w fun e w' => e = .returned (.tuple #[]) ∧ Hid (Wrote B p R (l ++ (digs L.length ++ nums L)) W0 w o w') := by
  have HN : Hid (n = L.length) := hn
  have HL : Hid (LiesI W0 a L) := hl
  have HK : Hid (∀ x ∈ L, 0 ≤ x ∧ x ≤ 12) := hL
  have HC : Hid (Calls _ _ _ _ _) := wnum_any h n (by omega) (by omega) hR
  have hd := digs_len10 (n := n) (by omega)
  clear hn hl hL h
  go_enter Try.func86, Try.ntmps86
  go_wp2_with fail
  refine HC.out.mono ?_
  rintro e w1 ⟨rfl, hw⟩
  have HI : Hid (Wrote B p R (l ++ (digs n ++ nums (L.take 0))) W0 w o w1) := by show Wrote _ _ _ _ _ _ _ _; rw [show l ++ (digs n ++ nums (L.take 0)) = l ++ digs n by simp [nums]]; exact hw.out
  clear hw HC
  go_wp2
  go_loopw [14] (fun t14 wr => ∃ i : Nat, t14 = .int .i64 (i : Int) ∧ i ≤ n ∧ Hid (Wrote B p R (l ++ (digs n ++ nums (L.take i))) W0 w o wr)) (fun t14 _ => n - (intOf t14).toNat)
  case atStart => exact ⟨0, rfl, Nat.zero_le _, HI⟩
  case round =>
    clear HI
    obtain ⟨i, rfl, hi, HI⟩ := hrel
    obtain ⟨o1, hx, ht⟩ := HI.out
    have g2 := hx.good
    by_cases hin : i < n
    · have hil : i < L.length := by rw [← HN.out]; exact hin
      obtain ⟨x, hx0, g0⟩ := (HL.out.below hx.bel hB).at hil
      subst hx0
      have hix := index_int x n cap i hin
      rw [inAt_get hil] at g0
      have hv := HK.out _ (List.getElem_mem hil)
      have HT : Hid (nums (L.take (i + 1)) = nums (L.take i) ++ digs (L[i]).toNat) := nums_take hil
      generalize x.add (i * 1) = q at g0 hix
      generalize L[i] = v at g0 hv HT
      obtain ⟨z, rfl⟩ : ∃ z : Nat, v = (z : Int) := ⟨v.toNat, by omega⟩
      have hnl : (nums (L.take i)).length ≤ 10 * i := by
        rcases nums_len (l := L.take i) with h5 | ⟨y, hy, h5⟩
        · rw [List.length_take] at h5; omega
        · exact absurd (HK.out y (List.mem_of_mem_take hy)) h5
      have HC : Hid (Calls _ _ _ _ _) := wnum_any hx z (by omega) (by simp only [List.length_append]; omega) hR
      have HTw : Hid (Tw p o w o1 wr) := ht
      clear hx ht HI hnl
      go_wp2_with (first | (go_at_call 58; refine HC.out.mono ?_; rintro e w2 ⟨rfl, hw⟩))
      have HW2 : Hid (Wrote B p R (l ++ (digs n ++ nums (L.take (i + 1)))) W0 w o w2) := Wrote.then HTw.out hw.out (by rw [HT.out, Int.toNat_natCast]; simp)
      clear hw
      go_roundw
      case rel => exact ⟨i + 1, by go_num, by omega, HW2⟩
      case measure => simp [intOf]; omega
    · have HF : Hid (Wrote B p R (l ++ (digs L.length ++ nums L)) W0 w o wr) := by
        have := HI.out
        rw [List.take_of_length_le (by rw [← HN.out]; omega), HN.out] at this
        exact this
      clear hx ht HI
      go_wp2
      go_end0
      exact ⟨rfl, HF.out⟩
end Go.Proofs.Ytbcemghkmmbmdaa.Msg
