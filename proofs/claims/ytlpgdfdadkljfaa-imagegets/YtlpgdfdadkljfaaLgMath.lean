/-
  Plain mathematics of a log's records: a record's bytes, records laid one behind the other, what stands whole at the front of bytes. No word of a program.
-/
import Derived.Test.YtlpgdfdadkljfaaMgA
namespace Go.Proofs.Ytlpgdfdadkljfaa

/-- A record's bytes. -/
def rec1 (b : List UInt8) : List UInt8 := digs b.length ++ b
def Good (b : List UInt8) : Prop := 1 ≤ b.length ∧ b.length ≤ 65536
/-- Records, one behind the other. -/
def laid : List (List UInt8) → List UInt8
  | [] => []
  | b :: r => rec1 b ++ laid r

theorem laid_app : ∀ (a b : List (List UInt8)), laid (a ++ b) = laid a ++ laid b
  | [], b => rfl
  | x :: a, b => by simp [laid, laid_app a b]
theorem laid_one (b : List UInt8) : laid [b] = rec1 b := by simp [laid]
theorem laid_snoc (a : List (List UInt8)) (b : List UInt8) : laid (a ++ [b]) = laid a ++ rec1 b := by rw [laid_app, laid_one]
theorem rec1_len (b : List UInt8) : (rec1 b).length = (digs b.length).length + b.length := by simp [rec1]
theorem laid_count : ∀ (rs : List (List UInt8)), rs.length ≤ (laid rs).length
  | [] => Nat.zero_le _
  | b :: r => by
    have := laid_count r
    have := digs_pos b.length
    simp only [laid, List.length_append, rec1_len, List.length_cons]
    omega

/-- Does a whole record stand at the front? -/
def whole (l : List UInt8) : Bool := decide (0 < (rd 0 0 l).2 ∧ 1 ≤ (rd 0 0 l).1 ∧ (rd 0 0 l).1 ≤ 65536 ∧ (rd 0 0 l).2 + (rd 0 0 l).1 ≤ l.length)

/-- The records at the front, f at most. -/
def recsF : Nat → List UInt8 → List (List UInt8)
  | 0, _ => []
  | f + 1, l => if whole l = true then (l.drop (rd 0 0 l).2).take (rd 0 0 l).1 :: recsF f (l.drop ((rd 0 0 l).2 + (rd 0 0 l).1)) else []

theorem whole_nil : whole [] = false := by simp [whole, rd]

theorem recsF_enough : ∀ (f g : Nat) (l : List UInt8), l.length ≤ f → l.length ≤ g → recsF f l = recsF g l
  | 0, 0, l, _, _ => rfl
  | 0, g + 1, l, h, _ => by
    have : l = [] := List.eq_nil_of_length_eq_zero (by omega)
    subst this; rw [recsF, recsF, whole_nil, if_neg (by decide)]
  | f + 1, 0, l, _, h => by
    have : l = [] := List.eq_nil_of_length_eq_zero (by omega)
    subst this; rw [recsF, recsF, whole_nil, if_neg (by decide)]
  | f + 1, g + 1, l, hf, hg => by
    rw [recsF, recsF]
    by_cases h : whole l = true
    · rw [if_pos h, if_pos h]
      have hw := h
      simp only [whole, decide_eq_true_eq] at hw
      rw [recsF_enough f g _ (by rw [List.length_drop]; omega) (by rw [List.length_drop]; omega)]
    · rw [if_neg h, if_neg h]

/-- The whole records at the front. -/
def recs (l : List UInt8) : List (List UInt8) := recsF l.length l
/-- Where they end. -/
def ends (l : List UInt8) : Nat := (laid (recs l)).length

theorem recs_no {l : List UInt8} (h : whole l = false) : recs l = [] := by
  unfold recs
  cases hl : l.length with
  | zero => rfl
  | succ n => rw [recsF, if_neg (by rw [h]; decide)]

theorem recs_yes {l : List UInt8} (h : whole l = true) : recs l = (l.drop (rd 0 0 l).2).take (rd 0 0 l).1 :: recs (l.drop ((rd 0 0 l).2 + (rd 0 0 l).1)) := by
  have hw := h
  simp only [whole, decide_eq_true_eq] at hw
  unfold recs
  cases hl : l.length with
  | zero => omega
  | succ n =>
    rw [recsF, if_pos h]
    congr 1
    exact recsF_enough _ _ _ (by rw [List.length_drop]; omega) (Nat.le_refl _)

theorem rd_rec {b x : List UInt8} (h : Good b) : rd 0 0 (rec1 b ++ x) = (b.length, (digs b.length).length) := by
  have := rd_back (n := b.length) (by have := h.2; omega) (b ++ x)
  rw [rec1, List.append_assoc]; exact this

theorem whole_rec {b x : List UInt8} (h : Good b) : whole (rec1 b ++ x) = true := by
  have := digs_pos b.length
  have h1 := h.1
  have h2 := h.2
  simp only [whole, rd_rec h, decide_eq_true_eq, List.length_append, rec1_len]
  omega

theorem recs_rec {b x : List UInt8} (h : Good b) : recs (rec1 b ++ x) = b :: recs x := by
  rw [recs_yes (whole_rec h), rd_rec h]
  have e1 : (rec1 b ++ x).drop (digs b.length).length = b ++ x := by rw [rec1, List.append_assoc, List.drop_left]
  have e2 : (rec1 b ++ x).drop ((digs b.length).length + b.length) = x := by rw [← rec1_len, List.drop_left]
  simp only [e1, e2, List.take_left]

theorem recs_laid : ∀ (rs : List (List UInt8)) (x : List UInt8), (∀ b ∈ rs, Good b) → recs (laid rs ++ x) = rs ++ recs x
  | [], x, _ => rfl
  | b :: r, x, h => by
    rw [laid, List.append_assoc, recs_rec (h b (by simp)), recs_laid r x (fun c hc => h c (by simp [hc]))]
    rfl

/-- A whole record at the front: what it is. -/
theorem whole_front {l : List UInt8} {r1 r2 : Nat} (hr : rd 0 0 l = (r1, r2)) (h2 : 0 < r2) (h1 : 1 ≤ r1) (hm : r1 ≤ 65536) (hl : r2 + r1 ≤ l.length) :
    Good ((l.drop r2).take r1) ∧ l = rec1 ((l.drop r2).take r1) ++ l.drop (r2 + r1) ∧ (rec1 ((l.drop r2).take r1)).length = r2 + r1 := by
  obtain ⟨_, g2, g3⟩ := rd_written l (by rw [hr]; simp; omega)
  rw [hr] at g2 g3
  simp only at g2 g3
  have hlen : ((l.drop r2).take r1).length = r1 := by rw [List.length_take, List.length_drop]; omega
  refine ⟨⟨by omega, by omega⟩, ?_, by rw [rec1_len, hlen]; omega⟩
  rw [rec1, hlen, g3, List.append_assoc, ← List.drop_drop, List.take_append_drop, List.take_append_drop]

/-- Of l the records rs have been read, up to p. -/
structure At (l : List UInt8) (rs : List (List UInt8)) (p : Nat) : Prop where
  eq : l = laid rs ++ l.drop p
  len : p = (laid rs).length
  good : ∀ b ∈ rs, Good b

theorem At.zero (l : List UInt8) : At l [] 0 := ⟨by simp [laid], rfl, by simp⟩

theorem At.le {l : List UInt8} {rs : List (List UInt8)} {p : Nat} (h : At l rs p) : p ≤ l.length := by
  have := congrArg List.length h.eq
  rw [List.length_append, ← h.len] at this
  omega

theorem At.step {l : List UInt8} {rs : List (List UInt8)} {p r1 r2 : Nat} (h : At l rs p) (hr : rd 0 0 (l.drop p) = (r1, r2)) (h2 : 0 < r2) (h1 : 1 ≤ r1) (hm : r1 ≤ 65536) (hl : p + r2 + r1 ≤ l.length) :
    At l (rs ++ [(l.drop (p + r2)).take r1]) (p + r2 + r1) := by
  obtain ⟨g1, g2, g3⟩ := whole_front hr h2 h1 hm (by rw [List.length_drop]; omega)
  rw [List.drop_drop] at g1 g2 g3
  refine ⟨?_, by rw [laid_snoc, List.length_append, g3, ← h.len]; omega, fun b hb => ?_⟩
  · rw [List.drop_drop, show p + (r2 + r1) = p + r2 + r1 by omega] at g2
    have e := h.eq
    rw [g2] at e
    rw [laid_snoc, List.append_assoc]
    exact e
  · rcases List.mem_append.1 hb with hb | hb
    · exact h.good b hb
    · simp only [List.mem_singleton] at hb; subst hb; exact g1

theorem At.recs {l : List UInt8} {rs : List (List UInt8)} {p : Nat} (h : At l rs p) : recs l = rs ++ recs (l.drop p) := by
  have := recs_laid rs (l.drop p) h.good
  rw [← h.eq] at this
  exact this

theorem At.stop {l : List UInt8} {rs : List (List UInt8)} {p : Nat} (h : At l rs p) (hw : whole (l.drop p) = false) : Go.Proofs.Ytlpgdfdadkljfaa.recs l = rs ∧ ends l = p := by
  have := h.recs
  rw [recs_no hw, List.append_nil] at this
  exact ⟨this, by rw [ends, this, h.len]⟩

/-- All of it, at once. -/
theorem at_all : ∀ (f : Nat) (l : List UInt8), l.length ≤ f → ∃ x, l = laid (recs l) ++ x ∧ ∀ b ∈ recs l, Good b
  | 0, l, h => by
    have : l = [] := List.eq_nil_of_length_eq_zero (by omega)
    subst this; exact ⟨[], rfl, by intro b hb; simp [recs, recsF] at hb⟩
  | f + 1, l, h => by
    by_cases hw : whole l = true
    · have hw' := hw
      simp only [whole, decide_eq_true_eq] at hw'
      obtain ⟨a1, a2, a3, a4⟩ := hw'
      obtain ⟨g1, g2, _⟩ := whole_front (l := l) rfl a1 a2 a3 a4
      obtain ⟨x, e, hg⟩ := at_all f (l.drop ((rd 0 0 l).2 + (rd 0 0 l).1)) (by rw [List.length_drop]; omega)
      refine ⟨x, ?_, ?_⟩
      · rw [recs_yes hw, laid, List.append_assoc, ← e]; exact g2
      · rw [recs_yes hw]
        intro b hb
        rcases List.mem_cons.1 hb with rfl | hb
        · exact g1
        · exact hg b hb
    · have hw' : whole l = false := by simpa using hw
      exact ⟨l, by rw [recs_no hw']; rfl, by rw [recs_no hw']; simp⟩

theorem recs_good (l : List UInt8) : ∀ b ∈ recs l, Good b := (at_all l.length l (Nat.le_refl _)).choose_spec.2
theorem take_ends (l : List UInt8) : l.take (ends l) = laid (recs l) := by
  obtain ⟨x, e, _⟩ := at_all l.length l (Nat.le_refl _)
  have : l.take (ends l) = (laid (recs l) ++ x).take (laid (recs l)).length := by rw [← e]; rfl
  rw [this, List.take_left]
theorem ends_le (l : List UInt8) : ends l ≤ l.length := by
  obtain ⟨x, e, _⟩ := at_all l.length l (Nat.le_refl _)
  have := congrArg List.length e
  rw [List.length_append] at this
  unfold ends; omega
theorem recs_count (l : List UInt8) : (recs l).length ≤ l.length := Nat.le_trans (laid_count _) (ends_le l)
theorem recs_back {rs : List (List UInt8)} (h : ∀ b ∈ rs, Good b) : recs (laid rs) = rs := by
  have := recs_laid rs [] h
  rw [List.append_nil, recs_no whole_nil, List.append_nil] at this
  exact this
theorem ends_back {rs : List (List UInt8)} (h : ∀ b ∈ rs, Good b) : ends (laid rs) = (laid rs).length := by rw [ends, recs_back h]

/-- A record that is torn ahead of its last byte is none. -/
theorem whole_torn {b : List UInt8} (hb : Good b) {t : Nat} (ht : t < (rec1 b).length) : whole ((rec1 b).take t) = false := by
  rw [rec1_len] at ht
  by_cases hd : t < (digs b.length).length
  · have e : (rec1 b).take t = (digs b.length).take t := by
      rw [rec1, List.take_append, Nat.sub_eq_zero_of_le (by omega), List.take_zero, List.append_nil]
    have h0 : (rd 0 0 ((rec1 b).take t)).2 = 0 := by
      rw [e]
      refine Classical.byContradiction fun hne => ?_
      obtain ⟨g1, g2, g3⟩ := rd_written _ hne
      have hle : (rd 0 0 ((digs b.length).take t)).2 ≤ t := by
        have := congrArg List.length g3
        rw [List.length_take, List.length_take] at this
        omega
      have hp : digs b.length = digs (rd 0 0 ((digs b.length).take t)).1 ++ (digs b.length).drop (rd 0 0 ((digs b.length).take t)).2 := by
        have : digs (rd 0 0 ((digs b.length).take t)).1 = (digs b.length).take (rd 0 0 ((digs b.length).take t)).2 := by
          rw [g3, List.take_take, Nat.min_eq_left hle]
        rw [this, List.take_append_drop]
      have r1 := rd_back g1 ((digs b.length).drop (rd 0 0 ((digs b.length).take t)).2)
      rw [← hp] at r1
      have r2 := rd_back (n := b.length) (by have := hb.2; omega) []
      rw [List.append_nil, r1] at r2
      simp only [Prod.mk.injEq] at r2
      omega
    simp [whole, h0]
  · have e : (rec1 b).take t = digs b.length ++ b.take (t - (digs b.length).length) := by
      rw [rec1, List.take_append, List.take_of_length_le (by omega)]
    have hr := rd_back (n := b.length) (by have := hb.2; omega) (b.take (t - (digs b.length).length))
    rw [← e] at hr
    have hl : ((rec1 b).take t).length = t := by rw [List.length_take, rec1_len]; omega
    simp only [whole, hr, hl, decide_eq_false_iff_not]
    omega
end Go.Proofs.Ytlpgdfdadkljfaa
