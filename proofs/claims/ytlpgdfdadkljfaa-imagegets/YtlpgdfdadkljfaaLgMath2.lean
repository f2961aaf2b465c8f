/-
  Plain mathematics of the answer's way to read a number: digits are counted, their value is made, and they are held against the number's own bytes. No word of a program.
-/
import Derived.Test.YtlpgdfdadkljfaaLgMath
namespace Go.Proofs.Ytlpgdfdadkljfaa

/-- The value of digits, the lowest first. -/
def val : List UInt8 → Nat
  | [] => 0
  | d :: r => d.toNat % 128 + 128 * val r

theorem digs_shape : ∀ (f n : Nat), n ≤ f → ∃ k, (digs n).length = k + 1 ∧ (∀ i (h : i < (digs n).length), i < k → 128 ≤ ((digs n)[i]).toNat) ∧ (∀ (h : k < (digs n).length), ((digs n)[k]).toNat < 128) ∧ val (digs n) = n
  | 0, n, h => by
    have : n = 0 := by omega
    subst this
    refine ⟨0, by rw [digs_small (by omega)]; rfl, fun i _ h => absurd h (Nat.not_lt_zero _), fun h => ?_, ?_⟩
    · simp only [digs_small (show 0 < 128 by omega)]; simp
    · rw [digs_small (by omega)]; simp [val]
  | f + 1, n, h => by
    by_cases hs : n < 128
    · refine ⟨0, by rw [digs_small hs]; rfl, fun i _ h => absurd h (Nat.not_lt_zero _), fun h => ?_, ?_⟩
      · simp only [digs_small hs, List.getElem_cons_zero]; rw [u8_small (by omega)]; exact hs
      · rw [digs_small hs]; simp only [val]; rw [u8_small (by omega)]; omega
    · obtain ⟨k, h1, h2, h3, h4⟩ := digs_shape f (n / 128) (by omega)
      have e := digs_big hs
      refine ⟨k + 1, by rw [e, List.length_cons, h1], fun i hi hik => ?_, fun hk => ?_, ?_⟩
      · simp only [e]
        cases i with
        | zero => rw [List.getElem_cons_zero, u8_small (by omega)]; omega
        | succ i =>
          rw [List.getElem_cons_succ]
          exact h2 i (by rw [e, List.length_cons] at hi; omega) (by omega)
      · simp only [e, List.getElem_cons_succ]
        exact h3 (by omega)
      · rw [e]; simp only [val, h4]; rw [u8_small (by omega)]; omega

theorem rd_zero : ∀ (l : List UInt8) (i a : Nat), (rd i a l).2 = 0 → rd i a l = (0, 0)
  | [], i, a, _ => rfl
  | d :: r, i, a, h => by
    simp only [rd] at h ⊢
    repeat' split
    all_goals (first | rfl | skip)
    · exact rd_zero r _ _ (by simp_all)
    · simp_all

/-- What was read: as many bytes as there are digits. -/
theorem rd_count {m : List UInt8} {k : Nat} (h : (rd 0 0 m).2 ≠ 0) (hb : ∀ i (hi : i < m.length), i < k → 128 ≤ (m[i]).toNat) : k + 1 ≤ (rd 0 0 m).2 ∧ (rd 0 0 m).2 ≤ 10 ∧ (rd 0 0 m).2 ≤ m.length ∧ digs (rd 0 0 m).1 = m.take (rd 0 0 m).2 ∧ (rd 0 0 m).1 < 18446744073709551616 ∧ (∀ i (hi : i < m.length), i + 1 < (rd 0 0 m).2 → 128 ≤ (m[i]).toNat) := by
  obtain ⟨g1, g2, g3⟩ := rd_written m h
  obtain ⟨q, h1, h2, h3, _⟩ := digs_shape _ (rd 0 0 m).1 (Nat.le_refl _)
  have hle : (rd 0 0 m).2 ≤ m.length := by
    have := congrArg List.length g3
    rw [List.length_take, ← g2] at this
    omega
  have hq : (rd 0 0 m).2 = q + 1 := by omega
  have hget : ∀ i (hi : i < m.length) (hd : i < (digs (rd 0 0 m).1).length), (digs (rd 0 0 m).1)[i] = m[i] := by
    intro i hi hd
    have e1 : (digs (rd 0 0 m).1)[i]? = (m.take (rd 0 0 m).2)[i]? := by rw [← g3]
    rw [List.getElem?_eq_getElem hd, List.getElem?_take, if_pos (by omega), List.getElem?_eq_getElem hi] at e1
    exact Option.some.inj e1
  refine ⟨?_, by rw [g2]; exact digs_len10 g1, hle, g3, g1, fun i hi hiq => ?_⟩
  · refine Nat.le_of_not_lt fun hlt => ?_
    have hqm : q < m.length := by omega
    have := hb q hqm (by omega)
    have h4 := h3 (by omega)
    rw [hget q hqm (by omega)] at h4
    omega
  · have := h2 i (by omega) (by omega)
    rw [hget i hi (by omega)] at this
    exact this

/-- No digit ends the number in time. -/
theorem rd_ref_none {m : List UInt8} {k : Nat} (hb : ∀ i (hi : i < m.length), i < k → 128 ≤ (m[i]).toNat) (h : m.length ≤ k ∨ 10 ≤ k) : rd 0 0 m = (0, 0) := by
  refine rd_zero m 0 0 (Classical.byContradiction fun hne => ?_)
  obtain ⟨h1, h2, h3, _⟩ := rd_count hne hb
  omega

/-- One does. -/
theorem rd_ref_some {m : List UInt8} {k v : Nat} (hb : ∀ i (hi : i < m.length), i < k → 128 ≤ (m[i]).toNat) (hk : k < m.length) (hl : (m[k]).toNat < 128) (hv : v = val (m.take (k + 1)) % 18446744073709551616) :
    (digs v = m.take (k + 1) → rd 0 0 m = (v, k + 1)) ∧ (digs v ≠ m.take (k + 1) → rd 0 0 m = (0, 0)) := by
  constructor
  · intro e
    have hv2 : v < 18446744073709551616 := by rw [hv]; exact Nat.mod_lt _ (by decide)
    have := rd_back hv2 (m.drop (k + 1))
    rw [e, List.take_append_drop] at this
    rw [this, List.length_take]
    congr 1
    omega
  · intro hne
    refine rd_zero m 0 0 (Classical.byContradiction fun hz => ?_)
    obtain ⟨h1, h2, h3, h4, h5, h6⟩ := rd_count hz hb
    have e : (rd 0 0 m).2 = k + 1 := by
      refine Nat.le_antisymm (Nat.le_of_not_lt fun hlt => ?_) h1
      have := h6 k hk (by omega)
      omega
    rw [e] at h4
    obtain ⟨_, _, _, _, h7⟩ := digs_shape _ (rd 0 0 m).1 (Nat.le_refl _)
    rw [h4] at h7
    have hv2 : v = (rd 0 0 m).1 := by rw [hv, h7, Nat.mod_eq_of_lt h5]
    exact hne (by rw [hv2]; exact h4)

theorem val_step (l : List UInt8) (i : Nat) (h : i < l.length) (u : Nat) (hu : u = val (l.drop (i + 1)) % 18446744073709551616) : (u * 128 + (l[i]).toNat % 128) % 18446744073709551616 = val (l.drop i) % 18446744073709551616 := by
  rw [List.drop_eq_getElem_cons h, val, hu]
  omega
end Go.Proofs.Ytlpgdfdadkljfaa
