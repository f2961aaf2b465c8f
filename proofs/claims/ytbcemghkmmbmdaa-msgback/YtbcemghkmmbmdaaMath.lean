/-
  Plain mathematics of the wire's numbers: a number's digits ('digs'), what is read of bytes ('rd'), that each is the other's way back. No word of a program.
-/
namespace Go.Proofs.Ytbcemghkmmbmdaa

/-- A number's bytes, the lowest seven bits first; f: how many steps there may be. -/
def digsF : Nat → Nat → List UInt8
  | 0, n => [UInt8.ofNat n]
  | f + 1, n => if n < 128 then [UInt8.ofNat n] else UInt8.ofNat (n % 128 + 128) :: digsF f (n / 128)

theorem digsF_enough : ∀ (f g n : Nat), n ≤ f → n ≤ g → digsF f n = digsF g n
  | 0, 0, n, _, _ => rfl
  | 0, g + 1, n, h, _ => by rw [digsF, digsF, if_pos (by omega)]
  | f + 1, 0, n, _, h => by rw [digsF, digsF, if_pos (by omega)]
  | f + 1, g + 1, n, hf, hg => by
    rw [digsF, digsF]
    by_cases h : n < 128
    · rw [if_pos h, if_pos h]
    · rw [if_neg h, if_neg h, digsF_enough f g (n / 128) (by omega) (by omega)]

/-- A number's bytes, the lowest seven bits first. -/
def digs (n : Nat) : List UInt8 := digsF n n

theorem digs_small {n : Nat} (h : n < 128) : digs n = [UInt8.ofNat n] := by
  unfold digs
  cases n with
  | zero => rfl
  | succ k => rw [digsF, if_pos h]
theorem digs_big {n : Nat} (h : ¬ n < 128) : digs n = UInt8.ofNat (n % 128 + 128) :: digs (n / 128) := by
  unfold digs
  cases n with
  | zero => omega
  | succ k => rw [digsF, if_neg h, digsF_enough k ((k + 1) / 128) _ (by omega) (Nat.le_refl _)]

theorem digs_pos (n : Nat) : 1 ≤ (digs n).length := by
  by_cases h : n < 128
  · rw [digs_small h]; simp
  · rw [digs_big h]; simp

theorem digs_len (k : Nat) : ∀ n, n < 128 ^ (k + 1) → (digs n).length ≤ k + 1 := by
  induction k with
  | zero => intro n h; rw [digs_small (by simpa using h)]; simp
  | succ k ih =>
    intro n h
    by_cases hn : n < 128
    · rw [digs_small hn]; simp
    · rw [digs_big hn]
      have : n / 128 < 128 ^ (k + 1) := by
        apply Nat.div_lt_of_lt_mul
        rw [Nat.pow_succ] at h
        rw [Nat.mul_comm]; exact h
      have := ih _ this
      simp only [List.length_cons]; omega

theorem digs_len10 {n : Nat} (h : n < 18446744073709551616) : (digs n).length ≤ 10 := digs_len 9 n (by
  have : (128 : Nat) ^ (9 + 1) = 1180591620717411303424 := by decide
  omega)

/-- What is read at the front of bytes, i digits that make a being behind: the number and the place behind it; (0, 0): none. -/
def rd : Nat → Nat → List UInt8 → Nat × Nat
  | _, _, [] => (0, 0)
  | i, a, d :: r =>
    if 10 ≤ i then (0, 0)
    else if i = 9 ∧ 1 < d.toNat then (0, 0)
    else if 128 ≤ d.toNat then rd (i + 1) (a + d.toNat % 128 * 2 ^ (7 * i)) r
    else if d.toNat = 0 ∧ 0 < i then (0, 0)
    else (a + d.toNat % 128 * 2 ^ (7 * i), i + 1)

theorem u8_small {n : Nat} (h : n < 256) : (UInt8.ofNat n).toNat = n := by
  simp [UInt8.toNat_ofNat']; omega

theorem pow7_succ (i : Nat) : 2 ^ (7 * (i + 1)) = 128 * 2 ^ (7 * i) := by
  rw [show 7 * (i + 1) = 7 * i + 7 by omega, Nat.pow_add, Nat.mul_comm]

/-- What was written is read. -/
theorem rd_digs : ∀ (k i a m : Nat) (more : List UInt8), i + k = 10 → m * 2 ^ (7 * i) < 18446744073709551616 → (i = 0 ∨ 0 < m) → rd i a (digs m ++ more) = (a + m * 2 ^ (7 * i), i + (digs m).length) := by
  intro k
  induction k with
  | zero =>
    intro i a m more hi hm h0
    have : i = 10 := by omega
    subst this
    have : 0 < m := by omega
    have h2 : (2 : Nat) ^ (7 * 10) = 1180591620717411303424 := by decide
    rw [h2] at hm
    omega
  | succ k ih =>
    intro i a m more hi hm h0
    have hi9 : ¬ 10 ≤ i := by omega
    by_cases hs : m < 128
    · rw [digs_small hs]
      have h1 : (UInt8.ofNat m).toNat = m := u8_small (by omega)
      have h9 : ¬ (i = 9 ∧ 1 < m) := by
        rintro ⟨rfl, h⟩
        have h2 : (2 : Nat) ^ (7 * 9) = 9223372036854775808 := by decide
        rw [h2] at hm
        omega
      have hz : ¬ (m = 0 ∧ 0 < i) := by omega
      have hb : ¬ 128 ≤ m := by omega
      have hmod : m % 128 = m := Nat.mod_eq_of_lt hs
      simp only [List.cons_append, List.nil_append, rd, h1, hi9, h9, hb, hz, hmod, if_false, List.length_cons, List.length_nil]
    · rw [digs_big hs]
      have h1 : (UInt8.ofNat (m % 128 + 128)).toNat = m % 128 + 128 := u8_small (by omega)
      have h9 : ¬ (i = 9 ∧ 1 < m % 128 + 128) := by
        rintro ⟨rfl, _⟩
        have h2 : (2 : Nat) ^ (7 * 9) = 9223372036854775808 := by decide
        rw [h2] at hm
        omega
      have hb : 128 ≤ m % 128 + 128 := by omega
      have hmod : (m % 128 + 128) % 128 = m % 128 := by omega
      simp only [List.cons_append, rd, h1, hi9, h9, hb, hmod, if_false, if_true, List.length_cons]
      have hdiv : m / 128 * 2 ^ (7 * (i + 1)) ≤ m * 2 ^ (7 * i) := by
        rw [pow7_succ, ← Nat.mul_assoc]
        exact Nat.mul_le_mul_right _ (Nat.div_mul_le_self m 128)
      rw [ih (i + 1) _ (m / 128) more (by omega) (by omega) (by omega)]
      have e : m % 128 * 2 ^ (7 * i) + m / 128 * 2 ^ (7 * (i + 1)) = m * 2 ^ (7 * i) := by
        rw [pow7_succ, ← Nat.mul_assoc, ← Nat.add_mul]
        congr 1
        omega
      refine Prod.ext ?_ ?_
      · show a + m % 128 * 2 ^ (7 * i) + m / 128 * 2 ^ (7 * (i + 1)) = a + m * 2 ^ (7 * i)
        omega
      · show i + 1 + (digs (m / 128)).length = i + ((digs (m / 128)).length + 1)
        omega

theorem rd_back {n : Nat} (h : n < 18446744073709551616) (more : List UInt8) : rd 0 0 (digs n ++ more) = (n, (digs n).length) := by
  have := rd_digs 10 0 0 n more rfl (by simpa using h) (Or.inl rfl)
  simpa using this

/-- What was read is written as those bytes. -/
theorem rd_take : ∀ (k i a : Nat) (l : List UInt8), i + k = 10 → (rd i a l).2 ≠ 0 →
    ∃ m, (rd i a l).1 = a + m * 2 ^ (7 * i) ∧ (i = 0 ∨ 0 < m) ∧ m * 2 ^ (7 * i) < 18446744073709551616 ∧ (rd i a l).2 = i + (digs m).length ∧ digs m = l.take (digs m).length := by
  intro k
  induction k with
  | zero =>
    intro i a l hi h
    have : i = 10 := by omega
    subst this
    cases l <;> simp [rd] at h
  | succ k ih =>
    intro i a l hi h
    have hi9 : ¬ 10 ≤ i := by omega
    cases l with
    | nil => simp [rd] at h
    | cons d r =>
      have hd := d.toNat_lt
      by_cases h9 : i = 9 ∧ 1 < d.toNat
      · simp [rd, h9] at h
      by_cases hb : 128 ≤ d.toNat
      · have h9' : i ≠ 9 := by omega
        have e : rd i a (d :: r) = rd (i + 1) (a + d.toNat % 128 * 2 ^ (7 * i)) r := by simp only [rd, hi9, h9, hb, if_false, if_true]
        rw [e] at h ⊢
        obtain ⟨m, h1, h2, h3, h4, h5⟩ := ih (i + 1) _ r (by omega) h
        have hm : 0 < m := by omega
        rw [pow7_succ] at h1 h3
        have ed : (d.toNat % 128 + 128 * m) % 128 + 128 = d.toNat := by omega
        have eq : (d.toNat % 128 + 128 * m) / 128 = m := by omega
        have hD : digs (d.toNat % 128 + 128 * m) = d :: digs m := by
          rw [digs_big (by omega), ed, eq]
          simp
        refine ⟨d.toNat % 128 + 128 * m, ?_, Or.inr (by omega), ?_, ?_, ?_⟩
        · rw [h1, Nat.add_mul, Nat.add_assoc, Nat.mul_comm 128 m, Nat.mul_assoc]
        · have hp : 2 ^ (7 * i) ≤ 2 ^ (7 * 8) := Nat.pow_le_pow_right (by decide) (by omega)
          have hq : 128 * 2 ^ (7 * i) ∣ 18446744073709551616 := by
            rw [← pow7_succ]
            exact Nat.pow_dvd_pow 2 (show 7 * (i + 1) ≤ 64 by omega)
          obtain ⟨c, hc⟩ := hq
          rw [Nat.mul_comm m, hc] at h3
          have hmc : m < c := Nat.lt_of_mul_lt_mul_left h3
          rw [hc]
          have hle : (d.toNat % 128 + 128 * m) * 2 ^ (7 * i) < 128 * c * 2 ^ (7 * i) := by
            apply Nat.mul_lt_mul_of_pos_right _ (Nat.two_pow_pos _)
            omega
          calc (d.toNat % 128 + 128 * m) * 2 ^ (7 * i) < 128 * c * 2 ^ (7 * i) := hle
            _ = 128 * 2 ^ (7 * i) * c := by rw [Nat.mul_assoc, Nat.mul_comm c, Nat.mul_assoc]
        · rw [h4, hD]; simp; omega
        · rw [hD]; simp only [List.length_cons, List.take_succ_cons]; rw [← h5]
      · by_cases hz : d.toNat = 0 ∧ 0 < i
        · exact absurd (by simp [rd, hz, hi9]) h
        · have e : rd i a (d :: r) = (a + d.toNat % 128 * 2 ^ (7 * i), i + 1) := by simp only [rd, hi9, h9, hb, hz, if_false]
          rw [e]
          have hmod : d.toNat % 128 = d.toNat := Nat.mod_eq_of_lt (by omega)
          have hD : digs d.toNat = [d] := by rw [digs_small (by omega)]; simp
          refine ⟨d.toNat, by rw [hmod], by omega, ?_, by rw [hD]; simp, by rw [hD]; simp⟩
          by_cases h99 : i = 9
          · subst h99
            have h2 : (2 : Nat) ^ (7 * 9) = 9223372036854775808 := by decide
            rw [h2]; omega
          · have hp : 2 ^ (7 * i) ≤ 2 ^ (7 * 8) := Nat.pow_le_pow_right (by decide) (by omega)
            have h2 : (2 : Nat) ^ (7 * 8) = 72057594037927936 := by decide
            rw [h2] at hp
            have := Nat.mul_le_mul (show d.toNat ≤ 127 by omega) hp
            omega

theorem rd_written (l : List UInt8) (h : (rd 0 0 l).2 ≠ 0) : (rd 0 0 l).1 < 18446744073709551616 ∧ (rd 0 0 l).2 = (digs (rd 0 0 l).1).length ∧ digs (rd 0 0 l).1 = l.take (rd 0 0 l).2 := by
  obtain ⟨m, h1, _, h3, h4, h5⟩ := rd_take 10 0 0 l rfl h
  have e : (rd 0 0 l).1 = m := by simpa using h1
  have e2 : (rd 0 0 l).2 = (digs m).length := by simpa using h4
  rw [e]
  exact ⟨by simpa using h3, e2, by rw [e2]; exact h5⟩

end Go.Proofs.Ytbcemghkmmbmdaa
