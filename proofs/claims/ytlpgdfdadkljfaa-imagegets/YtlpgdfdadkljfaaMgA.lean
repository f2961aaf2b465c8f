/-
  Contracts that the walks stand on, several texts in one: Math, RtMath, ChMath, OrMath, OrMay.
-/
import Derived.Laws.RangeAny
import Derived.Lib.Join

/-
  Plain mathematics of the wire's numbers: a number's digits ('digs'), what is read of bytes ('rd'), that each is the other's way back. No word of a program.
-/
namespace Go.Proofs.Ytlpgdfdadkljfaa

/-- A number's bytes, the lowest seven bits first; f: how many steps there may be. -/
def digsF : Nat → Nat → List UInt8
  | 0, n => [UInt8.ofNat n]
  | f + 1, n => if n < 128 then [UInt8.ofNat n] else UInt8.ofNat (n % 128 + 128) :: digsF f (n / 128)

theorem digsF_enough : ∀ (f g n : Nat), n ≤ f → n ≤ g → digsF f n = digsF g n
  | 0, 0, n, _, _ => rfl
  | 0, g + 1, n, h, _ => by rw [digsF, digsF, if_pos (by omega)]
  | f + 1, 0, n, _, h => by rw [digsF, digsF, if_pos (by omega)]
  | f + 1, g + 1, n, hf, hg => by
    rw [digsF, digsF]
    by_cases h : n < 128
    · rw [if_pos h, if_pos h]
    · rw [if_neg h, if_neg h, digsF_enough f g (n / 128) (by omega) (by omega)]

/-- A number's bytes, the lowest seven bits first. -/
def digs (n : Nat) : List UInt8 := digsF n n

theorem digs_small {n : Nat} (h : n < 128) : digs n = [UInt8.ofNat n] := by
  unfold digs
  cases n with
  | zero => rfl
  | succ k => rw [digsF, if_pos h]
theorem digs_big {n : Nat} (h : ¬ n < 128) : digs n = UInt8.ofNat (n % 128 + 128) :: digs (n / 128) := by
  unfold digs
  cases n with
  | zero => omega
  | succ k => rw [digsF, if_neg h, digsF_enough k ((k + 1) / 128) _ (by omega) (Nat.le_refl _)]

theorem digs_pos (n : Nat) : 1 ≤ (digs n).length := by
  by_cases h : n < 128
  · rw [digs_small h]; simp
  · rw [digs_big h]; simp

theorem digs_len (k : Nat) : ∀ n, n < 128 ^ (k + 1) → (digs n).length ≤ k + 1 := by
  induction k with
  | zero => intro n h; rw [digs_small (by simpa using h)]; simp
  | succ k ih =>
    intro n h
    by_cases hn : n < 128
    · rw [digs_small hn]; simp
    · rw [digs_big hn]
      have : n / 128 < 128 ^ (k + 1) := by
        apply Nat.div_lt_of_lt_mul
        rw [Nat.pow_succ] at h
        rw [Nat.mul_comm]; exact h
      have := ih _ this
      simp only [List.length_cons]; omega

theorem digs_len10 {n : Nat} (h : n < 18446744073709551616) : (digs n).length ≤ 10 := digs_len 9 n (by
  have : (128 : Nat) ^ (9 + 1) = 1180591620717411303424 := by decide
  omega)

/-- What is read at the front of bytes, i digits that make a being behind: the number and the place behind it; (0, 0): none. -/
def rd : Nat → Nat → List UInt8 → Nat × Nat
  | _, _, [] => (0, 0)
  | i, a, d :: r =>
    if 10 ≤ i then (0, 0)
    else if i = 9 ∧ 1 < d.toNat then (0, 0)
    else if 128 ≤ d.toNat then rd (i + 1) (a + d.toNat % 128 * 2 ^ (7 * i)) r
    else if d.toNat = 0 ∧ 0 < i then (0, 0)
    else (a + d.toNat % 128 * 2 ^ (7 * i), i + 1)

theorem u8_small {n : Nat} (h : n < 256) : (UInt8.ofNat n).toNat = n := by
  simp [UInt8.toNat_ofNat']; omega

theorem pow7_succ (i : Nat) : 2 ^ (7 * (i + 1)) = 128 * 2 ^ (7 * i) := by
  rw [show 7 * (i + 1) = 7 * i + 7 by omega, Nat.pow_add, Nat.mul_comm]

/-- What was written is read. -/
theorem rd_digs : ∀ (k i a m : Nat) (more : List UInt8), i + k = 10 → m * 2 ^ (7 * i) < 18446744073709551616 → (i = 0 ∨ 0 < m) → rd i a (digs m ++ more) = (a + m * 2 ^ (7 * i), i + (digs m).length) := by
  intro k
  induction k with
  | zero =>
    intro i a m more hi hm h0
    have : i = 10 := by omega
    subst this
    have : 0 < m := by omega
    have h2 : (2 : Nat) ^ (7 * 10) = 1180591620717411303424 := by decide
    rw [h2] at hm
    omega
  | succ k ih =>
    intro i a m more hi hm h0
    have hi9 : ¬ 10 ≤ i := by omega
    by_cases hs : m < 128
    · rw [digs_small hs]
      have h1 : (UInt8.ofNat m).toNat = m := u8_small (by omega)
      have h9 : ¬ (i = 9 ∧ 1 < m) := by
        rintro ⟨rfl, h⟩
        have h2 : (2 : Nat) ^ (7 * 9) = 9223372036854775808 := by decide
        rw [h2] at hm
        omega
      have hz : ¬ (m = 0 ∧ 0 < i) := by omega
      have hb : ¬ 128 ≤ m := by omega
      have hmod : m % 128 = m := Nat.mod_eq_of_lt hs
      simp only [List.cons_append, List.nil_append, rd, h1, hi9, h9, hb, hz, hmod, if_false, List.length_cons, List.length_nil]
    · rw [digs_big hs]
      have h1 : (UInt8.ofNat (m % 128 + 128)).toNat = m % 128 + 128 := u8_small (by omega)
      have h9 : ¬ (i = 9 ∧ 1 < m % 128 + 128) := by
        rintro ⟨rfl, _⟩
        have h2 : (2 : Nat) ^ (7 * 9) = 9223372036854775808 := by decide
        rw [h2] at hm
        omega
      have hb : 128 ≤ m % 128 + 128 := by omega
      have hmod : (m % 128 + 128) % 128 = m % 128 := by omega
      simp only [List.cons_append, rd, h1, hi9, h9, hb, hmod, if_false, if_true, List.length_cons]
      have hdiv : m / 128 * 2 ^ (7 * (i + 1)) ≤ m * 2 ^ (7 * i) := by
        rw [pow7_succ, ← Nat.mul_assoc]
        exact Nat.mul_le_mul_right _ (Nat.div_mul_le_self m 128)
      rw [ih (i + 1) _ (m / 128) more (by omega) (by omega) (by omega)]
      have e : m % 128 * 2 ^ (7 * i) + m / 128 * 2 ^ (7 * (i + 1)) = m * 2 ^ (7 * i) := by
        rw [pow7_succ, ← Nat.mul_assoc, ← Nat.add_mul]
        congr 1
        omega
      refine Prod.ext ?_ ?_
      · show a + m % 128 * 2 ^ (7 * i) + m / 128 * 2 ^ (7 * (i + 1)) = a + m * 2 ^ (7 * i)
        omega
      · show i + 1 + (digs (m / 128)).length = i + ((digs (m / 128)).length + 1)
        omega

theorem rd_back {n : Nat} (h : n < 18446744073709551616) (more : List UInt8) : rd 0 0 (digs n ++ more) = (n, (digs n).length) := by
  have := rd_digs 10 0 0 n more rfl (by simpa using h) (Or.inl rfl)
  simpa using this

/-- What was read is written as those bytes. -/
theorem rd_take : ∀ (k i a : Nat) (l : List UInt8), i + k = 10 → (rd i a l).2 ≠ 0 →
    ∃ m, (rd i a l).1 = a + m * 2 ^ (7 * i) ∧ (i = 0 ∨ 0 < m) ∧ m * 2 ^ (7 * i) < 18446744073709551616 ∧ (rd i a l).2 = i + (digs m).length ∧ digs m = l.take (digs m).length := by
  intro k
  induction k with
  | zero =>
    intro i a l hi h
    have : i = 10 := by omega
    subst this
    cases l <;> simp [rd] at h
  | succ k ih =>
    intro i a l hi h
    have hi9 : ¬ 10 ≤ i := by omega
    cases l with
    | nil => simp [rd] at h
    | cons d r =>
      have hd := d.toNat_lt
      by_cases h9 : i = 9 ∧ 1 < d.toNat
      · simp [rd, h9] at h
      by_cases hb : 128 ≤ d.toNat
      · have h9' : i ≠ 9 := by omega
        have e : rd i a (d :: r) = rd (i + 1) (a + d.toNat % 128 * 2 ^ (7 * i)) r := by simp only [rd, hi9, h9, hb, if_false, if_true]
        rw [e] at h ⊢
        obtain ⟨m, h1, h2, h3, h4, h5⟩ := ih (i + 1) _ r (by omega) h
        have hm : 0 < m := by omega
        rw [pow7_succ] at h1 h3
        have ed : (d.toNat % 128 + 128 * m) % 128 + 128 = d.toNat := by omega
        have eq : (d.toNat % 128 + 128 * m) / 128 = m := by omega
        have hD : digs (d.toNat % 128 + 128 * m) = d :: digs m := by
          rw [digs_big (by omega), ed, eq]
          simp
        refine ⟨d.toNat % 128 + 128 * m, ?_, Or.inr (by omega), ?_, ?_, ?_⟩
        · rw [h1, Nat.add_mul, Nat.add_assoc, Nat.mul_comm 128 m, Nat.mul_assoc]
        · have hp : 2 ^ (7 * i) ≤ 2 ^ (7 * 8) := Nat.pow_le_pow_right (by decide) (by omega)
          have hq : 128 * 2 ^ (7 * i) ∣ 18446744073709551616 := by
            rw [← pow7_succ]
            exact Nat.pow_dvd_pow 2 (show 7 * (i + 1) ≤ 64 by omega)
          obtain ⟨c, hc⟩ := hq
          rw [Nat.mul_comm m, hc] at h3
          have hmc : m < c := Nat.lt_of_mul_lt_mul_left h3
          rw [hc]
          have hle : (d.toNat % 128 + 128 * m) * 2 ^ (7 * i) < 128 * c * 2 ^ (7 * i) := by
            apply Nat.mul_lt_mul_of_pos_right _ (Nat.two_pow_pos _)
            omega
          calc (d.toNat % 128 + 128 * m) * 2 ^ (7 * i) < 128 * c * 2 ^ (7 * i) := hle
            _ = 128 * 2 ^ (7 * i) * c := by rw [Nat.mul_assoc, Nat.mul_comm c, Nat.mul_assoc]
        · rw [h4, hD]; simp; omega
        · rw [hD]; simp only [List.length_cons, List.take_succ_cons]; rw [← h5]
      · by_cases hz : d.toNat = 0 ∧ 0 < i
        · exact absurd (by simp [rd, hz, hi9]) h
        · have e : rd i a (d :: r) = (a + d.toNat % 128 * 2 ^ (7 * i), i + 1) := by simp only [rd, hi9, h9, hb, hz, if_false]
          rw [e]
          have hmod : d.toNat % 128 = d.toNat := Nat.mod_eq_of_lt (by omega)
          have hD : digs d.toNat = [d] := by rw [digs_small (by omega)]; simp
          refine ⟨d.toNat, by rw [hmod], by omega, ?_, by rw [hD]; simp, by rw [hD]; simp⟩
          by_cases h99 : i = 9
          · subst h99
            have h2 : (2 : Nat) ^ (7 * 9) = 9223372036854775808 := by decide
            rw [h2]; omega
          · have hp : 2 ^ (7 * i) ≤ 2 ^ (7 * 8) := Nat.pow_le_pow_right (by decide) (by omega)
            have h2 : (2 : Nat) ^ (7 * 8) = 72057594037927936 := by decide
            rw [h2] at hp
            have := Nat.mul_le_mul (show d.toNat ≤ 127 by omega) hp
            omega

theorem rd_written (l : List UInt8) (h : (rd 0 0 l).2 ≠ 0) : (rd 0 0 l).1 < 18446744073709551616 ∧ (rd 0 0 l).2 = (digs (rd 0 0 l).1).length ∧ digs (rd 0 0 l).1 = l.take (rd 0 0 l).2 := by
  obtain ⟨m, h1, _, h3, h4, h5⟩ := rd_take 10 0 0 l rfl h
  have e : (rd 0 0 l).1 = m := by simpa using h1
  have e2 : (rd 0 0 l).2 = (digs m).length := by simpa using h4
  rw [e]
  exact ⟨by simpa using h3, e2, by rw [e2]; exact h5⟩

end Go.Proofs.Ytlpgdfdadkljfaa

/-
  Which texts are parts and paths, as functions of bytes: what a decoder of UTF-8 steps over, a width told of bytes, the pieces between slashes; and that the two ways to say it are one.
-/
namespace Go.Proofs.Ytlpgdfdadkljfaa.Route

/-- The byte at a place, as a number. -/
def bt (s : ByteArray) (i : Nat) : Nat := (s.get! i).toNat

theorem bt_lt (s : ByteArray) (i : Nat) : bt s i < 256 := (s.get! i).toNat_lt

theorem bt_at (s : ByteArray) (i : Nat) (h : i < s.size) : (s[i]'h).toNat = bt s i := by
  have := get_at s i h
  rw [Nat.add_zero] at this
  rw [bt, this]

/-- A character that a part may have. -/
def okc (c : Nat) : Bool := (97 ≤ c && c ≤ 122) || (48 ≤ c && c ≤ 57) || c == 95 || c == 45 || c == 46 || (128 ≤ c && c != 65533)

/-- How many bytes the character at a place has; 0, if none does, or FFFD. -/
def wid (s : ByteArray) (i : Nat) : Nat :=
  if bt s i < 128 then 1 else if (Utf8.decode s i).1 = 65533 then 0 else (Utf8.decode s i).2

/-- The number so far, of k bytes of a character. -/
def val (s : ByteArray) (i v0 : Nat) : Nat → Nat
  | 0 => v0
  | 1 => v0
  | (k + 2) => val s i v0 (k + 1) * 64 + bt s (i + (k + 1)) - 128

theorem val_2 (s : ByteArray) (i v0 : Nat) : val s i v0 2 = v0 * 64 + bt s (i + 1) - 128 := rfl
theorem val_3 (s : ByteArray) (i v0 : Nat) : val s i v0 3 = (v0 * 64 + bt s (i + 1) - 128) * 64 + bt s (i + 2) - 128 := rfl
theorem val_4 (s : ByteArray) (i v0 : Nat) : val s i v0 4 = ((v0 * 64 + bt s (i + 1) - 128) * 64 + bt s (i + 2) - 128) * 64 + bt s (i + 3) - 128 := rfl

/-- What is told of a whole character. -/
def fin (n least v : Nat) : Nat := if v < least ∨ 1114111 < v ∨ (55296 ≤ v ∧ v ≤ 57343) ∨ v = 65533 then 0 else n

/-- The first byte: how many bytes, the least number, the first bits. -/
def Lead (b n least v0 : Nat) : Prop :=
  (192 ≤ b ∧ b < 224 ∧ n = 2 ∧ least = 128 ∧ v0 = b - 192) ∨ (224 ≤ b ∧ b < 240 ∧ n = 3 ∧ least = 2048 ∧ v0 = b - 224) ∨ (240 ≤ b ∧ b < 248 ∧ n = 4 ∧ least = 65536 ∧ v0 = b - 240)

theorem wid_ascii (s : ByteArray) (i : Nat) (h : bt s i < 128) : wid s i = 1 := by simp [wid, h]

theorem fold (s : ByteArray) (j : Nat) : (s.get! j).toNat = bt s j := by rw [bt]

set_option maxRecDepth 100000 in
theorem decode_no_lead (s : ByteArray) (i : Nat) (h : 128 ≤ bt s i) (h2 : bt s i < 192 ∨ 248 ≤ bt s i) : Utf8.decode s i = (65533, 1) := by
  have hb := bt_lt s i
  have h0 : ¬ bt s i < 128 := by omega
  have h6 : ¬ bt s i / 32 = 6 := by omega
  have h14 : ¬ bt s i / 16 = 14 := by omega
  have h30 : ¬ bt s i / 8 = 30 := by omega
  unfold Utf8.decode Utf8.runeError
  simp only [fold, Nat.add_zero]
  simp [h0, h6, h14, h30]

theorem wid_no_lead (s : ByteArray) (i : Nat) (h : 128 ≤ bt s i) (h2 : bt s i < 192 ∨ 248 ≤ bt s i) : wid s i = 0 := by
  have hn : ¬ bt s i < 128 := by omega
  simp [wid, hn, decode_no_lead s i h h2]

set_option maxRecDepth 100000 in
theorem decode_two (s : ByteArray) (i : Nat) (h : 192 ≤ bt s i) (h2 : bt s i < 224) :
    Utf8.decode s i = if i + 1 < s.size ∧ bt s (i + 1) / 64 = 2 then (if 128 ≤ (bt s i % 32) * 64 + bt s (i + 1) % 64 then ((bt s i % 32) * 64 + bt s (i + 1) % 64, 2) else (65533, 1)) else (65533, 1) := by
  have h0 : ¬ bt s i < 128 := by omega
  have h6 : bt s i / 32 = 6 := by omega
  have h14 : ¬ bt s i / 16 = 14 := by omega
  have h30 : ¬ bt s i / 8 = 30 := by omega
  unfold Utf8.decode Utf8.runeError
  simp only [fold, Nat.add_zero]
  simp [h0, h6, h14, h30]

set_option maxRecDepth 100000 in
theorem decode_three (s : ByteArray) (i : Nat) (h : 224 ≤ bt s i) (h2 : bt s i < 240) (X : Nat) (hX : X = (bt s i % 16) * 4096 + (bt s (i + 1) % 64) * 64 + bt s (i + 2) % 64) :
    Utf8.decode s i = if (i + 1 < s.size ∧ bt s (i + 1) / 64 = 2) ∧ (i + 2 < s.size ∧ bt s (i + 2) / 64 = 2) then (if 2048 ≤ X ∧ Utf8.valid (X : Int) = true then (X, 3) else (65533, 1)) else (65533, 1) := by
  have h0 : ¬ bt s i < 128 := by omega
  have h6 : ¬ bt s i / 32 = 6 := by omega
  have h14 : bt s i / 16 = 14 := by omega
  have h30 : ¬ bt s i / 8 = 30 := by omega
  unfold Utf8.decode Utf8.runeError
  simp only [fold, Nat.add_zero]
  rw [← hX]
  simp [h0, h6, h14, h30]

set_option maxRecDepth 100000 in
theorem decode_four (s : ByteArray) (i : Nat) (h : 240 ≤ bt s i) (h2 : bt s i < 248) (X : Nat) (hX : X = (bt s i % 8) * 262144 + (bt s (i + 1) % 64) * 4096 + (bt s (i + 2) % 64) * 64 + bt s (i + 3) % 64) :
    Utf8.decode s i = if ((i + 1 < s.size ∧ bt s (i + 1) / 64 = 2) ∧ (i + 2 < s.size ∧ bt s (i + 2) / 64 = 2)) ∧ (i + 3 < s.size ∧ bt s (i + 3) / 64 = 2) then (if 65536 ≤ X ∧ Utf8.valid (X : Int) = true then (X, 4) else (65533, 1)) else (65533, 1) := by
  have h0 : ¬ bt s i < 128 := by omega
  have h6 : ¬ bt s i / 32 = 6 := by omega
  have h14 : ¬ bt s i / 16 = 14 := by omega
  have h30 : bt s i / 8 = 30 := by omega
  unfold Utf8.decode Utf8.runeError
  simp only [fold, Nat.add_zero]
  rw [← hX]
  simp [h0, h6, h14, h30]

theorem valid_iff (c : Nat) : Utf8.valid (c : Int) = true ↔ (c < 55296 ∨ (57344 ≤ c ∧ c ≤ 1114111)) := by
  simp only [Utf8.valid, Bool.or_eq_true, Bool.and_eq_true, decide_eq_true_eq]
  omega

set_option maxRecDepth 100000 in
/-- A character's bytes are all there. -/
theorem wid_whole (s : ByteArray) (i n least v0 : Nat) (hL : Lead (bt s i) n least v0) (hs : i + n ≤ s.size) (hc : ∀ j, 1 ≤ j → j < n → 128 ≤ bt s (i + j) ∧ bt s (i + j) ≤ 191) : wid s i = fin n least (val s i v0 n) := by
  have hb := bt_lt s i
  rcases hL with ⟨h1, h2, rfl, rfl, rfl⟩ | ⟨h1, h2, rfl, rfl, rfl⟩ | ⟨h1, h2, rfl, rfl, rfl⟩
  · have c1 := hc 1 (by omega) (by omega)
    have e := decode_two s i h1 h2
    rw [if_pos ⟨by omega, by omega⟩] at e
    have hv : val s i (bt s i - 192) 2 = (bt s i % 32) * 64 + bt s (i + 1) % 64 := by rw [val_2]; omega
    rw [hv]
    generalize hX : (bt s i % 32) * 64 + bt s (i + 1) % 64 = X at e ⊢
    unfold wid fin
    rw [if_neg (by omega : ¬ bt s i < 128), e]
    by_cases q : 128 ≤ X
    · rw [if_pos q]
      show (if X = 65533 then 0 else 2) = _
      split <;> split <;> first | rfl | (exfalso; omega)
    · rw [if_neg q]
      show (if 65533 = 65533 then 0 else 1) = _
      rw [if_pos rfl, if_pos (by omega)]
  · have c1 := hc 1 (by omega) (by omega)
    have c2 := hc 2 (by omega) (by omega)
    obtain ⟨X, hX⟩ : ∃ X, X = (bt s i % 16) * 4096 + (bt s (i + 1) % 64) * 64 + bt s (i + 2) % 64 := ⟨_, rfl⟩
    have e := decode_three s i h1 h2 X hX
    rw [if_pos ⟨⟨by omega, by omega⟩, ⟨by omega, by omega⟩⟩] at e; simp only [valid_iff] at e
    have hv : val s i (bt s i - 224) 3 = X := by rw [val_3]; omega
    rw [hv]
    unfold wid fin
    rw [if_neg (by omega : ¬ bt s i < 128), e]
    by_cases q : 2048 ≤ X ∧ (X < 55296 ∨ 57344 ≤ X ∧ X ≤ 1114111)
    · rw [if_pos q]
      show (if X = 65533 then 0 else 3) = _
      split <;> split <;> first | rfl | (exfalso; omega)
    · rw [if_neg q]
      show (if 65533 = 65533 then 0 else 1) = _
      rw [if_pos rfl, if_pos (by omega)]
  · have c1 := hc 1 (by omega) (by omega)
    have c2 := hc 2 (by omega) (by omega)
    have c3 := hc 3 (by omega) (by omega)
    obtain ⟨X, hX⟩ : ∃ X, X = (bt s i % 8) * 262144 + (bt s (i + 1) % 64) * 4096 + (bt s (i + 2) % 64) * 64 + bt s (i + 3) % 64 := ⟨_, rfl⟩
    have e := decode_four s i h1 h2 X hX
    rw [if_pos ⟨⟨⟨by omega, by omega⟩, ⟨by omega, by omega⟩⟩, ⟨by omega, by omega⟩⟩] at e; simp only [valid_iff] at e
    have hv : val s i (bt s i - 240) 4 = X := by rw [val_4]; omega
    rw [hv]
    unfold wid fin
    rw [if_neg (by omega : ¬ bt s i < 128), e]
    by_cases q : 65536 ≤ X ∧ (X < 55296 ∨ 57344 ≤ X ∧ X ≤ 1114111)
    · rw [if_pos q]
      show (if X = 65533 then 0 else 4) = _
      split <;> split <;> first | rfl | (exfalso; omega)
    · rw [if_neg q]
      show (if 65533 = 65533 then 0 else 1) = _
      rw [if_pos rfl, if_pos (by omega)]

set_option maxRecDepth 100000 in
/-- One of a character's bytes is none of them, or lacks. -/
theorem wid_broken (s : ByteArray) (i n least v0 : Nat) (hL : Lead (bt s i) n least v0) (j : Nat) (h1 : 1 ≤ j) (h2 : j < n) (hc : s.size ≤ i + j ∨ bt s (i + j) < 128 ∨ 191 < bt s (i + j)) : wid s i = 0 := by
  have hb := bt_lt s i
  have hbj := bt_lt s (i + j)
  have hn : wid s i = 0 ↔ (bt s i < 128 → False) ∧ ((Utf8.decode s i).1 = 65533 ∨ (Utf8.decode s i).2 = 0) := by
    unfold wid
    by_cases q : bt s i < 128
    · rw [if_pos q]; constructor
      · intro h; omega
      · intro h; exact absurd q h.1
    · rw [if_neg q]
      by_cases q2 : (Utf8.decode s i).1 = 65533
      · rw [if_pos q2]; exact ⟨fun _ => ⟨q, .inl q2⟩, fun _ => rfl⟩
      · rw [if_neg q2]; exact ⟨fun h => ⟨q, .inr h⟩, fun h => h.2.resolve_left q2⟩
  rw [hn]
  rcases hL with ⟨h3, h4, rfl, rfl, rfl⟩ | ⟨h3, h4, rfl, rfl, rfl⟩ | ⟨h3, h4, rfl, rfl, rfl⟩
  · obtain rfl : j = 1 := by omega
    have e := decode_two s i h3 h4
    rw [if_neg (by omega)] at e
    rw [e]
    exact ⟨by omega, .inl rfl⟩
  · have e := decode_three s i h3 h4 _ rfl
    rw [if_neg (by rcases (by omega : j = 1 ∨ j = 2) with rfl | rfl <;> omega)] at e
    rw [e]
    exact ⟨by omega, .inl rfl⟩
  · have e := decode_four s i h3 h4 _ rfl
    rw [if_neg (by rcases (by omega : j = 1 ∨ j = 2 ∨ j = 3) with rfl | rfl | rfl <;> omega)] at e
    rw [e]
    exact ⟨by omega, .inl rfl⟩

set_option maxRecDepth 100000 in
/-- What the decoder says, in the words of the width. -/
theorem decode_wid (s : ByteArray) (i : Nat) (hi : i < s.size) : (bt s i < 128 ∧ Utf8.decode s i = (bt s i, 1) ∧ wid s i = 1) ∨ (128 ≤ bt s i ∧ (Utf8.decode s i).1 = 65533 ∧ wid s i = 0) ∨
    (128 ≤ bt s i ∧ 128 ≤ (Utf8.decode s i).1 ∧ (Utf8.decode s i).1 ≠ 65533 ∧ wid s i = (Utf8.decode s i).2 ∧ 2 ≤ (Utf8.decode s i).2 ∧ i + (Utf8.decode s i).2 ≤ s.size) := by
  have hb := bt_lt s i
  have hB := bt_at s i hi
  by_cases h0 : bt s i < 128
  · refine .inl ⟨h0, ?_, wid_ascii s i h0⟩
    have := decode_ascii s i hi (by omega)
    rw [this, hB]
  · right
    have hh := decode_high s i hi (by omega)
    by_cases hq : (Utf8.decode s i).1 = 65533
    · exact .inl ⟨by omega, hq, by simp [wid, h0, hq]⟩
    · refine .inr ⟨by omega, hh.1, hq, by simp [wid, h0, hq], ?_⟩
      by_cases hl : bt s i < 192 ∨ 248 ≤ bt s i
      · exact absurd (by rw [decode_no_lead s i (by omega) hl]) hq
      · rcases (by omega : (192 ≤ bt s i ∧ bt s i < 224) ∨ (224 ≤ bt s i ∧ bt s i < 240) ∨ (240 ≤ bt s i ∧ bt s i < 248)) with h | h | h
        · have e := decode_two s i h.1 h.2
          generalize (bt s i % 32) * 64 + bt s (i + 1) % 64 = X at e
          by_cases q1 : i + 1 < s.size ∧ bt s (i + 1) / 64 = 2
          · rw [if_pos q1] at e
            by_cases q2 : 128 ≤ X
            · rw [if_pos q2] at e
              rw [e]; exact ⟨Nat.le_refl _, by show i + 2 ≤ s.size; omega⟩
            · rw [if_neg q2] at e
              exact absurd (by rw [e]) hq
          · rw [if_neg q1] at e
            exact absurd (by rw [e]) hq
        · have e := decode_three s i h.1 h.2 _ rfl
          generalize (bt s i % 16) * 4096 + (bt s (i + 1) % 64) * 64 + bt s (i + 2) % 64 = X at e
          by_cases q1 : (i + 1 < s.size ∧ bt s (i + 1) / 64 = 2) ∧ (i + 2 < s.size ∧ bt s (i + 2) / 64 = 2)
          · rw [if_pos q1] at e
            by_cases q2 : 2048 ≤ X ∧ Utf8.valid (X : Int) = true
            · rw [if_pos q2] at e
              rw [e]; exact ⟨by show 2 ≤ 3; omega, by show i + 3 ≤ s.size; omega⟩
            · rw [if_neg q2] at e
              exact absurd (by rw [e]) hq
          · rw [if_neg q1] at e
            exact absurd (by rw [e]) hq
        · have e := decode_four s i h.1 h.2 _ rfl
          generalize (bt s i % 8) * 262144 + (bt s (i + 1) % 64) * 4096 + (bt s (i + 2) % 64) * 64 + bt s (i + 3) % 64 = X at e
          by_cases q1 : ((i + 1 < s.size ∧ bt s (i + 1) / 64 = 2) ∧ (i + 2 < s.size ∧ bt s (i + 2) / 64 = 2)) ∧ (i + 3 < s.size ∧ bt s (i + 3) / 64 = 2)
          · rw [if_pos q1] at e
            by_cases q2 : 65536 ≤ X ∧ Utf8.valid (X : Int) = true
            · rw [if_pos q2] at e
              rw [e]; exact ⟨by show 2 ≤ 4; omega, by show i + 4 ≤ s.size; omega⟩
            · rw [if_neg q2] at e
              exact absurd (by rw [e]) hq
          · rw [if_neg q1] at e
            exact absurd (by rw [e]) hq

set_option maxRecDepth 100000 in
/-- Within what the decoder steps over there is no slash, but at the first byte. -/
theorem step_no_slash (s : ByteArray) (i j : Nat) (hi : i < s.size) (h1 : 1 ≤ j) (h2 : j < (Utf8.decode s i).2) : i + j < s.size ∧ bt s (i + j) ≠ 47 := by
  have one : ∀ x : Nat, Utf8.decode s i = (x, 1) → False := fun x e => by
    rw [e] at h2
    exact absurd h2 (by show ¬ j < 1; omega)
  by_cases h0 : bt s i < 128
  · rcases decode_wid s i hi with ⟨_, e, _⟩ | ⟨h, _⟩ | ⟨h, _⟩
    · exact absurd e (fun e => one _ e)
    · omega
    · omega
  · by_cases hl : bt s i < 192 ∨ 248 ≤ bt s i
    · exact absurd (decode_no_lead s i (by omega) hl) (fun e => one _ e)
    · rcases (by omega : (192 ≤ bt s i ∧ bt s i < 224) ∨ (224 ≤ bt s i ∧ bt s i < 240) ∨ (240 ≤ bt s i ∧ bt s i < 248)) with h | h | h
      · have e := decode_two s i h.1 h.2
        generalize (bt s i % 32) * 64 + bt s (i + 1) % 64 = X at e
        by_cases q1 : i + 1 < s.size ∧ bt s (i + 1) / 64 = 2
        · rw [if_pos q1] at e
          by_cases q2 : 128 ≤ X
          · rw [if_pos q2] at e
            rw [e] at h2
            have h2' : j < 2 := h2
            obtain rfl : j = 1 := by omega
            omega
          · rw [if_neg q2] at e
            exact absurd e (fun e => one _ e)
        · rw [if_neg q1] at e
          exact absurd e (fun e => one _ e)
      · have e := decode_three s i h.1 h.2 _ rfl
        generalize (bt s i % 16) * 4096 + (bt s (i + 1) % 64) * 64 + bt s (i + 2) % 64 = X at e
        by_cases q1 : (i + 1 < s.size ∧ bt s (i + 1) / 64 = 2) ∧ (i + 2 < s.size ∧ bt s (i + 2) / 64 = 2)
        · rw [if_pos q1] at e
          by_cases q2 : 2048 ≤ X ∧ Utf8.valid (X : Int) = true
          · rw [if_pos q2] at e
            rw [e] at h2
            have h2' : j < 3 := h2
            rcases (by omega : j = 1 ∨ j = 2) with rfl | rfl <;> omega
          · rw [if_neg q2] at e
            exact absurd e (fun e => one _ e)
        · rw [if_neg q1] at e
          exact absurd e (fun e => one _ e)
      · have e := decode_four s i h.1 h.2 _ rfl
        generalize (bt s i % 8) * 262144 + (bt s (i + 1) % 64) * 4096 + (bt s (i + 2) % 64) * 64 + bt s (i + 3) % 64 = X at e
        by_cases q1 : ((i + 1 < s.size ∧ bt s (i + 1) / 64 = 2) ∧ (i + 2 < s.size ∧ bt s (i + 2) / 64 = 2)) ∧ (i + 3 < s.size ∧ bt s (i + 3) / 64 = 2)
        · rw [if_pos q1] at e
          by_cases q2 : 65536 ≤ X ∧ Utf8.valid (X : Int) = true
          · rw [if_pos q2] at e
            rw [e] at h2
            have h2' : j < 4 := h2
            rcases (by omega : j = 1 ∨ j = 2 ∨ j = 3) with rfl | rfl | rfl <;> omega
          · rw [if_neg q2] at e
            exact absurd e (fun e => one _ e)
        · rw [if_neg q1] at e
          exact absurd e (fun e => one _ e)

/-! ### Parts -/

/-- How many characters there are from a place on; none, if one of them may not be in a part. -/
def runes (s : ByteArray) : (fuel pos : Nat) → Option Nat
  | 0, _ => some 0
  | fuel + 1, pos => if pos < s.size then (if okc (Utf8.decode s pos).1 then (runes s fuel (pos + (Utf8.decode s pos).2)).map (· + 1) else none) else some 0

theorem runes_end (s : ByteArray) (fuel pos : Nat) (h : ¬ pos < s.size) : runes s fuel pos = some 0 := by
  cases fuel with
  | zero => rfl
  | succ f => simp [runes, h]
theorem runes_bad (s : ByteArray) (fuel pos : Nat) (h : pos < s.size) (hk : okc (Utf8.decode s pos).1 = false) : runes s (fuel + 1) pos = none := by simp [runes, h, hk]
theorem runes_ok (s : ByteArray) (fuel pos : Nat) (h : pos < s.size) (hk : okc (Utf8.decode s pos).1 = true) : runes s (fuel + 1) pos = (runes s fuel (pos + (Utf8.decode s pos).2)).map (· + 1) := by simp [runes, h, hk]

theorem width_pos (s : ByteArray) (pos : Nat) (h : pos < s.size) : 1 ≤ (Utf8.decode s pos).2 := by
  by_cases ha : (s[pos]'h).toNat < 128
  · rw [decode_ascii s pos h ha]; exact Nat.le_refl _
  · exact (decode_high s pos h (by omega)).2

/-- What is told of c characters and those that are to come. -/
def told (s : ByteArray) : Option Nat → Bool
  | none => false
  | some n => decide (1 ≤ n ∧ n ≤ 16) && !(s.toList == [46]) && !(s.toList == [46, 46])

/-- Is a text a part? -/
def isPart (s : ByteArray) : Bool := told s (runes s s.size 0)

/-- A character of a part, told by its bytes. -/
theorem okc_wid (s : ByteArray) (i : Nat) (hi : i < s.size) : okc (Utf8.decode s i).1 = (decide (1 < wid s i) || (decide (wid s i = 1) && okc (bt s i))) ∧ (okc (Utf8.decode s i).1 = true → (Utf8.decode s i).2 = wid s i) := by
  rcases decode_wid s i hi with ⟨h, e, e2⟩ | ⟨h, e, e2⟩ | ⟨h, h2, h3, h4, h5, h6⟩
  · rw [e, e2]; simp
  · rw [e, e2]; simp [okc]
  · constructor
    · have : decide (1 < wid s i) = true := decide_eq_true (by omega)
      rw [this]; simp [okc, h2, h3]
    · intro _; exact h4.symm

/-! ### Pieces -/

/-- What stands between slashes, from a place on. -/
def pieces (s : ByteArray) : (fuel start i : Nat) → List ByteArray
  | 0, start, _ => [s.extract start s.size]
  | fuel + 1, start, i => if i < s.size then (if bt s i = 47 then s.extract start i :: pieces s fuel (i + 1) (i + 1) else pieces s fuel start (i + 1)) else [s.extract start s.size]

def parts (s : ByteArray) : List ByteArray := pieces s s.size 0 0

theorem pieces_end (s : ByteArray) (fuel start i : Nat) (h : ¬ i < s.size) : pieces s fuel start i = [s.extract start s.size] := by
  cases fuel with
  | zero => rfl
  | succ f => simp [pieces, h]
theorem pieces_slash (s : ByteArray) (fuel start i : Nat) (h : i < s.size) (hb : bt s i = 47) : pieces s (fuel + 1) start i = s.extract start i :: pieces s fuel (i + 1) (i + 1) := by simp [pieces, h, hb]
theorem pieces_on (s : ByteArray) (fuel start i : Nat) (h : i < s.size) (hb : bt s i ≠ 47) : pieces s (fuel + 1) start i = pieces s fuel start (i + 1) := by simp [pieces, h, hb]
theorem pieces_ne (s : ByteArray) (fuel start i : Nat) : pieces s fuel start i ≠ [] := by
  induction fuel generalizing start i with
  | zero => simp [pieces]
  | succ f ih =>
    simp only [pieces]
    split
    · split
      · simp
      · exact ih _ _
    · simp

/-- More steps than there are bytes change nothing. -/
theorem pieces_fuel (s : ByteArray) (f g start i : Nat) (hf : s.size ≤ i + f) (hg : s.size ≤ i + g) : pieces s f start i = pieces s g start i := by
  induction f generalizing g start i with
  | zero => rw [pieces_end s 0 start i (by omega), pieces_end s g start i (by omega)]
  | succ f ih =>
    by_cases h : i < s.size
    · obtain ⟨g', rfl⟩ : ∃ g', g = g' + 1 := ⟨g - 1, by omega⟩
      by_cases hb : bt s i = 47
      · rw [pieces_slash s f start i h hb, pieces_slash s g' start i h hb, ih g' _ _ (by omega) (by omega)]
      · rw [pieces_on s f start i h hb, pieces_on s g' start i h hb, ih g' _ _ (by omega) (by omega)]
    · rw [pieces_end s _ start i h, pieces_end s _ start i h]

/-- Steps over bytes that are no slashes. -/
theorem pieces_skip (s : ByteArray) (f start i n : Nat) (hn : ∀ j, j < n → i + j < s.size ∧ bt s (i + j) ≠ 47) : pieces s (f + n) start i = pieces s f start (i + n) := by
  induction n generalizing i with
  | zero => rfl
  | succ n ih =>
    have h0 := hn 0 (by omega)
    rw [show f + (n + 1) = (f + n) + 1 from by omega, pieces_on s _ start i (by simpa using h0.1) (by simpa using h0.2), ih (i + 1) (fun j hj => by
      have := hn (j + 1) (by omega)
      rwa [show i + 1 + j = i + (j + 1) from by omega])]
    congr 1; omega

/-- May these be a path's? -/
def arePath (l : List ByteArray) : Bool := decide (1 ≤ l.length ∧ l.length ≤ 8) && l.all isPart
def isPath (s : ByteArray) : Bool := arePath (parts s)

/-- Is s a path under dir? -/
def isUnder (d s : ByteArray) : Bool := isPath d && isPath s && decide ((parts d).length < (parts s).length ∧ (parts s).take (parts d).length = parts d)

/-- Parts in one text. -/
def joined (l : List ByteArray) : ByteArray := ⟨(Lib.join (l.map (·.data.toList)) [47]).toArray⟩

theorem arePath_many (l r : List ByteArray) (h : 8 ≤ l.length) (hr : r ≠ []) : arePath (l ++ r) = false := by
  have : 1 ≤ r.length := List.length_pos_iff.2 hr
  have h9 : ¬ (1 ≤ (l ++ r).length ∧ (l ++ r).length ≤ 8) := by rw [List.length_append]; omega
  rw [arePath, decide_eq_false h9, Bool.false_and]
end Go.Proofs.Ytlpgdfdadkljfaa.Route

/-
  Bytes in chunks, as functions of lists of bytes: where the first chunk ends, all chunks, what they are joined, how long they are, and what stays of them with more bytes behind.
-/
namespace Go.Proofs.Ytlpgdfdadkljfaa.Chunk

/-- A text of these bytes. -/
def ofL (l : List UInt8) : ByteArray := ⟨l.toArray⟩
/-- A text's bytes. -/
def toL (s : ByteArray) : List UInt8 := s.data.toList

theorem toL_ofL (l : List UInt8) : toL (ofL l) = l := by simp [toL, ofL]
theorem ofL_toL (s : ByteArray) : ofL (toL s) = s := by simp [toL, ofL]
theorem ofL_inj {a b : List UInt8} (h : ofL a = ofL b) : a = b := by rw [← toL_ofL a, h, toL_ofL]
theorem size_ofL (l : List UInt8) : (ofL l).size = l.length := List.size_toArray
theorem length_toL (s : ByteArray) : (toL s).length = s.size := Array.length_toList

theorem extract_ofL (l : List UInt8) (i j : Nat) : (ofL l).extract i j = ofL ((l.drop i).take (j - i)) := by
  apply ByteArray.ext
  apply Array.ext'
  simp [ofL, ByteArray.data_extract, List.extract_eq_take_drop]

/-- The byte at a place, as a number. -/
def bt (s : ByteArray) (i : Nat) : Nat := (s.get! i).toNat

theorem bt_lt (s : ByteArray) (i : Nat) : bt s i < 256 := (s.get! i).toNat_lt

theorem bt_at (s : ByteArray) (i : Nat) (h : i < s.size) : (s[i]'h).toNat = bt s i := by
  have := get_at s i h
  rw [Nat.add_zero] at this
  rw [bt, this]

theorem bt_ofL (l : List UInt8) (i : Nat) (h : i < l.length) : bt (ofL l) i = (l[i]'h).toNat := by
  rw [← bt_at (ofL l) i (by rw [size_ofL]; exact h)]
  rfl

theorem drop_at (l : List UInt8) (i : Nat) (h : i < l.length) : ∃ b, l.drop i = b :: l.drop (i + 1) ∧ b.toNat = bt (ofL l) i :=
  ⟨l[i], List.drop_eq_getElem_cons h, (bt_ofL l i h).symm⟩

/-- 31 times the byte ahead and this one have all of the mask's bits. -/
def has (a b K : Nat) : Bool := decide ((31 * a + b) &&& K = K)

/-- A chunk ends behind its n-th byte b, ahead of which stands a. -/
def ends (m M K n a b : Nat) : Bool := decide (n = M) || (decide (m ≤ n) && has a b K)

/-- How many bytes more a chunk has that has n, the last of them a. -/
def first (m M K : Nat) : Nat → Nat → List UInt8 → Nat
  | _, _, [] => 0
  | a, n, b :: r => if ends m M K (n + 1) a b.toNat = true then 1 else 1 + first m M K b.toNat (n + 1) r

theorem first_nil (m M K a n : Nat) : first m M K a n [] = 0 := rfl
theorem first_end {m M K a n : Nat} {b : UInt8} {r : List UInt8} (h : ends m M K (n + 1) a b.toNat = true) : first m M K a n (b :: r) = 1 := by simp [first, h]
theorem first_on {m M K a n : Nat} {b : UInt8} {r : List UInt8} (h : ends m M K (n + 1) a b.toNat = false) : first m M K a n (b :: r) = 1 + first m M K b.toNat (n + 1) r := by simp [first, h]

theorem first_le (m M K a n : Nat) (l : List UInt8) : first m M K a n l ≤ l.length := by
  induction l generalizing a n with
  | nil => simp [first]
  | cons b r ih =>
    have := ih b.toNat (n + 1)
    rw [first]
    split <;> simp only [List.length_cons] <;> omega

theorem first_pos (m M K a n : Nat) (l : List UInt8) (h : 0 < l.length) : 1 ≤ first m M K a n l := by
  cases l with
  | nil => simp at h
  | cons b r => rw [first]; split <;> omega

theorem first_max (m M K a n : Nat) (l : List UInt8) (h : n < M) : first m M K a n l + n ≤ M := by
  induction l generalizing a n with
  | nil => simp [first]; omega
  | cons b r ih =>
    rw [first]
    split
    · omega
    · rename_i he
      have : n + 1 ≠ M := fun e => he (by simp [ends, e])
      have := ih b.toNat (n + 1) (by omega)
      omega

/-- Where bytes are left, a chunk has at least m. -/
theorem first_min (m M K a n : Nat) (l : List UInt8) (hM : m ≤ M) (h : first m M K a n l < l.length) : m ≤ first m M K a n l + n := by
  induction l generalizing a n with
  | nil => simp [first] at h
  | cons b r ih =>
    rw [first] at h ⊢
    split
    · rename_i he
      simp only [ends, Bool.or_eq_true, decide_eq_true_eq, Bool.and_eq_true] at he
      omega
    · rename_i he
      rw [if_neg he, List.length_cons] at h
      have := ih b.toNat (n + 1) (by omega)
      omega

/-- Where bytes are left, more of them behind turn nothing. -/
theorem first_more (m M K a n : Nat) (l r : List UInt8) (h : first m M K a n l < l.length) : first m M K a n (l ++ r) = first m M K a n l := by
  induction l generalizing a n with
  | nil => simp [first] at h
  | cons b t ih =>
    rw [first] at h
    rw [List.cons_append, first, first]
    split
    · rfl
    · rename_i he
      rw [if_neg he, List.length_cons] at h
      rw [ih b.toNat (n + 1) (by omega)]

/-- With as many bytes least as most, a chunk has these. -/
theorem first_equal (M K a n : Nat) (l : List UInt8) (h : n < M) : first M M K a n l = min (M - n) l.length := by
  induction l generalizing a n with
  | nil => simp [first]
  | cons b r ih =>
    rw [first]
    split
    · rename_i he
      simp only [ends, Bool.or_eq_true, decide_eq_true_eq, Bool.and_eq_true] at he
      simp only [List.length_cons]
      omega
    · rename_i he
      have : n + 1 ≠ M := fun e => he (by simp [ends, e])
      rw [ih b.toNat (n + 1) (by omega)]
      simp only [List.length_cons]
      omega

/-- How many bytes the first chunk has. -/
def size1 (m M K : Nat) (l : List UInt8) : Nat := first m M K 0 0 l

/-- The chunks. -/
def pcs (m M K : Nat) : Nat → List UInt8 → List (List UInt8)
  | 0, _ => []
  | f + 1, l => if l.length = 0 then [] else l.take (size1 m M K l) :: pcs m M K f (l.drop (size1 m M K l))

theorem pcs_nil (m M K f : Nat) : pcs m M K f [] = [] := by cases f <;> rfl

theorem pcs_fuel (m M K : Nat) (f g : Nat) (l : List UInt8) (hf : l.length ≤ f) (hg : l.length ≤ g) : pcs m M K f l = pcs m M K g l := by
  induction f generalizing g l with
  | zero => have e : l = [] := List.eq_nil_of_length_eq_zero (by omega); subst e; rw [pcs_nil, pcs_nil]
  | succ f ih =>
    cases g with
    | zero => have e : l = [] := List.eq_nil_of_length_eq_zero (by omega); subst e; rw [pcs_nil, pcs_nil]
    | succ g =>
      rw [pcs, pcs]
      split
      · rfl
      · have h1 := first_pos m M K 0 0 l (by omega)
        rw [ih g _ (by rw [List.length_drop, size1]; omega) (by rw [List.length_drop, size1]; omega)]

/-- All chunks of a text. -/
def cuts (m M K : Nat) (l : List UInt8) : List (List UInt8) := pcs m M K l.length l

theorem cuts_nil (m M K : Nat) : cuts m M K [] = [] := rfl
theorem cuts_cons (m M K : Nat) (l : List UInt8) (h : 0 < l.length) : cuts m M K l = l.take (size1 m M K l) :: cuts m M K (l.drop (size1 m M K l)) := by
  have h1 := first_pos m M K 0 0 l h
  rw [cuts, cuts]
  cases e : l.length with
  | zero => omega
  | succ n =>
    rw [pcs, if_neg (by omega), pcs_fuel m M K n _ _ (by rw [List.length_drop, size1]; omega) (Nat.le_refl _)]

theorem cuts_ind {m M K : Nat} {motive : List UInt8 → Prop} (h0 : motive []) (h1 : ∀ l, 0 < l.length → motive (l.drop (size1 m M K l)) → motive l) : ∀ l, motive l := by
  have aux : ∀ n (l : List UInt8), l.length ≤ n → motive l := by
    intro n
    induction n with
    | zero => intro l hl; have e : l = [] := List.eq_nil_of_length_eq_zero (by omega); subst e; exact h0
    | succ n ih =>
      intro l hl
      by_cases hz : 0 < l.length
      · refine h1 l hz (ih _ ?_)
        have := first_pos m M K 0 0 l hz
        rw [List.length_drop, size1]; omega
      · have e : l = [] := List.eq_nil_of_length_eq_zero (by omega)
        subst e; exact h0
  exact fun l => aux l.length l (Nat.le_refl _)

theorem cuts_join (m M K : Nat) (l : List UInt8) : (cuts m M K l).flatten = l := by
  refine cuts_ind (m := m) (M := M) (K := K) (motive := fun l => (cuts m M K l).flatten = l) rfl ?_ l
  intro l hl ih
  rw [cuts_cons m M K l hl, List.flatten_cons, ih, List.take_append_drop]

theorem cuts_count (m M K : Nat) (l : List UInt8) : (cuts m M K l).length ≤ l.length := by
  refine cuts_ind (m := m) (M := M) (K := K) (motive := fun l => (cuts m M K l).length ≤ l.length) (Nat.le_refl _) ?_ l
  intro l hl ih
  have := first_pos m M K 0 0 l hl
  rw [cuts_cons m M K l hl, List.length_cons]
  rw [List.length_drop, size1] at ih
  rw [size1]
  omega

theorem cuts_pos (m M K : Nat) (l : List UInt8) (h : 0 < l.length) : 0 < (cuts m M K l).length := by
  rw [cuts_cons m M K l h]; simp

/-- Every chunk has 1 to M bytes, all but the last at least m. -/
theorem cuts_sizes (m M K : Nat) (l : List UInt8) (hm : m ≤ M) (hM : 0 < M) : ∀ i, i < (cuts m M K l).length → 1 ≤ ((cuts m M K l).getD i []).length ∧ ((cuts m M K l).getD i []).length ≤ M ∧ (i + 1 < (cuts m M K l).length → m ≤ ((cuts m M K l).getD i []).length) := by
  refine cuts_ind (m := m) (M := M) (K := K) (motive := fun l => ∀ i, i < (cuts m M K l).length → 1 ≤ ((cuts m M K l).getD i []).length ∧ ((cuts m M K l).getD i []).length ≤ M ∧ (i + 1 < (cuts m M K l).length → m ≤ ((cuts m M K l).getD i []).length)) ?_ ?_ l
  · intro i hi; simp [cuts_nil] at hi
  · intro l hl ih i hi
    have h1 := first_pos m M K 0 0 l hl
    have h2 := first_max m M K 0 0 l hM
    have h3 := first_le m M K 0 0 l
    have h4 := first_min m M K 0 0 l hm
    rw [cuts_cons m M K l hl] at hi ⊢
    cases i with
    | zero =>
      simp only [List.getD_cons_zero, List.length_take, List.length_cons]
      refine ⟨by rw [size1]; omega, by rw [size1]; omega, fun hc => ?_⟩
      have h5 := cuts_count m M K (l.drop (size1 m M K l))
      rw [List.length_drop, size1] at h5
      rw [size1] at hc ⊢
      omega
    | succ i =>
      have := ih i (by simpa using hi)
      simpa using this

/-- With more bytes behind, all chunks but the last stay. -/
theorem cuts_more (m M K : Nat) (l r : List UInt8) : ∀ i, i + 1 < (cuts m M K l).length → i < (cuts m M K (l ++ r)).length ∧ (cuts m M K (l ++ r)).getD i [] = (cuts m M K l).getD i [] := by
  refine cuts_ind (m := m) (M := M) (K := K) (motive := fun l => ∀ i, i + 1 < (cuts m M K l).length → i < (cuts m M K (l ++ r)).length ∧ (cuts m M K (l ++ r)).getD i [] = (cuts m M K l).getD i []) ?_ ?_ l
  · intro i hi; simp [cuts_nil] at hi
  · intro l hl ih i hi
    have h1 := first_pos m M K 0 0 l hl
    have h3 := first_le m M K 0 0 l
    rw [cuts_cons m M K l hl, List.length_cons] at hi
    have h5 := cuts_count m M K (l.drop (size1 m M K l))
    rw [List.length_drop] at h5
    have hlt : first m M K 0 0 l < l.length := by rw [size1] at hi h5; omega
    have he : size1 m M K (l ++ r) = size1 m M K l := first_more m M K 0 0 l r hlt
    have ht : (l ++ r).take (size1 m M K l) = l.take (size1 m M K l) := List.take_append_of_le_length (by rw [size1]; omega)
    have hd : (l ++ r).drop (size1 m M K l) = l.drop (size1 m M K l) ++ r := List.drop_append_of_le_length (by rw [size1]; omega)
    rw [cuts_cons m M K (l ++ r) (by rw [List.length_append]; omega), cuts_cons m M K l hl, he, ht, hd]
    cases i with
    | zero => simp
    | succ i =>
      have := ih i (by omega)
      simpa using this

/-- With as many bytes least as most: how many chunks, and how long. -/
theorem cuts_equal (M K : Nat) (l : List UInt8) (hM : 0 < M) : (cuts M M K l).length = (l.length + M - 1) / M := by
  refine cuts_ind (m := M) (M := M) (K := K) (motive := fun l => (cuts M M K l).length = (l.length + M - 1) / M) ?_ ?_ l
  · rw [cuts_nil]; simp only [List.length_nil, Nat.zero_add]; rw [Nat.div_eq_of_lt (by omega)]
  · intro l hl ih
    have he : size1 M M K l = min M l.length := by have := first_equal M K 0 0 l hM; rwa [Nat.sub_zero] at this
    rw [cuts_cons M M K l hl, List.length_cons, ih, he, List.length_drop]
    by_cases hc : l.length ≤ M
    · rw [Nat.min_eq_right hc, Nat.sub_self, Nat.zero_add, Nat.div_eq_of_lt (by omega)]
      have : (l.length + M - 1) / M = 1 := by
        rw [Nat.div_eq_iff hM]; omega
      omega
    · rw [Nat.min_eq_left (by omega)]
      have e : l.length + M - 1 = (l.length - M + M - 1) + M := by omega
      rw [e, Nat.add_div_right _ hM]

/-- A mask's bits, one by one. -/
def bitsAll : Nat → Nat → Nat → Bool
  | 0, _, _ => true
  | f + 1, n, k => if k % 2 = 1 ∧ n % 2 = 0 then false else bitsAll f (n / 2) (k / 2)

theorem land_half (n k : Nat) : (n &&& k = k) ↔ ((n / 2 &&& k / 2 = k / 2) ∧ ¬ (k % 2 = 1 ∧ n % 2 = 0)) := by
  constructor
  · intro h
    constructor
    · rw [← Nat.and_div_two, h]
    · rintro ⟨h1, h2⟩
      have h3 : (n &&& k).testBit 0 = k.testBit 0 := by rw [h]
      rw [Nat.testBit_and] at h3
      simp [Nat.testBit_zero, h1, h2] at h3
  · rintro ⟨h1, h2⟩
    apply Nat.eq_of_testBit_eq
    intro i
    rw [Nat.testBit_and]
    cases i with
    | zero =>
      simp only [Nat.testBit_zero]
      by_cases hk : k % 2 = 1
      · have : n % 2 = 1 := by omega
        simp [hk, this]
      · simp [hk]
    | succ i =>
      rw [Nat.testBit_succ, Nat.testBit_succ, ← Nat.testBit_and, h1]

theorem bitsAll_has (f n k : Nat) (h : k < 2 ^ f) : bitsAll f n k = decide (n &&& k = k) := by
  induction f generalizing n k with
  | zero =>
    have : k = 0 := by simpa using h
    subst this
    simp [bitsAll]
  | succ f ih =>
    rw [bitsAll]
    have hl := land_half n k
    split
    · rename_i hc
      rw [decide_eq_false]
      intro h2
      exact (hl.1 h2).2 hc
    · rename_i hc
      rw [ih (n / 2) (k / 2) (by rw [Nat.pow_succ] at h; omega)]
      rw [Bool.eq_iff_iff, decide_eq_true_eq, decide_eq_true_eq, hl]
      exact ⟨fun h => ⟨h, hc⟩, fun h => h.1⟩

/-- Texts joined. -/
def cat (l : List ByteArray) : ByteArray := ofL (l.map toL).flatten

/-- All chunks of a text, as texts. -/
def chunks (m M K : Nat) (s : ByteArray) : List ByteArray := (cuts m M K (toL s)).map ofL

theorem chunks_count (m M K : Nat) (s : ByteArray) : (chunks m M K s).length ≤ s.size := by
  have := cuts_count m M K (toL s)
  rw [length_toL] at this
  simpa [chunks] using this

theorem chunks_cat (m M K : Nat) (s : ByteArray) : cat (chunks m M K s) = s := by
  rw [cat, chunks, List.map_map]
  have : (toL ∘ ofL) = id := by funext l; exact toL_ofL l
  rw [this, List.map_id, cuts_join, ofL_toL]

theorem chunks_get (m M K : Nat) (s : ByteArray) (i : Nat) (h : i < (chunks m M K s).length) : (chunks m M K s).getD i ByteArray.empty = ofL ((cuts m M K (toL s)).getD i []) := by
  have h2 : i < (cuts m M K (toL s)).length := by simpa [chunks] using h
  simp [chunks, List.getD_eq_getElem?_getD, List.getElem?_eq_getElem h2]

theorem chunks_sizes (m M K : Nat) (s : ByteArray) (hm : m ≤ M) (hM : 0 < M) (i : Nat) (h : i < (chunks m M K s).length) : 1 ≤ ((chunks m M K s).getD i ByteArray.empty).size ∧ ((chunks m M K s).getD i ByteArray.empty).size ≤ M ∧ (i + 1 < (chunks m M K s).length → m ≤ ((chunks m M K s).getD i ByteArray.empty).size) := by
  have hl : (chunks m M K s).length = (cuts m M K (toL s)).length := by simp [chunks]
  rw [chunks_get m M K s i h, size_ofL, hl]
  exact cuts_sizes m M K (toL s) hm hM i (by omega)

theorem chunks_more (m M K : Nat) (s r : ByteArray) (i : Nat) (h : i + 1 < (chunks m M K s).length) : i < (chunks m M K (s ++ r)).length ∧ (chunks m M K (s ++ r)).getD i ByteArray.empty = (chunks m M K s).getD i ByteArray.empty := by
  have hl : (chunks m M K s).length = (cuts m M K (toL s)).length := by simp [chunks]
  have hl2 : (chunks m M K (s ++ r)).length = (cuts m M K (toL s ++ toL r)).length := by simp [chunks, toL]
  have := cuts_more m M K (toL s) (toL r) i (by omega)
  refine ⟨by omega, ?_⟩
  rw [chunks_get m M K s i (by omega), chunks_get m M K (s ++ r) i (by omega)]
  have e : toL (s ++ r) = toL s ++ toL r := by simp [toL]
  rw [e, this.2]

theorem chunks_equal (M K : Nat) (s : ByteArray) (hM : 0 < M) : (chunks M M K s).length = (s.size + M - 1) / M := by
  have := cuts_equal M K (toL s) hM
  rw [length_toL] at this
  simpa [chunks] using this

theorem chunks_rest (m M K : Nat) (s : ByteArray) (h : 0 < s.size) : chunks m M K s = ofL ((toL s).take (size1 m M K (toL s))) :: chunks m M K (ofL ((toL s).drop (size1 m M K (toL s)))) := by
  rw [chunks, cuts_cons m M K (toL s) (by rw [length_toL]; exact h), List.map_cons, chunks, toL_ofL]
end Go.Proofs.Ytlpgdfdadkljfaa.Chunk

/-
  Requests as bytes, in plain mathematics: their bytes, what reads them, and that this gives them back.
-/
namespace Go.Proofs.Ytlpgdfdadkljfaa.Order
open Route

/-- A request. -/
structure Rq where
  c : Int
  t : Int
  k : Int
  n : Int
  nm : ByteArray
  pt : ByteArray
  ks : List ByteArray

def txt (s : ByteArray) : List UInt8 := digs s.size ++ s.data.toList
def txts : List ByteArray → List UInt8
  | [] => []
  | s :: r => txt s ++ txts r
/-- A request's bytes. -/
def enc (r : Rq) : List UInt8 := digs r.c.toNat ++ (digs r.t.toNat ++ (digs r.k.toNat ++ (digs r.n.toNat ++ (txt r.nm ++ (txt r.pt ++ (digs r.ks.length ++ txts r.ks))))))

theorem txts_snoc (l : List ByteArray) (s : ByteArray) : txts (l ++ [s]) = txts l ++ txt s := by
  induction l with
  | nil => simp [txts]
  | cons a r ih => simp [txts, ih]

/-- A number, read at a place: it, and where it ends. -/
def pn (l : List UInt8) (m p : Nat) : Option (Nat × Nat) :=
  if (rd 0 0 (l.drop p)).2 = 0 ∨ m < (rd 0 0 (l.drop p)).1 then none else some ((rd 0 0 (l.drop p)).1, p + (rd 0 0 (l.drop p)).2)
/-- A text, read at a place. -/
def px (l : List UInt8) (m p : Nat) : Option (ByteArray × Nat) :=
  match pn l m p with
  | none => none
  | some (n, q) => if l.length < q + n then none else some (⟨((l.drop q).take n).toArray⟩, q + n)

/-- What a reader that stands at p, and has failed or not, tells of a number; and where it stands then. -/
def num (l : List UInt8) (m p : Nat) (f : Bool) : Nat × Nat × Bool :=
  match f, pn l m p with
  | true, _ => (0, p, true)
  | false, none => (0, p, true)
  | false, some (n, q) => (n, q, false)
def tex (l : List UInt8) (m p : Nat) (f : Bool) : ByteArray × Nat × Bool :=
  match f, px l m p with
  | true, _ => (ByteArray.empty, p, true)
  | false, none => (ByteArray.empty, p, true)
  | false, some (n, q) => (n, q, false)
def texs (l : List UInt8) (m : Nat) : Nat → Nat → Bool → List ByteArray × Nat × Bool
  | 0, p, f => ([], p, f)
  | k + 1, p, f => ((tex l m p f).1 :: (texs l m k (tex l m p f).2.1 (tex l m p f).2.2).1, (texs l m k (tex l m p f).2.1 (tex l m p f).2.2).2)

theorem pn_le {l : List UInt8} {m p n q : Nat} (hp : p ≤ l.length) (h : pn l m p = some (n, q)) :
    n ≤ m ∧ n < 18446744073709551616 ∧ q = p + (digs n).length ∧ l.drop p = digs n ++ l.drop q ∧ q ≤ l.length := by
  unfold pn at h
  split at h
  · cases h
  · rename_i hc
    have hz : (rd 0 0 (l.drop p)).2 ≠ 0 := fun e => hc (.inl e)
    obtain ⟨h1, h2, h3⟩ := rd_written (l.drop p) hz
    simp only [Option.some.injEq, Prod.mk.injEq] at h
    obtain ⟨rfl, rfl⟩ := h
    have h4 : l.drop p = digs (rd 0 0 (l.drop p)).1 ++ l.drop (p + (rd 0 0 (l.drop p)).2) := by
      rw [h3, ← List.drop_drop, List.take_append_drop]
    have h5 := congrArg List.length h3
    rw [← h2, List.length_take, List.length_drop] at h5
    exact ⟨by omega, h1, by rw [h2], h4, by omega⟩

theorem pn_read {l : List UInt8} {m p n : Nat} {r : List UInt8} (hn : n ≤ m) (h64 : n < 18446744073709551616) (h : l.drop p = digs n ++ r) : pn l m p = some (n, p + (digs n).length) := by
  have hb := rd_back h64 r
  rw [← h] at hb
  unfold pn
  rw [hb]
  have := digs_pos n
  rw [if_neg (by simp only; omega)]

theorem drop_app {l : List UInt8} {p : Nat} {e r : List UInt8} (h : l.drop p = e ++ r) : l.drop (p + e.length) = r := by
  rw [← List.drop_drop, h]; simp

theorem px_le {l : List UInt8} {m p q : Nat} {s : ByteArray} (hp : p ≤ l.length) (h : px l m p = some (s, q)) :
    s.size ≤ m ∧ q = p + (txt s).length ∧ l.drop p = txt s ++ l.drop q ∧ q ≤ l.length := by
  unfold px at h
  split at h
  · cases h
  · rename_i n q0 e
    obtain ⟨h1, h2, h3, h4, h5⟩ := pn_le hp e
    split at h
    · cases h
    · rename_i hc
      simp only [Option.some.injEq, Prod.mk.injEq] at h
      obtain ⟨rfl, rfl⟩ := h
      have hs : (ByteArray.mk ((l.drop q0).take n).toArray).size = n := by
        show ((l.drop q0).take n).toArray.size = n
        simp only [List.size_toArray, List.length_take, List.length_drop]; omega
      have hd : (ByteArray.mk ((l.drop q0).take n).toArray).data.toList = (l.drop q0).take n := by simp
      refine ⟨by rw [hs]; exact h1, ?_, ?_, by omega⟩
      · unfold txt
        rw [List.length_append, hs, hd, List.length_take, List.length_drop]; omega
      · unfold txt
        rw [hs, hd, List.append_assoc, ← List.drop_drop, List.take_append_drop]; exact h4

theorem mk_text (s : ByteArray) : (⟨s.data.toList.toArray⟩ : ByteArray) = s := by cases s; simp

theorem px_read {l : List UInt8} {m p : Nat} {s : ByteArray} {r : List UInt8} (hs : s.size ≤ m) (h64 : s.size < 18446744073709551616) (h : l.drop p = txt s ++ r) : px l m p = some (s, p + (txt s).length) := by
  have h' : l.drop p = digs s.size ++ (s.data.toList ++ r) := by rw [h, txt, List.append_assoc]
  have e := pn_read hs h64 h'
  have hd := drop_app h'
  have hz : s.data.toList.length = s.size := by simp
  unfold px
  rw [e]
  show (if l.length < p + (digs s.size).length + s.size then none else some ((⟨((l.drop (p + (digs s.size).length)).take s.size).toArray⟩ : ByteArray), p + (digs s.size).length + s.size)) = _
  have hl := congrArg List.length hd
  rw [List.length_append, List.length_drop, hz] at hl
  have hl2 := congrArg List.length h
  have hpos := digs_pos s.size
  rw [List.length_drop, txt, List.length_append, List.length_append] at hl2
  rw [if_neg (by omega), hd, ← hz, List.take_left', mk_text, hz]
  · unfold txt; rw [List.length_append, hz, Nat.add_assoc]
  · rfl

theorem num_ok {l : List UInt8} {m p : Nat} {f : Bool} (h : (num l m p f).2.2 = false) : f = false ∧ pn l m p = some ((num l m p f).1, (num l m p f).2.1) := by
  unfold num at h ⊢
  split at h
  · cases h
  · cases h
  · rename_i n q e; rw [e]; exact ⟨rfl, rfl⟩
theorem tex_ok {l : List UInt8} {m p : Nat} {f : Bool} (h : (tex l m p f).2.2 = false) : f = false ∧ px l m p = some ((tex l m p f).1, (tex l m p f).2.1) := by
  unfold tex at h ⊢
  split at h
  · cases h
  · cases h
  · rename_i n q e; rw [e]; exact ⟨rfl, rfl⟩
theorem num_le {l : List UInt8} {m p : Nat} {f : Bool} (hp : p ≤ l.length) : (num l m p f).1 ≤ m ∧ (num l m p f).2.1 ≤ l.length := by
  unfold num
  split
  · exact ⟨Nat.zero_le _, hp⟩
  · exact ⟨Nat.zero_le _, hp⟩
  · rename_i n q e
    have := pn_le hp e
    exact ⟨this.1, this.2.2.2.2⟩
theorem tex_le {l : List UInt8} {m p : Nat} {f : Bool} (hp : p ≤ l.length) : (tex l m p f).1.size ≤ m ∧ (tex l m p f).2.1 ≤ l.length := by
  unfold tex
  split
  · exact ⟨Nat.zero_le _, hp⟩
  · exact ⟨Nat.zero_le _, hp⟩
  · rename_i n q e
    have := px_le hp e
    exact ⟨this.1, this.2.2.2⟩
theorem num_read {l : List UInt8} {m p n : Nat} {r : List UInt8} (hn : n ≤ m) (h64 : n < 18446744073709551616) (h : l.drop p = digs n ++ r) : num l m p false = (n, p + (digs n).length, false) := by
  unfold num; rw [pn_read hn h64 h]
theorem tex_read {l : List UInt8} {m p : Nat} {s : ByteArray} {r : List UInt8} (hs : s.size ≤ m) (h64 : s.size < 18446744073709551616) (h : l.drop p = txt s ++ r) : tex l m p false = (s, p + (txt s).length, false) := by
  unfold tex; rw [px_read hs h64 h]

theorem texs_ok {l : List UInt8} {m : Nat} : ∀ (k p : Nat) (f : Bool), p ≤ l.length → (texs l m k p f).2.2 = false →
    f = false ∧ l.drop p = txts (texs l m k p f).1 ++ l.drop (texs l m k p f).2.1 ∧ (texs l m k p f).2.1 ≤ l.length ∧ (texs l m k p f).1.length = k
  | 0, p, f, hp, h => ⟨h, by simp [texs, txts], hp, rfl⟩
  | k + 1, p, f, hp, h => by
    have hp2 := (tex_le (m := m) (f := f) hp).2
    obtain ⟨h1, h2, h3, h4⟩ := texs_ok k (tex l m p f).2.1 (tex l m p f).2.2 hp2 h
    obtain ⟨g1, g2⟩ := tex_ok h1
    obtain ⟨_, _, g3, _⟩ := px_le hp g2
    refine ⟨g1, ?_, h3, ?_⟩
    · show l.drop p = txt (tex l m p f).1 ++ txts _ ++ _
      rw [List.append_assoc]
      exact g3.trans (congrArg _ h2)
    · show (texs l m k (tex l m p f).2.1 (tex l m p f).2.2).1.length + 1 = k + 1
      rw [h4]
theorem texs_le {l : List UInt8} {m : Nat} : ∀ (k p : Nat) (f : Bool), p ≤ l.length → (texs l m k p f).2.1 ≤ l.length ∧ (texs l m k p f).1.length = k
  | 0, p, f, hp => ⟨hp, rfl⟩
  | k + 1, p, f, hp => by
    have hp2 := (tex_le (m := m) (f := f) hp).2
    obtain ⟨h1, h2⟩ := texs_le k (tex l m p f).2.1 (tex l m p f).2.2 hp2
    exact ⟨h1, by show _ + 1 = k + 1; rw [h2]⟩
theorem texs_bad {l : List UInt8} {m : Nat} : ∀ (k p : Nat), (texs l m k p true).2.2 = true
  | 0, _ => rfl
  | k + 1, p => by
    show (texs l m k (tex l m p true).2.1 (tex l m p true).2.2).2.2 = true
    exact texs_bad k _
theorem texs_read {l : List UInt8} {m : Nat} : ∀ (ks : List ByteArray) (p : Nat) (r : List UInt8), (∀ s ∈ ks, s.size ≤ m) → m < 18446744073709551616 → l.drop p = txts ks ++ r →
    texs l m ks.length p false = (ks, p + (txts ks).length, false)
  | [], p, r, _, _, _ => by simp [texs, txts]
  | s :: ks, p, r, hs, hm, h => by
    have h' : l.drop p = txt s ++ (txts ks ++ r) := by rw [h, txts, List.append_assoc]
    have hsz := hs s (List.mem_cons_self)
    have e := tex_read hsz (by omega) h'
    have ih := texs_read ks (p + (txt s).length) r (fun x hx => hs x (List.mem_cons_of_mem _ hx)) hm (drop_app h')
    show texs l m (ks.length + 1) p false = _
    unfold texs
    rw [e]
    simp only
    rw [ih]
    simp only [txts, List.length_append, Nat.add_assoc]
/-- One text more at the loop's end. -/
theorem texs_step (l : List UInt8) (m k p : Nat) (f : Bool) : texs l m (k + 1) p f = ((tex l m p f).1 :: (texs l m k (tex l m p f).2.1 (tex l m p f).2.2).1, (texs l m k (tex l m p f).2.1 (tex l m p f).2.2).2) := rfl

/-- What a reader's seven readings, and those of the keys, come to: with the greatest numbers and texts that it takes. -/
def reqOf (l : List UInt8) (m1 m2 m3 m4 m7 m8 : Nat) : Rq × Nat × Bool :=
  let a := num l m1 0 false
  let b := num l m2 a.2.1 a.2.2
  let c := num l m3 b.2.1 b.2.2
  let d := num l m4 c.2.1 c.2.2
  let e := tex l 4096 d.2.1 d.2.2
  let g := tex l 4096 e.2.1 e.2.2
  let h := num l m7 g.2.1 g.2.2
  let i := texs l m8 h.1 h.2.1 h.2.2
  (⟨a.1, b.1, c.1, d.1, e.1, g.1, i.1⟩, i.2)

theorem reqOf_sound {l : List UInt8} {m1 m2 m3 m4 m7 m8 : Nat} (h : (reqOf l m1 m2 m3 m4 m7 m8).2.2 = false) :
    l = enc (reqOf l m1 m2 m3 m4 m7 m8).1 ++ l.drop (reqOf l m1 m2 m3 m4 m7 m8).2.1 := by
  unfold reqOf at h ⊢
  simp only at h ⊢
  generalize ea : num l m1 0 false = a at h ⊢
  generalize eb : num l m2 a.2.1 a.2.2 = b at h ⊢
  generalize ec : num l m3 b.2.1 b.2.2 = c at h ⊢
  generalize ed : num l m4 c.2.1 c.2.2 = d at h ⊢
  generalize ee : tex l 4096 d.2.1 d.2.2 = e at h ⊢
  generalize eg : tex l 4096 e.2.1 e.2.2 = g at h ⊢
  generalize eh : num l m7 g.2.1 g.2.2 = j at h ⊢
  have pa := (num_le (l := l) (m := m1) (p := 0) (f := false) (Nat.zero_le _)).2
  rw [ea] at pa
  have pb := (num_le (l := l) (m := m2) (f := a.2.2) pa).2
  rw [eb] at pb
  have pc := (num_le (l := l) (m := m3) (f := b.2.2) pb).2
  rw [ec] at pc
  have pd := (num_le (l := l) (m := m4) (f := c.2.2) pc).2
  rw [ed] at pd
  have pe := (tex_le (l := l) (m := 4096) (f := d.2.2) pd).2
  rw [ee] at pe
  have pg := (tex_le (l := l) (m := 4096) (f := e.2.2) pe).2
  rw [eg] at pg
  have pj := (num_le (l := l) (m := m7) (f := g.2.2) pg).2
  rw [eh] at pj
  obtain ⟨fj, xj, _, xl⟩ := texs_ok _ _ _ pj h
  have oj := num_ok (l := l) (m := m7) (p := g.2.1) (f := g.2.2) (by rw [eh]; exact fj)
  rw [eh] at oj
  have og := tex_ok (l := l) (m := 4096) (p := e.2.1) (f := e.2.2) (by rw [eg]; exact oj.1)
  rw [eg] at og
  have oe := tex_ok (l := l) (m := 4096) (p := d.2.1) (f := d.2.2) (by rw [ee]; exact og.1)
  rw [ee] at oe
  have od := num_ok (l := l) (m := m4) (p := c.2.1) (f := c.2.2) (by rw [ed]; exact oe.1)
  rw [ed] at od
  have oc := num_ok (l := l) (m := m3) (p := b.2.1) (f := b.2.2) (by rw [ec]; exact od.1)
  rw [ec] at oc
  have ob := num_ok (l := l) (m := m2) (p := a.2.1) (f := a.2.2) (by rw [eb]; exact oc.1)
  rw [eb] at ob
  have oa := num_ok (l := l) (m := m1) (p := 0) (f := false) (by rw [ea]; exact ob.1)
  rw [ea] at oa
  have da := (pn_le (Nat.zero_le _) oa.2).2.2.2.1
  have db := (pn_le pa ob.2).2.2.2.1
  have dc := (pn_le pb oc.2).2.2.2.1
  have dd := (pn_le pc od.2).2.2.2.1
  have de := (px_le pd oe.2).2.2.1
  have dg := (px_le pe og.2).2.2.1
  have dj := (pn_le pg oj.2).2.2.2.1
  have d0 : l = digs a.1 ++ l.drop a.2.1 := da
  unfold enc
  simp only [Int.toNat_natCast, List.append_assoc]
  rw [xl, ← xj, ← dj, ← dg, ← de, ← dd, ← dc, ← db]
  exact d0

/-- What is within the limits. -/
structure Fits (r : Rq) (m1 m2 m3 m4 m7 m8 : Nat) : Prop where
  c : 0 ≤ r.c ∧ r.c ≤ m1
  t : 0 ≤ r.t ∧ r.t ≤ m2
  k : 0 ≤ r.k ∧ r.k ≤ m3
  n : 0 ≤ r.n ∧ r.n ≤ m4
  nm : r.nm.size ≤ 4096
  pt : r.pt.size ≤ 4096
  kl : r.ks.length ≤ m7
  ks : ∀ s ∈ r.ks, s.size ≤ m8
  m : m1 ≤ 65536 ∧ m2 ≤ 65536 ∧ m3 ≤ 65536 ∧ m4 ≤ 65536 ∧ m7 ≤ 65536 ∧ m8 ≤ 65536

theorem reqOf_read {l rest : List UInt8} {r : Rq} {m1 m2 m3 m4 m7 m8 : Nat} (F : Fits r m1 m2 m3 m4 m7 m8) (h : l = enc r ++ rest) :
    reqOf l m1 m2 m3 m4 m7 m8 = (r, (enc r).length, false) := by
  obtain ⟨fc, ft, fk, fn, f5, f6, f7, f8, fm⟩ := F
  have h0 : l.drop 0 = digs r.c.toNat ++ (digs r.t.toNat ++ (digs r.k.toNat ++ (digs r.n.toNat ++ (txt r.nm ++ (txt r.pt ++ (digs r.ks.length ++ (txts r.ks ++ rest))))))) := by
    rw [List.drop_zero, h]; simp [enc]
  have e1 := num_read (m := m1) (by omega) (by omega) h0
  have h1 := drop_app h0
  have e2 := num_read (m := m2) (by omega) (by omega) h1
  have h2 := drop_app h1
  have e3 := num_read (m := m3) (by omega) (by omega) h2
  have h3 := drop_app h2
  have e4 := num_read (m := m4) (by omega) (by omega) h3
  have h4 := drop_app h3
  have e5 := tex_read f5 (by omega) h4
  have h5 := drop_app h4
  have e6 := tex_read f6 (by omega) h5
  have h6 := drop_app h5
  have e7 := num_read f7 (by omega) h6
  have h7 := drop_app h6
  have e8 := texs_read r.ks _ rest f8 (by omega) h7
  unfold reqOf
  simp only [e1, e2, e3, e4, e5, e6, e7, e8]
  have z1 : ((r.c.toNat : Nat) : Int) = r.c := by omega
  have z2 : ((r.t.toNat : Nat) : Int) = r.t := by omega
  have z3 : ((r.k.toNat : Nat) : Int) = r.k := by omega
  have z4 : ((r.n.toNat : Nat) : Int) = r.n := by omega
  rw [z1, z2, z3, z4]
  refine Prod.ext rfl (Prod.ext ?_ rfl)
  simp only [enc, List.length_append]
  omega
end Go.Proofs.Ytlpgdfdadkljfaa.Order

/-
  Which requests may be, in plain mathematics: a name is a path of one part; all that may be is within the reader's limits; what bytes are a request's.
-/
namespace Go.Proofs.Ytlpgdfdadkljfaa.Order
open Route

theorem decode_four_most (s : ByteArray) (i : Nat) : (Utf8.decode s i).2 ≤ 4 := by
  unfold Utf8.decode
  simp only
  repeat' split
  all_goals simp

/-- Characters of a part: no slash among them, and at most four bytes each. -/
theorem runes_some (s : ByteArray) : ∀ (f p n : Nat), s.size ≤ p + f → runes s f p = some n → s.size ≤ p + 4 * n ∧ ∀ j, p ≤ j → j < s.size → bt s j ≠ 47
  | 0, p, n, hf, h => by
    refine ⟨by omega, fun j h1 h2 => by omega⟩
  | f + 1, p, n, hf, h => by
    by_cases hp : p < s.size
    · cases hk : okc (Utf8.decode s p).1 with
      | false => rw [runes_bad s f p hp hk] at h; cases h
      | true =>
        rw [runes_ok s f p hp hk] at h
        obtain ⟨m, hm, rfl⟩ := Option.map_eq_some_iff.1 h
        have hw := width_pos s p hp
        have hw4 := decode_four_most s p
        obtain ⟨h1, h2⟩ := runes_some s f (p + (Utf8.decode s p).2) m (by omega) hm
        refine ⟨by omega, fun j g1 g2 => ?_⟩
        by_cases e : j = p
        · subst e
          intro e47
          have e1 : Utf8.decode s j = (47, 1) := by
            have ha := bt_at s j hp
            have := decode_ascii s j hp (by omega)
            rw [this, ha, e47]
          rw [e1] at hk
          exact absurd hk (by decide)
        · by_cases hlt : j < p + (Utf8.decode s p).2
          · have := (step_no_slash s p (j - p) hp (by omega) (by omega)).2
            rwa [show p + (j - p) = j from by omega] at this
          · exact h2 j (by omega) g2
    · exact ⟨by omega, fun j h1 h2 => by omega⟩

theorem part_runes {s : ByteArray} (h : isPart s = true) : ∃ n, runes s s.size 0 = some n ∧ n ≤ 16 := by
  unfold isPart at h
  cases e : runes s s.size 0 with
  | none => rw [e] at h; cases h
  | some n =>
    rw [e] at h
    simp only [told, Bool.and_eq_true, decide_eq_true_eq] at h
    exact ⟨n, rfl, h.1.1.2⟩

theorem part_size {s : ByteArray} (h : isPart s = true) : s.size ≤ 64 := by
  obtain ⟨n, e, hn⟩ := part_runes h
  have := (runes_some s s.size 0 n (by omega) e).1
  omega

theorem extract_all (s : ByteArray) : s.extract 0 s.size = s := by
  apply ByteArray.ext; simp [ByteArray.extract, ByteArray.copySlice]

theorem parts_none {s : ByteArray} (h : ∀ j, j < s.size → bt s j ≠ 47) : parts s = [s] := by
  have := pieces_skip s 0 0 0 s.size (fun j hj => by rw [Nat.zero_add]; exact ⟨hj, h j hj⟩)
  rw [Nat.zero_add] at this
  unfold parts
  rw [this]
  show [s.extract 0 s.size] = [s]
  rw [extract_all]

theorem pieces_one (s : ByteArray) : ∀ (f st i : Nat), s.size ≤ i + f → (pieces s f st i).length = 1 → pieces s f st i = [s.extract st s.size]
  | 0, st, i, _, _ => rfl
  | f + 1, st, i, hf, h => by
    by_cases hi : i < s.size
    · by_cases hb : bt s i = 47
      · rw [pieces_slash s f st i hi hb, List.length_cons] at h
        have := List.length_pos_iff.2 (pieces_ne s f (i + 1) (i + 1))
        omega
      · rw [pieces_on s f st i hi hb] at h ⊢
        exact pieces_one s f st (i + 1) (by omega) h
    · exact pieces_end s _ st i hi

/-- A name is a path of one part. -/
theorem name_iff (s : ByteArray) : (isPath s && decide ((parts s).length = 1)) = isPart s := by
  cases h : isPart s with
  | true =>
    obtain ⟨n, e, hn⟩ := part_runes h
    have hp := parts_none (s := s) fun j hj => (runes_some s s.size 0 n (by omega) e).2 j (Nat.zero_le _) hj
    rw [isPath, hp]
    simp [arePath, h]
  | false =>
    cases h1 : decide ((parts s).length = 1) with
    | false => simp
    | true =>
      have hp := pieces_one s s.size 0 0 (by omega) (of_decide_eq_true h1)
      rw [extract_all] at hp
      have hp' : parts s = [s] := hp
      rw [isPath, hp']
      simp [arePath, h]

theorem pieces_total (s : ByteArray) (M : Nat) : ∀ (f st i : Nat), s.size ≤ i + f → st ≤ i → (∀ x ∈ pieces s f st i, x.size ≤ M) → s.size - st ≤ (pieces s f st i).length * (M + 1)
  | 0, st, i, hf, hs, h => by
    have := h (s.extract st s.size) (by simp [pieces])
    rw [ByteArray.size_extract] at this
    show s.size - st ≤ 1 * (M + 1)
    omega
  | f + 1, st, i, hf, hs, h => by
    by_cases hi : i < s.size
    · by_cases hb : bt s i = 47
      · rw [pieces_slash s f st i hi hb] at h ⊢
        have h0 := h (s.extract st i) List.mem_cons_self
        rw [ByteArray.size_extract] at h0
        have ih := pieces_total s M f (i + 1) (i + 1) (by omega) (Nat.le_refl _) fun x hx => h x (List.mem_cons_of_mem _ hx)
        rw [List.length_cons, Nat.succ_mul]
        omega
      · rw [pieces_on s f st i hi hb] at h ⊢
        exact pieces_total s M f st (i + 1) (by omega) (by omega) h
    · rw [pieces_end s _ st i hi] at h ⊢
      have := h _ List.mem_cons_self
      rw [ByteArray.size_extract] at this
      show s.size - st ≤ 1 * (M + 1)
      omega

theorem path_size {s : ByteArray} (h : isPath s = true) : s.size ≤ 520 := by
  unfold isPath arePath at h
  simp only [Bool.and_eq_true, decide_eq_true_eq, List.all_eq_true] at h
  have := pieces_total s 64 s.size 0 0 (by omega) (Nat.le_refl _) fun x hx => part_size (h.2 x hx)
  have h2 : (pieces s s.size 0 0).length ≤ 8 := h.1.2
  have h3 : (pieces s s.size 0 0).length * 65 ≤ 8 * 65 := Nat.mul_le_mul_right _ h2
  omega

def within (n lo hi : Int) : Bool := decide (lo ≤ n) && decide (n ≤ hi)
def keyOk (s : ByteArray) : Bool := within s.size 1 64
def keysOk (l : List ByteArray) : Bool := decide (l.length ≤ 16) && l.all keyOk
def noText (s : ByteArray) : Bool := decide (s.size = 0)
def noKeys (l : List ByteArray) : Bool := decide (l.length = 0)
def isZero (n : Int) : Bool := decide (n = 0)

/-- May an operation be? -/
def mayOp (r : Rq) : Bool :=
  if r.k = 1 ∨ r.k = 3 ∨ r.k = 4 ∨ r.k = 7 then isPart r.nm && noText r.pt && noKeys r.ks && isZero r.n
  else if r.k = 2 then isPart r.nm && isPath r.pt && keysOk r.ks && isZero r.n
  else if r.k = 6 then isPart r.nm && isPath r.pt && noKeys r.ks && isZero r.n
  else if r.k = 8 then noText r.nm && noText r.pt && noKeys r.ks && within r.n 0 100
  else if r.k = 5 ∨ r.k = 9 then noText r.nm && noText r.pt && noKeys r.ks && isZero r.n
  else false
/-- May a request be? -/
def may (r : Rq) : Bool := within r.c 0 7 && within r.t 1 1000 && mayOp r

theorem within_iff {n lo hi : Int} : within n lo hi = true ↔ lo ≤ n ∧ n ≤ hi := by simp [within]
theorem noKeys_iff {l : List ByteArray} : noKeys l = true ↔ l = [] := by simp [noKeys]
theorem keysOk_iff {l : List ByteArray} : keysOk l = true ↔ l.length ≤ 16 ∧ ∀ s ∈ l, 1 ≤ s.size ∧ s.size ≤ 64 := by
  simp only [keysOk, keyOk, within, Bool.and_eq_true, decide_eq_true_eq, List.all_eq_true]
  constructor
  · exact fun h => ⟨h.1, fun s hs => by have := h.2 s hs; omega⟩
  · exact fun h => ⟨h.1, fun s hs => by have := h.2 s hs; omega⟩

structure Ok (r : Rq) : Prop where
  c : 0 ≤ r.c ∧ r.c ≤ 7
  t : 1 ≤ r.t ∧ r.t ≤ 1000
  k : 1 ≤ r.k ∧ r.k ≤ 9
  n : 0 ≤ r.n ∧ r.n ≤ 100
  nm : r.nm.size ≤ 64
  pt : r.pt.size ≤ 520
  kl : r.ks.length ≤ 16
  ks : ∀ s ∈ r.ks, 1 ≤ s.size ∧ s.size ≤ 64

theorem may_ok {r : Rq} (h : may r = true) : Ok r := by
  simp only [may, Bool.and_eq_true, within_iff] at h
  obtain ⟨⟨hc, ht⟩, ho⟩ := h
  have no : ∀ {l : List ByteArray}, noKeys l = true → l.length ≤ 16 ∧ ∀ s ∈ l, 1 ≤ s.size ∧ s.size ≤ 64 := fun {l} h => by
    rw [noKeys_iff] at h; subst h; exact ⟨Nat.zero_le _, fun s hs => by cases hs⟩
  have nt : ∀ {s : ByteArray} (m : Nat), noText s = true → s.size ≤ m := fun {s} m h => by
    simp only [noText, decide_eq_true_eq] at h; omega
  have nz : ∀ {n : Int}, isZero n = true → 0 ≤ n ∧ n ≤ 100 := fun {n} h => by
    simp only [isZero, decide_eq_true_eq] at h; omega
  unfold mayOp at ho
  split at ho
  · simp only [Bool.and_eq_true] at ho
    exact ⟨hc, ht, by omega, nz ho.2, part_size ho.1.1.1, nt _ ho.1.1.2, (no ho.1.2).1, (no ho.1.2).2⟩
  split at ho
  · simp only [Bool.and_eq_true] at ho
    exact ⟨hc, ht, by omega, nz ho.2, part_size ho.1.1.1, path_size ho.1.1.2, (keysOk_iff.1 ho.1.2).1, (keysOk_iff.1 ho.1.2).2⟩
  split at ho
  · simp only [Bool.and_eq_true] at ho
    exact ⟨hc, ht, by omega, nz ho.2, part_size ho.1.1.1, path_size ho.1.1.2, (no ho.1.2).1, (no ho.1.2).2⟩
  split at ho
  · simp only [Bool.and_eq_true] at ho
    exact ⟨hc, ht, by omega, within_iff.1 ho.2, nt _ ho.1.1.1, nt _ ho.1.1.2, (no ho.1.2).1, (no ho.1.2).2⟩
  split at ho
  · simp only [Bool.and_eq_true] at ho
    exact ⟨hc, ht, by omega, nz ho.2, nt _ ho.1.1.1, nt _ ho.1.1.2, (no ho.1.2).1, (no ho.1.2).2⟩
  · cases ho

/-- The program's limits, and the document's answer's. -/
theorem fits_prog {r : Rq} (h : may r = true) : Fits r 7 1000 9 100 16 64 := by
  have o := may_ok h
  exact ⟨o.c, ⟨by have := o.t; omega, o.t.2⟩, ⟨by have := o.k; omega, o.k.2⟩, o.n, by have := o.nm; omega, by have := o.pt; omega, o.kl, fun s hs => (o.ks s hs).2, by omega⟩
theorem fits_ref {r : Rq} (h : may r = true) : Fits r 65536 65536 65536 65536 65536 4096 := by
  have o := may_ok h
  exact ⟨by have := o.c; omega, by have := o.t; omega, by have := o.k; omega, by have := o.n; omega, by have := o.nm; omega, by have := o.pt; omega, by have := o.kl; omega, fun s hs => by have := (o.ks s hs).2; omega, by omega⟩

/-- The bytes of a request that may be, and no others. -/
def IsReq (l : List UInt8) : Prop := ∃ r, may r = true ∧ l = enc r

/-- What a reader's readings come to, if all was there, nothing stands behind it, and it may be. -/
theorem told_is {l : List UInt8} {m1 m2 m3 m4 m7 m8 : Nat} (hf : (reqOf l m1 m2 m3 m4 m7 m8).2.2 = false) (hl : l.length ≤ (reqOf l m1 m2 m3 m4 m7 m8).2.1) : l = enc (reqOf l m1 m2 m3 m4 m7 m8).1 := by
  have := reqOf_sound hf
  rw [List.drop_eq_nil_of_le hl, List.append_nil] at this
  exact this
theorem enc_one {r s : Rq} {x y : List UInt8} (hr : may r = true) (hs : may s = true) (h : enc r ++ x = enc s ++ y) : r = s ∧ x = y := by
  have h1 := reqOf_read (l := enc r ++ x) (fits_prog hr) rfl
  have h2 := reqOf_read (l := enc r ++ x) (fits_prog hs) h
  have e := h1.symm.trans h2
  have e1 : r = s := congrArg Prod.fst e
  subst e1
  exact ⟨rfl, List.append_cancel_left h⟩
theorem enc_len {r : Rq} (h : may r = true) : (enc r).length ≤ 10000 := by
  have o := may_ok h
  have d : ∀ n : Nat, n < 18446744073709551616 → (digs n).length ≤ 10 := fun n h => digs_len10 h
  have t : ∀ (l : List ByteArray), (∀ s ∈ l, 1 ≤ s.size ∧ s.size ≤ 64) → (txts l).length ≤ l.length * 74 := fun l => by
    induction l with
    | nil => intro _; simp [txts]
    | cons a r ih =>
      intro h
      have h1 := h a List.mem_cons_self
      have h2 := ih fun s hs => h s (List.mem_cons_of_mem _ hs)
      have h3 := d a.size (by omega)
      have h4 : a.data.toList.length = a.size := by simp
      simp only [txts, txt, List.length_append, List.length_cons, h4, Nat.succ_mul]
      omega
  have h1 := d r.c.toNat (by have := o.c; omega)
  have h2 := d r.t.toNat (by have := o.t; omega)
  have h3 := d r.k.toNat (by have := o.k; omega)
  have h4 := d r.n.toNat (by have := o.n; omega)
  have h5 := d r.nm.size (by have := o.nm; omega)
  have h6 := d r.pt.size (by have := o.pt; omega)
  have h7 := d r.ks.length (by have := o.kl; omega)
  have h8 := t r.ks o.ks
  have h9 : r.ks.length * 74 ≤ 16 * 74 := Nat.mul_le_mul_right _ o.kl
  have e1 : r.nm.data.toList.length = r.nm.size := by simp
  have e2 : r.pt.data.toList.length = r.pt.size := by simp
  have := o.nm
  have := o.pt
  simp only [enc, txt, List.length_append, e1, e2]
  omega
end Go.Proofs.Ytlpgdfdadkljfaa.Order
