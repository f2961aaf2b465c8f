/-
  Which texts are parts and paths, as functions of bytes: what a decoder of UTF-8 steps over, a width told of bytes, the pieces between slashes; and that the two ways to say it are one.
-/
import Derived.Laws.RangeAny
import Derived.Lib.Join
namespace Go.Proofs.YtcjkficpiedpfabDoor.Route

/-- The byte at a place, as a number. -/
def bt (s : ByteArray) (i : Nat) : Nat := (s.get! i).toNat

theorem bt_lt (s : ByteArray) (i : Nat) : bt s i < 256 := (s.get! i).toNat_lt

theorem bt_at (s : ByteArray) (i : Nat) (h : i < s.size) : (s[i]'h).toNat = bt s i := by
  have := get_at s i h
  rw [Nat.add_zero] at this
  rw [bt, this]

/-- A character that a part may have. -/
def okc (c : Nat) : Bool := (97 ≤ c && c ≤ 122) || (48 ≤ c && c ≤ 57) || c == 95 || c == 45 || c == 46 || (128 ≤ c && c != 65533)

/-- How many bytes the character at a place has; 0, if none does, or FFFD. -/
def wid (s : ByteArray) (i : Nat) : Nat :=
  if bt s i < 128 then 1 else if (Utf8.decode s i).1 = 65533 then 0 else (Utf8.decode s i).2

/-- The number so far, of k bytes of a character. -/
def val (s : ByteArray) (i v0 : Nat) : Nat → Nat
  | 0 => v0
  | 1 => v0
  | (k + 2) => val s i v0 (k + 1) * 64 + bt s (i + (k + 1)) - 128

theorem val_2 (s : ByteArray) (i v0 : Nat) : val s i v0 2 = v0 * 64 + bt s (i + 1) - 128 := rfl
theorem val_3 (s : ByteArray) (i v0 : Nat) : val s i v0 3 = (v0 * 64 + bt s (i + 1) - 128) * 64 + bt s (i + 2) - 128 := rfl
theorem val_4 (s : ByteArray) (i v0 : Nat) : val s i v0 4 = ((v0 * 64 + bt s (i + 1) - 128) * 64 + bt s (i + 2) - 128) * 64 + bt s (i + 3) - 128 := rfl

/-- What is told of a whole character. -/
def fin (n least v : Nat) : Nat := if v < least ∨ 1114111 < v ∨ (55296 ≤ v ∧ v ≤ 57343) ∨ v = 65533 then 0 else n

/-- The first byte: how many bytes, the least number, the first bits. -/
def Lead (b n least v0 : Nat) : Prop :=
  (192 ≤ b ∧ b < 224 ∧ n = 2 ∧ least = 128 ∧ v0 = b - 192) ∨ (224 ≤ b ∧ b < 240 ∧ n = 3 ∧ least = 2048 ∧ v0 = b - 224) ∨ (240 ≤ b ∧ b < 248 ∧ n = 4 ∧ least = 65536 ∧ v0 = b - 240)

theorem wid_ascii (s : ByteArray) (i : Nat) (h : bt s i < 128) : wid s i = 1 := by simp [wid, h]

theorem fold (s : ByteArray) (j : Nat) : (s.get! j).toNat = bt s j := by rw [bt]

set_option maxRecDepth 100000 in
theorem decode_no_lead (s : ByteArray) (i : Nat) (h : 128 ≤ bt s i) (h2 : bt s i < 192 ∨ 248 ≤ bt s i) : Utf8.decode s i = (65533, 1) := by
  have hb := bt_lt s i
  have h0 : ¬ bt s i < 128 := by omega
  have h6 : ¬ bt s i / 32 = 6 := by omega
  have h14 : ¬ bt s i / 16 = 14 := by omega
  have h30 : ¬ bt s i / 8 = 30 := by omega
  unfold Utf8.decode Utf8.runeError
  simp only [fold, Nat.add_zero]
  simp [h0, h6, h14, h30]

theorem wid_no_lead (s : ByteArray) (i : Nat) (h : 128 ≤ bt s i) (h2 : bt s i < 192 ∨ 248 ≤ bt s i) : wid s i = 0 := by
  have hn : ¬ bt s i < 128 := by omega
  simp [wid, hn, decode_no_lead s i h h2]

set_option maxRecDepth 100000 in
theorem decode_two (s : ByteArray) (i : Nat) (h : 192 ≤ bt s i) (h2 : bt s i < 224) :
    Utf8.decode s i = if i + 1 < s.size ∧ bt s (i + 1) / 64 = 2 then (if 128 ≤ (bt s i % 32) * 64 + bt s (i + 1) % 64 then ((bt s i % 32) * 64 + bt s (i + 1) % 64, 2) else (65533, 1)) else (65533, 1) := by
  have h0 : ¬ bt s i < 128 := by omega
  have h6 : bt s i / 32 = 6 := by omega
  have h14 : ¬ bt s i / 16 = 14 := by omega
  have h30 : ¬ bt s i / 8 = 30 := by omega
  unfold Utf8.decode Utf8.runeError
  simp only [fold, Nat.add_zero]
  simp [h0, h6, h14, h30]

set_option maxRecDepth 100000 in
theorem decode_three (s : ByteArray) (i : Nat) (h : 224 ≤ bt s i) (h2 : bt s i < 240) (X : Nat) (hX : X = (bt s i % 16) * 4096 + (bt s (i + 1) % 64) * 64 + bt s (i + 2) % 64) :
    Utf8.decode s i = if (i + 1 < s.size ∧ bt s (i + 1) / 64 = 2) ∧ (i + 2 < s.size ∧ bt s (i + 2) / 64 = 2) then (if 2048 ≤ X ∧ Utf8.valid (X : Int) = true then (X, 3) else (65533, 1)) else (65533, 1) := by
  have h0 : ¬ bt s i < 128 := by omega
  have h6 : ¬ bt s i / 32 = 6 := by omega
  have h14 : bt s i / 16 = 14 := by omega
  have h30 : ¬ bt s i / 8 = 30 := by omega
  unfold Utf8.decode Utf8.runeError
  simp only [fold, Nat.add_zero]
  rw [← hX]
  simp [h0, h6, h14, h30]

set_option maxRecDepth 100000 in
theorem decode_four (s : ByteArray) (i : Nat) (h : 240 ≤ bt s i) (h2 : bt s i < 248) (X : Nat) (hX : X = (bt s i % 8) * 262144 + (bt s (i + 1) % 64) * 4096 + (bt s (i + 2) % 64) * 64 + bt s (i + 3) % 64) :
    Utf8.decode s i = if ((i + 1 < s.size ∧ bt s (i + 1) / 64 = 2) ∧ (i + 2 < s.size ∧ bt s (i + 2) / 64 = 2)) ∧ (i + 3 < s.size ∧ bt s (i + 3) / 64 = 2) then (if 65536 ≤ X ∧ Utf8.valid (X : Int) = true then (X, 4) else (65533, 1)) else (65533, 1) := by
  have h0 : ¬ bt s i < 128 := by omega
  have h6 : ¬ bt s i / 32 = 6 := by omega
  have h14 : ¬ bt s i / 16 = 14 := by omega
  have h30 : bt s i / 8 = 30 := by omega
  unfold Utf8.decode Utf8.runeError
  simp only [fold, Nat.add_zero]
  rw [← hX]
  simp [h0, h6, h14, h30]

theorem valid_iff (c : Nat) : Utf8.valid (c : Int) = true ↔ (c < 55296 ∨ (57344 ≤ c ∧ c ≤ 1114111)) := by
  simp only [Utf8.valid, Bool.or_eq_true, Bool.and_eq_true, decide_eq_true_eq]
  omega

set_option maxRecDepth 100000 in
/-- A character's bytes are all there. -/
theorem wid_whole (s : ByteArray) (i n least v0 : Nat) (hL : Lead (bt s i) n least v0) (hs : i + n ≤ s.size) (hc : ∀ j, 1 ≤ j → j < n → 128 ≤ bt s (i + j) ∧ bt s (i + j) ≤ 191) : wid s i = fin n least (val s i v0 n) := by
  have hb := bt_lt s i
  rcases hL with ⟨h1, h2, rfl, rfl, rfl⟩ | ⟨h1, h2, rfl, rfl, rfl⟩ | ⟨h1, h2, rfl, rfl, rfl⟩
  · have c1 := hc 1 (by omega) (by omega)
    have e := decode_two s i h1 h2
    rw [if_pos ⟨by omega, by omega⟩] at e
    have hv : val s i (bt s i - 192) 2 = (bt s i % 32) * 64 + bt s (i + 1) % 64 := by rw [val_2]; omega
    rw [hv]
    generalize hX : (bt s i % 32) * 64 + bt s (i + 1) % 64 = X at e ⊢
    unfold wid fin
    rw [if_neg (by omega : ¬ bt s i < 128), e]
    by_cases q : 128 ≤ X
    · rw [if_pos q]
      show (if X = 65533 then 0 else 2) = _
      split <;> split <;> first | rfl | (exfalso; omega)
    · rw [if_neg q]
      show (if 65533 = 65533 then 0 else 1) = _
      rw [if_pos rfl, if_pos (by omega)]
  · have c1 := hc 1 (by omega) (by omega)
    have c2 := hc 2 (by omega) (by omega)
    obtain ⟨X, hX⟩ : ∃ X, X = (bt s i % 16) * 4096 + (bt s (i + 1) % 64) * 64 + bt s (i + 2) % 64 := ⟨_, rfl⟩
    have e := decode_three s i h1 h2 X hX
    rw [if_pos ⟨⟨by omega, by omega⟩, ⟨by omega, by omega⟩⟩] at e; simp only [valid_iff] at e
    have hv : val s i (bt s i - 224) 3 = X := by rw [val_3]; omega
    rw [hv]
    unfold wid fin
    rw [if_neg (by omega : ¬ bt s i < 128), e]
    by_cases q : 2048 ≤ X ∧ (X < 55296 ∨ 57344 ≤ X ∧ X ≤ 1114111)
    · rw [if_pos q]
      show (if X = 65533 then 0 else 3) = _
      split <;> split <;> first | rfl | (exfalso; omega)
    · rw [if_neg q]
      show (if 65533 = 65533 then 0 else 1) = _
      rw [if_pos rfl, if_pos (by omega)]
  · have c1 := hc 1 (by omega) (by omega)
    have c2 := hc 2 (by omega) (by omega)
    have c3 := hc 3 (by omega) (by omega)
    obtain ⟨X, hX⟩ : ∃ X, X = (bt s i % 8) * 262144 + (bt s (i + 1) % 64) * 4096 + (bt s (i + 2) % 64) * 64 + bt s (i + 3) % 64 := ⟨_, rfl⟩
    have e := decode_four s i h1 h2 X hX
    rw [if_pos ⟨⟨⟨by omega, by omega⟩, ⟨by omega, by omega⟩⟩, ⟨by omega, by omega⟩⟩] at e; simp only [valid_iff] at e
    have hv : val s i (bt s i - 240) 4 = X := by rw [val_4]; omega
    rw [hv]
    unfold wid fin
    rw [if_neg (by omega : ¬ bt s i < 128), e]
    by_cases q : 65536 ≤ X ∧ (X < 55296 ∨ 57344 ≤ X ∧ X ≤ 1114111)
    · rw [if_pos q]
      show (if X = 65533 then 0 else 4) = _
      split <;> split <;> first | rfl | (exfalso; omega)
    · rw [if_neg q]
      show (if 65533 = 65533 then 0 else 1) = _
      rw [if_pos rfl, if_pos (by omega)]

set_option maxRecDepth 100000 in
/-- One of a character's bytes is none of them, or lacks. -/
theorem wid_broken (s : ByteArray) (i n least v0 : Nat) (hL : Lead (bt s i) n least v0) (j : Nat) (h1 : 1 ≤ j) (h2 : j < n) (hc : s.size ≤ i + j ∨ bt s (i + j) < 128 ∨ 191 < bt s (i + j)) : wid s i = 0 := by
  have hb := bt_lt s i
  have hbj := bt_lt s (i + j)
  have hn : wid s i = 0 ↔ (bt s i < 128 → False) ∧ ((Utf8.decode s i).1 = 65533 ∨ (Utf8.decode s i).2 = 0) := by
    unfold wid
    by_cases q : bt s i < 128
    · rw [if_pos q]; constructor
      · intro h; omega
      · intro h; exact absurd q h.1
    · rw [if_neg q]
      by_cases q2 : (Utf8.decode s i).1 = 65533
      · rw [if_pos q2]; exact ⟨fun _ => ⟨q, .inl q2⟩, fun _ => rfl⟩
      · rw [if_neg q2]; exact ⟨fun h => ⟨q, .inr h⟩, fun h => h.2.resolve_left q2⟩
  rw [hn]
  rcases hL with ⟨h3, h4, rfl, rfl, rfl⟩ | ⟨h3, h4, rfl, rfl, rfl⟩ | ⟨h3, h4, rfl, rfl, rfl⟩
  · obtain rfl : j = 1 := by omega
    have e := decode_two s i h3 h4
    rw [if_neg (by omega)] at e
    rw [e]
    exact ⟨by omega, .inl rfl⟩
  · have e := decode_three s i h3 h4 _ rfl
    rw [if_neg (by rcases (by omega : j = 1 ∨ j = 2) with rfl | rfl <;> omega)] at e
    rw [e]
    exact ⟨by omega, .inl rfl⟩
  · have e := decode_four s i h3 h4 _ rfl
    rw [if_neg (by rcases (by omega : j = 1 ∨ j = 2 ∨ j = 3) with rfl | rfl | rfl <;> omega)] at e
    rw [e]
    exact ⟨by omega, .inl rfl⟩

set_option maxRecDepth 100000 in
/-- What the decoder says, in the words of the width. -/
theorem decode_wid (s : ByteArray) (i : Nat) (hi : i < s.size) : (bt s i < 128 ∧ Utf8.decode s i = (bt s i, 1) ∧ wid s i = 1) ∨ (128 ≤ bt s i ∧ (Utf8.decode s i).1 = 65533 ∧ wid s i = 0) ∨
    (128 ≤ bt s i ∧ 128 ≤ (Utf8.decode s i).1 ∧ (Utf8.decode s i).1 ≠ 65533 ∧ wid s i = (Utf8.decode s i).2 ∧ 2 ≤ (Utf8.decode s i).2 ∧ i + (Utf8.decode s i).2 ≤ s.size) := by
  have hb := bt_lt s i
  have hB := bt_at s i hi
  by_cases h0 : bt s i < 128
  · refine .inl ⟨h0, ?_, wid_ascii s i h0⟩
    have := decode_ascii s i hi (by omega)
    rw [this, hB]
  · right
    have hh := decode_high s i hi (by omega)
    by_cases hq : (Utf8.decode s i).1 = 65533
    · exact .inl ⟨by omega, hq, by simp [wid, h0, hq]⟩
    · refine .inr ⟨by omega, hh.1, hq, by simp [wid, h0, hq], ?_⟩
      by_cases hl : bt s i < 192 ∨ 248 ≤ bt s i
      · exact absurd (by rw [decode_no_lead s i (by omega) hl]) hq
      · rcases (by omega : (192 ≤ bt s i ∧ bt s i < 224) ∨ (224 ≤ bt s i ∧ bt s i < 240) ∨ (240 ≤ bt s i ∧ bt s i < 248)) with h | h | h
        · have e := decode_two s i h.1 h.2
          generalize (bt s i % 32) * 64 + bt s (i + 1) % 64 = X at e
          by_cases q1 : i + 1 < s.size ∧ bt s (i + 1) / 64 = 2
          · rw [if_pos q1] at e
            by_cases q2 : 128 ≤ X
            · rw [if_pos q2] at e
              rw [e]; exact ⟨Nat.le_refl _, by show i + 2 ≤ s.size; omega⟩
            · rw [if_neg q2] at e
              exact absurd (by rw [e]) hq
          · rw [if_neg q1] at e
            exact absurd (by rw [e]) hq
        · have e := decode_three s i h.1 h.2 _ rfl
          generalize (bt s i % 16) * 4096 + (bt s (i + 1) % 64) * 64 + bt s (i + 2) % 64 = X at e
          by_cases q1 : (i + 1 < s.size ∧ bt s (i + 1) / 64 = 2) ∧ (i + 2 < s.size ∧ bt s (i + 2) / 64 = 2)
          · rw [if_pos q1] at e
            by_cases q2 : 2048 ≤ X ∧ Utf8.valid (X : Int) = true
            · rw [if_pos q2] at e
              rw [e]; exact ⟨by show 2 ≤ 3; omega, by show i + 3 ≤ s.size; omega⟩
            · rw [if_neg q2] at e
              exact absurd (by rw [e]) hq
          · rw [if_neg q1] at e
            exact absurd (by rw [e]) hq
        · have e := decode_four s i h.1 h.2 _ rfl
          generalize (bt s i % 8) * 262144 + (bt s (i + 1) % 64) * 4096 + (bt s (i + 2) % 64) * 64 + bt s (i + 3) % 64 = X at e
          by_cases q1 : ((i + 1 < s.size ∧ bt s (i + 1) / 64 = 2) ∧ (i + 2 < s.size ∧ bt s (i + 2) / 64 = 2)) ∧ (i + 3 < s.size ∧ bt s (i + 3) / 64 = 2)
          · rw [if_pos q1] at e
            by_cases q2 : 65536 ≤ X ∧ Utf8.valid (X : Int) = true
            · rw [if_pos q2] at e
              rw [e]; exact ⟨by show 2 ≤ 4; omega, by show i + 4 ≤ s.size; omega⟩
            · rw [if_neg q2] at e
              exact absurd (by rw [e]) hq
          · rw [if_neg q1] at e
            exact absurd (by rw [e]) hq

set_option maxRecDepth 100000 in
/-- Within what the decoder steps over there is no slash, but at the first byte. -/
theorem step_no_slash (s : ByteArray) (i j : Nat) (hi : i < s.size) (h1 : 1 ≤ j) (h2 : j < (Utf8.decode s i).2) : i + j < s.size ∧ bt s (i + j) ≠ 47 := by
  have one : ∀ x : Nat, Utf8.decode s i = (x, 1) → False := fun x e => by
    rw [e] at h2
    exact absurd h2 (by show ¬ j < 1; omega)
  by_cases h0 : bt s i < 128
  · rcases decode_wid s i hi with ⟨_, e, _⟩ | ⟨h, _⟩ | ⟨h, _⟩
    · exact absurd e (fun e => one _ e)
    · omega
    · omega
  · by_cases hl : bt s i < 192 ∨ 248 ≤ bt s i
    · exact absurd (decode_no_lead s i (by omega) hl) (fun e => one _ e)
    · rcases (by omega : (192 ≤ bt s i ∧ bt s i < 224) ∨ (224 ≤ bt s i ∧ bt s i < 240) ∨ (240 ≤ bt s i ∧ bt s i < 248)) with h | h | h
      · have e := decode_two s i h.1 h.2
        generalize (bt s i % 32) * 64 + bt s (i + 1) % 64 = X at e
        by_cases q1 : i + 1 < s.size ∧ bt s (i + 1) / 64 = 2
        · rw [if_pos q1] at e
          by_cases q2 : 128 ≤ X
          · rw [if_pos q2] at e
            rw [e] at h2
            have h2' : j < 2 := h2
            obtain rfl : j = 1 := by omega
            omega
          · rw [if_neg q2] at e
            exact absurd e (fun e => one _ e)
        · rw [if_neg q1] at e
          exact absurd e (fun e => one _ e)
      · have e := decode_three s i h.1 h.2 _ rfl
        generalize (bt s i % 16) * 4096 + (bt s (i + 1) % 64) * 64 + bt s (i + 2) % 64 = X at e
        by_cases q1 : (i + 1 < s.size ∧ bt s (i + 1) / 64 = 2) ∧ (i + 2 < s.size ∧ bt s (i + 2) / 64 = 2)
        · rw [if_pos q1] at e
          by_cases q2 : 2048 ≤ X ∧ Utf8.valid (X : Int) = true
          · rw [if_pos q2] at e
            rw [e] at h2
            have h2' : j < 3 := h2
            rcases (by omega : j = 1 ∨ j = 2) with rfl | rfl <;> omega
          · rw [if_neg q2] at e
            exact absurd e (fun e => one _ e)
        · rw [if_neg q1] at e
          exact absurd e (fun e => one _ e)
      · have e := decode_four s i h.1 h.2 _ rfl
        generalize (bt s i % 8) * 262144 + (bt s (i + 1) % 64) * 4096 + (bt s (i + 2) % 64) * 64 + bt s (i + 3) % 64 = X at e
        by_cases q1 : ((i + 1 < s.size ∧ bt s (i + 1) / 64 = 2) ∧ (i + 2 < s.size ∧ bt s (i + 2) / 64 = 2)) ∧ (i + 3 < s.size ∧ bt s (i + 3) / 64 = 2)
        · rw [if_pos q1] at e
          by_cases q2 : 65536 ≤ X ∧ Utf8.valid (X : Int) = true
          · rw [if_pos q2] at e
            rw [e] at h2
            have h2' : j < 4 := h2
            rcases (by omega : j = 1 ∨ j = 2 ∨ j = 3) with rfl | rfl | rfl <;> omega
          · rw [if_neg q2] at e
            exact absurd e (fun e => one _ e)
        · rw [if_neg q1] at e
          exact absurd e (fun e => one _ e)

/-! ### Parts -/

/-- How many characters there are from a place on; none, if one of them may not be in a part. -/
def runes (s : ByteArray) : (fuel pos : Nat) → Option Nat
  | 0, _ => some 0
  | fuel + 1, pos => if pos < s.size then (if okc (Utf8.decode s pos).1 then (runes s fuel (pos + (Utf8.decode s pos).2)).map (· + 1) else none) else some 0

theorem runes_end (s : ByteArray) (fuel pos : Nat) (h : ¬ pos < s.size) : runes s fuel pos = some 0 := by
  cases fuel with
  | zero => rfl
  | succ f => simp [runes, h]
theorem runes_bad (s : ByteArray) (fuel pos : Nat) (h : pos < s.size) (hk : okc (Utf8.decode s pos).1 = false) : runes s (fuel + 1) pos = none := by simp [runes, h, hk]
theorem runes_ok (s : ByteArray) (fuel pos : Nat) (h : pos < s.size) (hk : okc (Utf8.decode s pos).1 = true) : runes s (fuel + 1) pos = (runes s fuel (pos + (Utf8.decode s pos).2)).map (· + 1) := by simp [runes, h, hk]

theorem width_pos (s : ByteArray) (pos : Nat) (h : pos < s.size) : 1 ≤ (Utf8.decode s pos).2 := by
  by_cases ha : (s[pos]'h).toNat < 128
  · rw [decode_ascii s pos h ha]; exact Nat.le_refl _
  · exact (decode_high s pos h (by omega)).2

/-- What is told of c characters and those that are to come. -/
def told (s : ByteArray) : Option Nat → Bool
  | none => false
  | some n => decide (1 ≤ n ∧ n ≤ 16) && !(s.toList == [46]) && !(s.toList == [46, 46])

/-- Is a text a part? -/
def isPart (s : ByteArray) : Bool := told s (runes s s.size 0)

/-- A character of a part, told by its bytes. -/
theorem okc_wid (s : ByteArray) (i : Nat) (hi : i < s.size) : okc (Utf8.decode s i).1 = (decide (1 < wid s i) || (decide (wid s i = 1) && okc (bt s i))) ∧ (okc (Utf8.decode s i).1 = true → (Utf8.decode s i).2 = wid s i) := by
  rcases decode_wid s i hi with ⟨h, e, e2⟩ | ⟨h, e, e2⟩ | ⟨h, h2, h3, h4, h5, h6⟩
  · rw [e, e2]; simp
  · rw [e, e2]; simp [okc]
  · constructor
    · have : decide (1 < wid s i) = true := decide_eq_true (by omega)
      rw [this]; simp [okc, h2, h3]
    · intro _; exact h4.symm

/-! ### Pieces -/

/-- What stands between slashes, from a place on. -/
def pieces (s : ByteArray) : (fuel start i : Nat) → List ByteArray
  | 0, start, _ => [s.extract start s.size]
  | fuel + 1, start, i => if i < s.size then (if bt s i = 47 then s.extract start i :: pieces s fuel (i + 1) (i + 1) else pieces s fuel start (i + 1)) else [s.extract start s.size]

def parts (s : ByteArray) : List ByteArray := pieces s s.size 0 0

theorem pieces_end (s : ByteArray) (fuel start i : Nat) (h : ¬ i < s.size) : pieces s fuel start i = [s.extract start s.size] := by
  cases fuel with
  | zero => rfl
  | succ f => simp [pieces, h]
theorem pieces_slash (s : ByteArray) (fuel start i : Nat) (h : i < s.size) (hb : bt s i = 47) : pieces s (fuel + 1) start i = s.extract start i :: pieces s fuel (i + 1) (i + 1) := by simp [pieces, h, hb]
theorem pieces_on (s : ByteArray) (fuel start i : Nat) (h : i < s.size) (hb : bt s i ≠ 47) : pieces s (fuel + 1) start i = pieces s fuel start (i + 1) := by simp [pieces, h, hb]
theorem pieces_ne (s : ByteArray) (fuel start i : Nat) : pieces s fuel start i ≠ [] := by
  induction fuel generalizing start i with
  | zero => simp [pieces]
  | succ f ih =>
    simp only [pieces]
    split
    · split
      · simp
      · exact ih _ _
    · simp

/-- More steps than there are bytes change nothing. -/
theorem pieces_fuel (s : ByteArray) (f g start i : Nat) (hf : s.size ≤ i + f) (hg : s.size ≤ i + g) : pieces s f start i = pieces s g start i := by
  induction f generalizing g start i with
  | zero => rw [pieces_end s 0 start i (by omega), pieces_end s g start i (by omega)]
  | succ f ih =>
    by_cases h : i < s.size
    · obtain ⟨g', rfl⟩ : ∃ g', g = g' + 1 := ⟨g - 1, by omega⟩
      by_cases hb : bt s i = 47
      · rw [pieces_slash s f start i h hb, pieces_slash s g' start i h hb, ih g' _ _ (by omega) (by omega)]
      · rw [pieces_on s f start i h hb, pieces_on s g' start i h hb, ih g' _ _ (by omega) (by omega)]
    · rw [pieces_end s _ start i h, pieces_end s _ start i h]

/-- Steps over bytes that are no slashes. -/
theorem pieces_skip (s : ByteArray) (f start i n : Nat) (hn : ∀ j, j < n → i + j < s.size ∧ bt s (i + j) ≠ 47) : pieces s (f + n) start i = pieces s f start (i + n) := by
  induction n generalizing i with
  | zero => rfl
  | succ n ih =>
    have h0 := hn 0 (by omega)
    rw [show f + (n + 1) = (f + n) + 1 from by omega, pieces_on s _ start i (by simpa using h0.1) (by simpa using h0.2), ih (i + 1) (fun j hj => by
      have := hn (j + 1) (by omega)
      rwa [show i + 1 + j = i + (j + 1) from by omega])]
    congr 1; omega

/-- May these be a path's? -/
def arePath (l : List ByteArray) : Bool := decide (1 ≤ l.length ∧ l.length ≤ 8) && l.all isPart
def isPath (s : ByteArray) : Bool := arePath (parts s)

/-- Is s a path under dir? -/
def isUnder (d s : ByteArray) : Bool := isPath d && isPath s && decide ((parts d).length < (parts s).length ∧ (parts s).take (parts d).length = parts d)

/-- Parts in one text. -/
def joined (l : List ByteArray) : ByteArray := ⟨(Lib.join (l.map (·.data.toList)) [47]).toArray⟩

theorem arePath_many (l r : List ByteArray) (h : 8 ≤ l.length) (hr : r ≠ []) : arePath (l ++ r) = false := by
  have : 1 ≤ r.length := List.length_pos_iff.2 hr
  have h9 : ¬ (1 ≤ (l ++ r).length ∧ (l ++ r).length ≤ 8) := by rw [List.length_append]; omega
  rw [arePath, decide_eq_false h9, Bool.false_and]
end Go.Proofs.YtcjkficpiedpfabDoor.Route
