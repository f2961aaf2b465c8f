/-
  Bytes in chunks, as functions of lists of bytes: where the first chunk ends, all chunks, what they are joined, how long they are, and what stays of them with more bytes behind.
-/
import Derived.Laws.RangeAny
namespace Go.Proofs.YtcjkficpiedpfabDoor.Chunk

/-- A text of these bytes. -/
def ofL (l : List UInt8) : ByteArray := ⟨l.toArray⟩
/-- A text's bytes. -/
def toL (s : ByteArray) : List UInt8 := s.data.toList

theorem toL_ofL (l : List UInt8) : toL (ofL l) = l := by simp [toL, ofL]
theorem ofL_toL (s : ByteArray) : ofL (toL s) = s := by simp [toL, ofL]
theorem ofL_inj {a b : List UInt8} (h : ofL a = ofL b) : a = b := by rw [← toL_ofL a, h, toL_ofL]
theorem size_ofL (l : List UInt8) : (ofL l).size = l.length := List.size_toArray
theorem length_toL (s : ByteArray) : (toL s).length = s.size := Array.length_toList

theorem extract_ofL (l : List UInt8) (i j : Nat) : (ofL l).extract i j = ofL ((l.drop i).take (j - i)) := by
  apply ByteArray.ext
  apply Array.ext'
  simp [ofL, ByteArray.data_extract, List.extract_eq_take_drop]

/-- The byte at a place, as a number. -/
def bt (s : ByteArray) (i : Nat) : Nat := (s.get! i).toNat

theorem bt_lt (s : ByteArray) (i : Nat) : bt s i < 256 := (s.get! i).toNat_lt

theorem bt_at (s : ByteArray) (i : Nat) (h : i < s.size) : (s[i]'h).toNat = bt s i := by
  have := get_at s i h
  rw [Nat.add_zero] at this
  rw [bt, this]

theorem bt_ofL (l : List UInt8) (i : Nat) (h : i < l.length) : bt (ofL l) i = (l[i]'h).toNat := by
  rw [← bt_at (ofL l) i (by rw [size_ofL]; exact h)]
  rfl

theorem drop_at (l : List UInt8) (i : Nat) (h : i < l.length) : ∃ b, l.drop i = b :: l.drop (i + 1) ∧ b.toNat = bt (ofL l) i :=
  ⟨l[i], List.drop_eq_getElem_cons h, (bt_ofL l i h).symm⟩

/-- 31 times the byte ahead and this one have all of the mask's bits. -/
def has (a b K : Nat) : Bool := decide ((31 * a + b) &&& K = K)

/-- A chunk ends behind its n-th byte b, ahead of which stands a. -/
def ends (m M K n a b : Nat) : Bool := decide (n = M) || (decide (m ≤ n) && has a b K)

/-- How many bytes more a chunk has that has n, the last of them a. -/
def first (m M K : Nat) : Nat → Nat → List UInt8 → Nat
  | _, _, [] => 0
  | a, n, b :: r => if ends m M K (n + 1) a b.toNat = true then 1 else 1 + first m M K b.toNat (n + 1) r

theorem first_nil (m M K a n : Nat) : first m M K a n [] = 0 := rfl
theorem first_end {m M K a n : Nat} {b : UInt8} {r : List UInt8} (h : ends m M K (n + 1) a b.toNat = true) : first m M K a n (b :: r) = 1 := by simp [first, h]
theorem first_on {m M K a n : Nat} {b : UInt8} {r : List UInt8} (h : ends m M K (n + 1) a b.toNat = false) : first m M K a n (b :: r) = 1 + first m M K b.toNat (n + 1) r := by simp [first, h]

theorem first_le (m M K a n : Nat) (l : List UInt8) : first m M K a n l ≤ l.length := by
  induction l generalizing a n with
  | nil => simp [first]
  | cons b r ih =>
    have := ih b.toNat (n + 1)
    rw [first]
    split <;> simp only [List.length_cons] <;> omega

theorem first_pos (m M K a n : Nat) (l : List UInt8) (h : 0 < l.length) : 1 ≤ first m M K a n l := by
  cases l with
  | nil => simp at h
  | cons b r => rw [first]; split <;> omega

theorem first_max (m M K a n : Nat) (l : List UInt8) (h : n < M) : first m M K a n l + n ≤ M := by
  induction l generalizing a n with
  | nil => simp [first]; omega
  | cons b r ih =>
    rw [first]
    split
    · omega
    · rename_i he
      have : n + 1 ≠ M := fun e => he (by simp [ends, e])
      have := ih b.toNat (n + 1) (by omega)
      omega

/-- Where bytes are left, a chunk has at least m. -/
theorem first_min (m M K a n : Nat) (l : List UInt8) (hM : m ≤ M) (h : first m M K a n l < l.length) : m ≤ first m M K a n l + n := by
  induction l generalizing a n with
  | nil => simp [first] at h
  | cons b r ih =>
    rw [first] at h ⊢
    split
    · rename_i he
      simp only [ends, Bool.or_eq_true, decide_eq_true_eq, Bool.and_eq_true] at he
      omega
    · rename_i he
      rw [if_neg he, List.length_cons] at h
      have := ih b.toNat (n + 1) (by omega)
      omega

/-- Where bytes are left, more of them behind turn nothing. -/
theorem first_more (m M K a n : Nat) (l r : List UInt8) (h : first m M K a n l < l.length) : first m M K a n (l ++ r) = first m M K a n l := by
  induction l generalizing a n with
  | nil => simp [first] at h
  | cons b t ih =>
    rw [first] at h
    rw [List.cons_append, first, first]
    split
    · rfl
    · rename_i he
      rw [if_neg he, List.length_cons] at h
      rw [ih b.toNat (n + 1) (by omega)]

/-- With as many bytes least as most, a chunk has these. -/
theorem first_equal (M K a n : Nat) (l : List UInt8) (h : n < M) : first M M K a n l = min (M - n) l.length := by
  induction l generalizing a n with
  | nil => simp [first]
  | cons b r ih =>
    rw [first]
    split
    · rename_i he
      simp only [ends, Bool.or_eq_true, decide_eq_true_eq, Bool.and_eq_true] at he
      simp only [List.length_cons]
      omega
    · rename_i he
      have : n + 1 ≠ M := fun e => he (by simp [ends, e])
      rw [ih b.toNat (n + 1) (by omega)]
      simp only [List.length_cons]
      omega

/-- How many bytes the first chunk has. -/
def size1 (m M K : Nat) (l : List UInt8) : Nat := first m M K 0 0 l

/-- The chunks. -/
def pcs (m M K : Nat) : Nat → List UInt8 → List (List UInt8)
  | 0, _ => []
  | f + 1, l => if l.length = 0 then [] else l.take (size1 m M K l) :: pcs m M K f (l.drop (size1 m M K l))

theorem pcs_nil (m M K f : Nat) : pcs m M K f [] = [] := by cases f <;> rfl

theorem pcs_fuel (m M K : Nat) (f g : Nat) (l : List UInt8) (hf : l.length ≤ f) (hg : l.length ≤ g) : pcs m M K f l = pcs m M K g l := by
  induction f generalizing g l with
  | zero => have e : l = [] := List.eq_nil_of_length_eq_zero (by omega); subst e; rw [pcs_nil, pcs_nil]
  | succ f ih =>
    cases g with
    | zero => have e : l = [] := List.eq_nil_of_length_eq_zero (by omega); subst e; rw [pcs_nil, pcs_nil]
    | succ g =>
      rw [pcs, pcs]
      split
      · rfl
      · have h1 := first_pos m M K 0 0 l (by omega)
        rw [ih g _ (by rw [List.length_drop, size1]; omega) (by rw [List.length_drop, size1]; omega)]

/-- All chunks of a text. -/
def cuts (m M K : Nat) (l : List UInt8) : List (List UInt8) := pcs m M K l.length l

theorem cuts_nil (m M K : Nat) : cuts m M K [] = [] := rfl
theorem cuts_cons (m M K : Nat) (l : List UInt8) (h : 0 < l.length) : cuts m M K l = l.take (size1 m M K l) :: cuts m M K (l.drop (size1 m M K l)) := by
  have h1 := first_pos m M K 0 0 l h
  rw [cuts, cuts]
  cases e : l.length with
  | zero => omega
  | succ n =>
    rw [pcs, if_neg (by omega), pcs_fuel m M K n _ _ (by rw [List.length_drop, size1]; omega) (Nat.le_refl _)]

theorem cuts_ind {m M K : Nat} {motive : List UInt8 → Prop} (h0 : motive []) (h1 : ∀ l, 0 < l.length → motive (l.drop (size1 m M K l)) → motive l) : ∀ l, motive l := by
  have aux : ∀ n (l : List UInt8), l.length ≤ n → motive l := by
    intro n
    induction n with
    | zero => intro l hl; have e : l = [] := List.eq_nil_of_length_eq_zero (by omega); subst e; exact h0
    | succ n ih =>
      intro l hl
      by_cases hz : 0 < l.length
      · refine h1 l hz (ih _ ?_)
        have := first_pos m M K 0 0 l hz
        rw [List.length_drop, size1]; omega
      · have e : l = [] := List.eq_nil_of_length_eq_zero (by omega)
        subst e; exact h0
  exact fun l => aux l.length l (Nat.le_refl _)

theorem cuts_join (m M K : Nat) (l : List UInt8) : (cuts m M K l).flatten = l := by
  refine cuts_ind (m := m) (M := M) (K := K) (motive := fun l => (cuts m M K l).flatten = l) rfl ?_ l
  intro l hl ih
  rw [cuts_cons m M K l hl, List.flatten_cons, ih, List.take_append_drop]

theorem cuts_count (m M K : Nat) (l : List UInt8) : (cuts m M K l).length ≤ l.length := by
  refine cuts_ind (m := m) (M := M) (K := K) (motive := fun l => (cuts m M K l).length ≤ l.length) (Nat.le_refl _) ?_ l
  intro l hl ih
  have := first_pos m M K 0 0 l hl
  rw [cuts_cons m M K l hl, List.length_cons]
  rw [List.length_drop, size1] at ih
  rw [size1]
  omega

theorem cuts_pos (m M K : Nat) (l : List UInt8) (h : 0 < l.length) : 0 < (cuts m M K l).length := by
  rw [cuts_cons m M K l h]; simp

/-- Every chunk has 1 to M bytes, all but the last at least m. -/
theorem cuts_sizes (m M K : Nat) (l : List UInt8) (hm : m ≤ M) (hM : 0 < M) : ∀ i, i < (cuts m M K l).length → 1 ≤ ((cuts m M K l).getD i []).length ∧ ((cuts m M K l).getD i []).length ≤ M ∧ (i + 1 < (cuts m M K l).length → m ≤ ((cuts m M K l).getD i []).length) := by
  refine cuts_ind (m := m) (M := M) (K := K) (motive := fun l => ∀ i, i < (cuts m M K l).length → 1 ≤ ((cuts m M K l).getD i []).length ∧ ((cuts m M K l).getD i []).length ≤ M ∧ (i + 1 < (cuts m M K l).length → m ≤ ((cuts m M K l).getD i []).length)) ?_ ?_ l
  · intro i hi; simp [cuts_nil] at hi
  · intro l hl ih i hi
    have h1 := first_pos m M K 0 0 l hl
    have h2 := first_max m M K 0 0 l hM
    have h3 := first_le m M K 0 0 l
    have h4 := first_min m M K 0 0 l hm
    rw [cuts_cons m M K l hl] at hi ⊢
    cases i with
    | zero =>
      simp only [List.getD_cons_zero, List.length_take, List.length_cons]
      refine ⟨by rw [size1]; omega, by rw [size1]; omega, fun hc => ?_⟩
      have h5 := cuts_count m M K (l.drop (size1 m M K l))
      rw [List.length_drop, size1] at h5
      rw [size1] at hc ⊢
      omega
    | succ i =>
      have := ih i (by simpa using hi)
      simpa using this

/-- With more bytes behind, all chunks but the last stay. -/
theorem cuts_more (m M K : Nat) (l r : List UInt8) : ∀ i, i + 1 < (cuts m M K l).length → i < (cuts m M K (l ++ r)).length ∧ (cuts m M K (l ++ r)).getD i [] = (cuts m M K l).getD i [] := by
  refine cuts_ind (m := m) (M := M) (K := K) (motive := fun l => ∀ i, i + 1 < (cuts m M K l).length → i < (cuts m M K (l ++ r)).length ∧ (cuts m M K (l ++ r)).getD i [] = (cuts m M K l).getD i []) ?_ ?_ l
  · intro i hi; simp [cuts_nil] at hi
  · intro l hl ih i hi
    have h1 := first_pos m M K 0 0 l hl
    have h3 := first_le m M K 0 0 l
    rw [cuts_cons m M K l hl, List.length_cons] at hi
    have h5 := cuts_count m M K (l.drop (size1 m M K l))
    rw [List.length_drop] at h5
    have hlt : first m M K 0 0 l < l.length := by rw [size1] at hi h5; omega
    have he : size1 m M K (l ++ r) = size1 m M K l := first_more m M K 0 0 l r hlt
    have ht : (l ++ r).take (size1 m M K l) = l.take (size1 m M K l) := List.take_append_of_le_length (by rw [size1]; omega)
    have hd : (l ++ r).drop (size1 m M K l) = l.drop (size1 m M K l) ++ r := List.drop_append_of_le_length (by rw [size1]; omega)
    rw [cuts_cons m M K (l ++ r) (by rw [List.length_append]; omega), cuts_cons m M K l hl, he, ht, hd]
    cases i with
    | zero => simp
    | succ i =>
      have := ih i (by omega)
      simpa using this

/-- With as many bytes least as most: how many chunks, and how long. -/
theorem cuts_equal (M K : Nat) (l : List UInt8) (hM : 0 < M) : (cuts M M K l).length = (l.length + M - 1) / M := by
  refine cuts_ind (m := M) (M := M) (K := K) (motive := fun l => (cuts M M K l).length = (l.length + M - 1) / M) ?_ ?_ l
  · rw [cuts_nil]; simp only [List.length_nil, Nat.zero_add]; rw [Nat.div_eq_of_lt (by omega)]
  · intro l hl ih
    have he : size1 M M K l = min M l.length := by have := first_equal M K 0 0 l hM; rwa [Nat.sub_zero] at this
    rw [cuts_cons M M K l hl, List.length_cons, ih, he, List.length_drop]
    by_cases hc : l.length ≤ M
    · rw [Nat.min_eq_right hc, Nat.sub_self, Nat.zero_add, Nat.div_eq_of_lt (by omega)]
      have : (l.length + M - 1) / M = 1 := by
        rw [Nat.div_eq_iff hM]; omega
      omega
    · rw [Nat.min_eq_left (by omega)]
      have e : l.length + M - 1 = (l.length - M + M - 1) + M := by omega
      rw [e, Nat.add_div_right _ hM]

/-- A mask's bits, one by one. -/
def bitsAll : Nat → Nat → Nat → Bool
  | 0, _, _ => true
  | f + 1, n, k => if k % 2 = 1 ∧ n % 2 = 0 then false else bitsAll f (n / 2) (k / 2)

theorem land_half (n k : Nat) : (n &&& k = k) ↔ ((n / 2 &&& k / 2 = k / 2) ∧ ¬ (k % 2 = 1 ∧ n % 2 = 0)) := by
  constructor
  · intro h
    constructor
    · rw [← Nat.and_div_two, h]
    · rintro ⟨h1, h2⟩
      have h3 : (n &&& k).testBit 0 = k.testBit 0 := by rw [h]
      rw [Nat.testBit_and] at h3
      simp [Nat.testBit_zero, h1, h2] at h3
  · rintro ⟨h1, h2⟩
    apply Nat.eq_of_testBit_eq
    intro i
    rw [Nat.testBit_and]
    cases i with
    | zero =>
      simp only [Nat.testBit_zero]
      by_cases hk : k % 2 = 1
      · have : n % 2 = 1 := by omega
        simp [hk, this]
      · simp [hk]
    | succ i =>
      rw [Nat.testBit_succ, Nat.testBit_succ, ← Nat.testBit_and, h1]

theorem bitsAll_has (f n k : Nat) (h : k < 2 ^ f) : bitsAll f n k = decide (n &&& k = k) := by
  induction f generalizing n k with
  | zero =>
    have : k = 0 := by simpa using h
    subst this
    simp [bitsAll]
  | succ f ih =>
    rw [bitsAll]
    have hl := land_half n k
    split
    · rename_i hc
      rw [decide_eq_false]
      intro h2
      exact (hl.1 h2).2 hc
    · rename_i hc
      rw [ih (n / 2) (k / 2) (by rw [Nat.pow_succ] at h; omega)]
      rw [Bool.eq_iff_iff, decide_eq_true_eq, decide_eq_true_eq, hl]
      exact ⟨fun h => ⟨h, hc⟩, fun h => h.1⟩

/-- Texts joined. -/
def cat (l : List ByteArray) : ByteArray := ofL (l.map toL).flatten

/-- All chunks of a text, as texts. -/
def chunks (m M K : Nat) (s : ByteArray) : List ByteArray := (cuts m M K (toL s)).map ofL

theorem chunks_count (m M K : Nat) (s : ByteArray) : (chunks m M K s).length ≤ s.size := by
  have := cuts_count m M K (toL s)
  rw [length_toL] at this
  simpa [chunks] using this

theorem chunks_cat (m M K : Nat) (s : ByteArray) : cat (chunks m M K s) = s := by
  rw [cat, chunks, List.map_map]
  have : (toL ∘ ofL) = id := by funext l; exact toL_ofL l
  rw [this, List.map_id, cuts_join, ofL_toL]

theorem chunks_get (m M K : Nat) (s : ByteArray) (i : Nat) (h : i < (chunks m M K s).length) : (chunks m M K s).getD i ByteArray.empty = ofL ((cuts m M K (toL s)).getD i []) := by
  have h2 : i < (cuts m M K (toL s)).length := by simpa [chunks] using h
  simp [chunks, List.getD_eq_getElem?_getD, List.getElem?_eq_getElem h2]

theorem chunks_sizes (m M K : Nat) (s : ByteArray) (hm : m ≤ M) (hM : 0 < M) (i : Nat) (h : i < (chunks m M K s).length) : 1 ≤ ((chunks m M K s).getD i ByteArray.empty).size ∧ ((chunks m M K s).getD i ByteArray.empty).size ≤ M ∧ (i + 1 < (chunks m M K s).length → m ≤ ((chunks m M K s).getD i ByteArray.empty).size) := by
  have hl : (chunks m M K s).length = (cuts m M K (toL s)).length := by simp [chunks]
  rw [chunks_get m M K s i h, size_ofL, hl]
  exact cuts_sizes m M K (toL s) hm hM i (by omega)

theorem chunks_more (m M K : Nat) (s r : ByteArray) (i : Nat) (h : i + 1 < (chunks m M K s).length) : i < (chunks m M K (s ++ r)).length ∧ (chunks m M K (s ++ r)).getD i ByteArray.empty = (chunks m M K s).getD i ByteArray.empty := by
  have hl : (chunks m M K s).length = (cuts m M K (toL s)).length := by simp [chunks]
  have hl2 : (chunks m M K (s ++ r)).length = (cuts m M K (toL s ++ toL r)).length := by simp [chunks, toL]
  have := cuts_more m M K (toL s) (toL r) i (by omega)
  refine ⟨by omega, ?_⟩
  rw [chunks_get m M K s i (by omega), chunks_get m M K (s ++ r) i (by omega)]
  have e : toL (s ++ r) = toL s ++ toL r := by simp [toL]
  rw [e, this.2]

theorem chunks_equal (M K : Nat) (s : ByteArray) (hM : 0 < M) : (chunks M M K s).length = (s.size + M - 1) / M := by
  have := cuts_equal M K (toL s) hM
  rw [length_toL] at this
  simpa [chunks] using this

theorem chunks_rest (m M K : Nat) (s : ByteArray) (h : 0 < s.size) : chunks m M K s = ofL ((toL s).take (size1 m M K (toL s))) :: chunks m M K (ofL ((toL s).drop (size1 m M K (toL s)))) := by
  rw [chunks, cuts_cons m M K (toL s) (by rw [length_toL]; exact h), List.map_cons, chunks, toL_ofL]
end Go.Proofs.YtcjkficpiedpfabDoor.Chunk
