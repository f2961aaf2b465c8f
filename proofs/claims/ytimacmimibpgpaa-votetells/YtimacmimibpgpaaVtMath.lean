/-
  Votes as plain lists: who says a thing, each once and rising; how many these are; what enough say first.
-/
import Derived.Test.YtimacmimibpgpaaRows
namespace Go.Proofs.Ytimacmimibpgpaa.Vote

/-- A vote: who says it, and what. -/
abbrev Vt := Int × ByteArray
def noVt : Vt := (0, ByteArray.empty)
def vtAt (l : List Vt) (j : Nat) : Vt := l.getD j noVt

/-- All that say it, as they come. -/
def saying (l : List Vt) (t : ByteArray) : List Int := (l.filter fun v => decide (v.2 = t)).map (·.1)

/-- One more among numbers that rise. -/
def insI (x : Int) : List Int → List Int
  | [] => [x]
  | y :: r => if y < x then y :: insI x r else if y = x then y :: r else x :: y :: r

/-- All that say it, each once, rising. -/
def who (l : List Vt) (t : ByteArray) : List Int := (saying l t).foldl (fun out x => insI x out) []
/-- How many these are. -/
def cnt (l : List Vt) (t : ByteArray) : Nat := (who l t).length

abbrev Rise (l : List Int) : Prop := l.Pairwise (· < ·)

theorem mem_insI (x z : Int) : ∀ l, z ∈ insI x l ↔ z = x ∨ z ∈ l
  | [] => by simp [insI]
  | y :: r => by
    unfold insI
    split
    · rw [List.mem_cons, mem_insI x z r, List.mem_cons]
      constructor
      · rintro (h | h | h)
        · exact .inr (.inl h)
        · exact .inl h
        · exact .inr (.inr h)
      · rintro (h | h | h)
        · exact .inr (.inl h)
        · exact .inl h
        · exact .inr (.inr h)
    · split
      · rename_i h; subst h
        simp
      · simp

theorem rise_insI (x : Int) : ∀ l, Rise l → Rise (insI x l)
  | [], _ => by simp [insI]
  | y :: r, h => by
    obtain ⟨h1, h2⟩ := List.pairwise_cons.1 h
    unfold insI
    split
    · rename_i hy
      refine List.pairwise_cons.2 ⟨fun z hz => ?_, rise_insI x r h2⟩
      rcases (mem_insI x z r).1 hz with rfl | hz
      · exact hy
      · exact h1 z hz
    · split
      · exact h
      · refine List.pairwise_cons.2 ⟨fun z hz => ?_, h⟩
        rcases List.mem_cons.1 hz with rfl | hz
        · omega
        · have := h1 z hz; omega

theorem insI_old {x : Int} : ∀ {l}, Rise l → x ∈ l → insI x l = l
  | [], _, h => by simp at h
  | y :: r, hr, h => by
    obtain ⟨h1, h2⟩ := List.pairwise_cons.1 hr
    unfold insI
    rcases List.mem_cons.1 h with rfl | h
    · simp
    · rw [if_pos (h1 x h), insI_old h2 h]

theorem insI_new {x : Int} : ∀ {l}, x ∉ l → (insI x l).length = l.length + 1
  | [], _ => rfl
  | y :: r, h => by
    have h1 : x ≠ y := fun e => h (by rw [e]; exact List.mem_cons_self ..)
    have h2 : x ∉ r := fun e => h (List.mem_cons_of_mem _ e)
    unfold insI
    split
    · rw [List.length_cons, insI_new h2, List.length_cons]
    · rw [if_neg (fun e => h1 e.symm)]; rfl

/-- Rising rows of the same numbers are one. -/
theorem rise_unique : ∀ {a b : List Int}, Rise a → Rise b → (∀ x, x ∈ a ↔ x ∈ b) → a = b
  | [], [], _, _, _ => rfl
  | [], y :: b, _, _, h => by have := (h y).2 (List.mem_cons_self ..); simp at this
  | x :: a, [], _, _, h => by have := (h x).1 (List.mem_cons_self ..); simp at this
  | x :: a, y :: b, ha, hb, h => by
    obtain ⟨a1, a2⟩ := List.pairwise_cons.1 ha
    obtain ⟨b1, b2⟩ := List.pairwise_cons.1 hb
    have exy : x = y := by
      rcases List.mem_cons.1 ((h x).1 (List.mem_cons_self ..)) with e | h1
      · exact e
      · rcases List.mem_cons.1 ((h y).2 (List.mem_cons_self ..)) with e | h2
        · exact e.symm
        · have := b1 x h1; have := a1 y h2; omega
    subst exy
    congr 1
    refine rise_unique a2 b2 fun z => ?_
    constructor
    · intro hz
      rcases List.mem_cons.1 ((h z).1 (List.mem_cons_of_mem _ hz)) with e | h1
      · subst e; have := a1 z hz; omega
      · exact h1
    · intro hz
      rcases List.mem_cons.1 ((h z).2 (List.mem_cons_of_mem _ hz)) with e | h1
      · subst e; have := b1 z hz; omega
      · exact h1

theorem fold_ins : ∀ (xs out : List Int), Rise out → Rise (xs.foldl (fun out x => insI x out) out) ∧ ∀ z, z ∈ xs.foldl (fun out x => insI x out) out ↔ z ∈ out ∨ z ∈ xs
  | [], out, h => ⟨h, fun z => by simp⟩
  | x :: xs, out, h => by
    obtain ⟨h1, h2⟩ := fold_ins xs (insI x out) (rise_insI x out h)
    refine ⟨h1, fun z => ?_⟩
    rw [List.foldl_cons, h2 z, mem_insI, List.mem_cons]
    constructor
    · rintro ((h | h) | h)
      · exact .inr (.inl h)
      · exact .inl h
      · exact .inr (.inr h)
    · rintro (h | h | h)
      · exact .inl (.inr h)
      · exact .inl (.inl h)
      · exact .inr h

theorem rise_who (l : List Vt) (t : ByteArray) : Rise (who l t) := (fold_ins _ [] List.Pairwise.nil).1
theorem mem_saying {l : List Vt} {t : ByteArray} {x : Int} : x ∈ saying l t ↔ (x, t) ∈ l := by
  simp only [saying, List.mem_map, List.mem_filter, decide_eq_true_eq]
  constructor
  · rintro ⟨v, ⟨h, rfl⟩, rfl⟩; exact h
  · intro h; exact ⟨_, ⟨h, rfl⟩, rfl⟩
theorem mem_who {l : List Vt} {t : ByteArray} {x : Int} : x ∈ who l t ↔ (x, t) ∈ l := by
  rw [who, (fold_ins _ [] List.Pairwise.nil).2 x, mem_saying]; simp

theorem saying_snoc (l : List Vt) (v : Vt) (t : ByteArray) : saying (l ++ [v]) t = if v.2 = t then saying l t ++ [v.1] else saying l t := by
  unfold saying
  rw [List.filter_append, List.map_append]
  by_cases h : v.2 = t
  · simp [h]
  · simp [h]
theorem who_snoc (l : List Vt) (v : Vt) (t : ByteArray) : who (l ++ [v]) t = if v.2 = t then insI v.1 (who l t) else who l t := by
  unfold who
  rw [saying_snoc]
  split
  · rw [List.foldl_append]; rfl
  · rfl
theorem who_nil (t : ByteArray) : who [] t = [] := rfl

theorem who_len (l : List Vt) (t : ByteArray) : (who l t).length ≤ l.length := by
  have : ∀ (xs out : List Int), (xs.foldl (fun out x => insI x out) out).length ≤ out.length + xs.length := by
    intro xs
    induction xs with
    | nil => intro out; simp
    | cons x xs ih =>
      intro out
      have h1 := ih (insI x out)
      have h2 : (insI x out).length ≤ out.length + 1 := by
        by_cases hx : x ∈ out
        · have : ∀ l : List Int, (insI x l).length ≤ l.length + 1 := by
            intro l
            induction l with
            | nil => simp [insI]
            | cons y r ihr => unfold insI; split <;> (try split) <;> simp <;> omega
          exact this out
        · rw [insI_new hx]; exact Nat.le_refl _
      rw [List.foldl_cons, List.length_cons]
      omega
  have h1 := this (saying l t) []
  have h2 : (saying l t).length ≤ l.length := by unfold saying; rw [List.length_map]; exact List.length_filter_le _ _
  simp only [List.length_nil] at h1
  unfold who
  omega

/-- Said before: nothing is counted. -/
theorem cnt_old {l : List Vt} {v : Vt} (h : v ∈ l) (t : ByteArray) : cnt (l ++ [v]) t = cnt l t := by
  unfold cnt
  rw [who_snoc]
  split
  · rename_i e; subst e
    rw [insI_old (rise_who l _) (mem_who.2 (by exact h))]
  · rfl
theorem cnt_new {l : List Vt} {v : Vt} (h : v ∉ l) : cnt (l ++ [v]) v.2 = cnt l v.2 + 1 := by
  unfold cnt
  rw [who_snoc, if_pos rfl, insI_new (fun e => h (mem_who.1 e))]
theorem cnt_other {l : List Vt} {v : Vt} {t : ByteArray} (h : v.2 ≠ t) : cnt (l ++ [v]) t = cnt l t := by
  unfold cnt
  rw [who_snoc, if_neg h]
theorem cnt_step (l : List Vt) (v : Vt) (t : ByteArray) : cnt l t ≤ cnt (l ++ [v]) t ∧ cnt (l ++ [v]) t ≤ cnt l t + 1 := by
  by_cases h : v.2 = t
  · subst h
    by_cases hv : v ∈ l
    · rw [cnt_old hv]; omega
    · rw [cnt_new hv]; omega
  · rw [cnt_other h]; omega

theorem take_snoc {l : List Vt} {i : Nat} (h : i < l.length) : l.take (i + 1) = l.take i ++ [vtAt l i] := by
  rw [List.take_add_one]
  simp [vtAt, List.getD_eq_getElem?_getD, h]

theorem cnt_mono (l : List Vt) (t : ByteArray) {i j : Nat} (h : i ≤ j) : cnt (l.take i) t ≤ cnt (l.take j) t := by
  induction j with
  | zero => rw [Nat.le_zero.1 h]; exact Nat.le_refl _
  | succ j ih =>
    by_cases e : i = j + 1
    · rw [e]; exact Nat.le_refl _
    · have h1 := ih (by omega)
      by_cases hj : j < l.length
      · rw [take_snoc hj]; have := (cnt_step (l.take j) (vtAt l j) t).1; omega
      · rw [List.take_of_length_le (show l.length ≤ j + 1 by omega)]
        rw [List.take_of_length_le (show l.length ≤ j by omega)] at h1
        exact h1

/-- What 'Winner' tells of votes, need being above 0. -/
def Win (l : List Vt) (need : Int) (x : ByteArray) (ok : Bool) : Prop :=
  (ok = true ∧ ∃ i, i < l.length ∧ (∀ t, (cnt (l.take i) t : Int) < need) ∧ need ≤ (cnt (l.take (i + 1)) x : Int) ∧ x = (vtAt l i).2) ∨
  (ok = false ∧ x = ByteArray.empty ∧ ∀ t, (cnt l t : Int) < need)

/-- The first place where enough have said what is said there. -/
theorem win_at {l : List Vt} {need : Int} {x : ByteArray} {ok : Bool} (h : Win l need x ok) {i : Nat} (hi : i < l.length) (hb : ∀ t, (cnt (l.take i) t : Int) < need) (hn : need ≤ (cnt (l.take (i + 1)) (vtAt l i).2 : Int)) : ok = true ∧ x = (vtAt l i).2 := by
  rcases h with ⟨h1, k, hk, kb, kn, kx⟩ | ⟨_, _, h3⟩
  · refine ⟨h1, ?_⟩
    by_cases h1 : i < k
    · have := cnt_mono l (vtAt l i).2 (show i + 1 ≤ k by omega)
      have := kb (vtAt l i).2
      omega
    · by_cases h2 : k < i
      · have := cnt_mono l x (show k + 1 ≤ i by omega)
        have := hb x
        omega
      · have : k = i := by omega
        subst this; exact kx
  · have := cnt_mono l (vtAt l i).2 (show i + 1 ≤ l.length by omega)
    rw [List.take_length] at this
    have := h3 (vtAt l i).2
    omega
theorem win_no {l : List Vt} {need : Int} {x : ByteArray} {ok : Bool} (h : Win l need x ok) (hb : ∀ t, (cnt l t : Int) < need) : ok = false ∧ x = ByteArray.empty := by
  rcases h with ⟨_, k, hk, _, kn, _⟩ | ⟨h1, h2, _⟩
  · have := cnt_mono l x (show k + 1 ≤ l.length by omega)
    rw [List.take_length] at this
    have := hb x
    omega
  · exact ⟨h1, h2⟩

/-- Fewer than enough have said it so far, and with one more vote fewer than enough what it says: so of all. -/
theorem few_next {l : List Vt} {need : Int} {i : Nat} (hi : i < l.length) (hb : ∀ t, (cnt (l.take i) t : Int) < need) (hn : (cnt (l.take (i + 1)) (vtAt l i).2 : Int) < need) (t : ByteArray) : (cnt (l.take (i + 1)) t : Int) < need := by
  by_cases e : (vtAt l i).2 = t
  · rw [← e]; exact hn
  · rw [take_snoc hi, cnt_other e]; exact hb t

/-- A vote more takes no winner back. -/
theorem win_more {l : List Vt} {v : Vt} {need : Int} {a b : ByteArray} {p q : Bool} (h : Win l need a p) (h' : Win (l ++ [v]) need b q) (hp : p = true) : q = true ∧ a = b := by
  rcases h with ⟨_, k, hk, kb, kn, kx⟩ | ⟨h1, _⟩
  · have e1 : (l ++ [v]).take k = l.take k := List.take_append_of_le_length (by omega)
    have e2 : (l ++ [v]).take (k + 1) = l.take (k + 1) := List.take_append_of_le_length (by omega)
    have e3 : vtAt (l ++ [v]) k = vtAt l k := by simp [vtAt, List.getD_eq_getElem?_getD, List.getElem?_append_left hk]
    have := win_at h' (i := k) (by simp; omega) (by rw [e1]; exact kb) (by rw [e2, e3, ← kx]; exact kn)
    rw [e3, ← kx] at this
    exact ⟨this.1, this.2.symm⟩
  · rw [hp] at h1; cases h1
end Go.Proofs.Ytimacmimibpgpaa.Vote
