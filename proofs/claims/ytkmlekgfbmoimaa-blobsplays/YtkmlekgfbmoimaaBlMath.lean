/-
  Stores as plain lists: the order of texts, rising lists, how many bytes they have, one more, some struck.
-/
import Derived.Test.YtkmlekgfbmoimaaRtStrs
import Derived.Sort.LotA
namespace Go.Proofs.Ytkmlekgfbmoimaa.Blobs
open Go.RowKit Route

/-- Is a text ahead of another one? -/
def lt (a b : ByteArray) : Bool := Op.bytesLess a.toList b.toList

theorem less_lex : ∀ (x y : List UInt8), Op.bytesLess x y = Sort.ltStr x y
  | [], [] => by simp [Op.bytesLess, Sort.ltStr]
  | _ :: _, [] => by simp [Op.bytesLess, Sort.ltStr]
  | [], _ :: _ => by simp [Op.bytesLess, Sort.ltStr]
  | a :: x, b :: y => by
    rw [Op.bytesLess, less_lex x y]
    by_cases h1 : a < b <;> by_cases h2 : a = b <;> by_cases h3 : x < y <;> simp [Sort.ltStr, List.cons_lt_cons_iff, h1, h2, h3]

theorem list_eq {a b : ByteArray} (h : a.toList = b.toList) : a = b := by
  rw [ByteArray.toList_eq, ByteArray.toList_eq] at h
  apply ByteArray.ext
  exact Array.ext' h

theorem lt_irrefl (a : ByteArray) : lt a a = false := by rw [lt, less_lex]; exact Sort.swo_ltStr.irrefl _
theorem lt_trans {a b c : ByteArray} (h1 : lt a b = true) (h2 : lt b c = true) : lt a c = true := by
  rw [lt, less_lex] at *; exact Sort.swo_ltStr.trans _ _ _ h1 h2
theorem lt_total {a b : ByteArray} (h1 : lt a b = false) (h2 : lt b a = false) : a = b := by
  rw [lt, less_lex, Sort.ltStr, decide_eq_false_iff_not] at h1 h2
  exact list_eq (List.le_antisymm h2 h1)
theorem lt_ne {a b : ByteArray} (h : lt a b = true) : a ≠ b := by
  rintro rfl; rw [lt_irrefl] at h; cases h

/-- Rising texts. -/
def Asc (S : List ByteArray) : Prop := S.Pairwise fun x y => lt x y = true

/-- How many bytes they have together. -/
def total : List ByteArray → Nat
  | [] => 0
  | k :: r => k.size + total r

theorem total_app : ∀ l r : List ByteArray, total (l ++ r) = total l + total r
  | [], r => by simp [total]
  | k :: l, r => by rw [List.cons_append, total, total, total_app l r]; omega

theorem Asc.not_mem {a : ByteArray} {S : List ByteArray} (h : Asc (a :: S)) : a ∉ S := fun hm => by
  have := (List.pairwise_cons.1 h).1 a hm
  rw [lt_irrefl] at this; cases this

theorem asc_unique : ∀ {l m : List ByteArray}, Asc l → Asc m → (∀ s, s ∈ l ↔ s ∈ m) → l = m
  | [], [], _, _, _ => rfl
  | [], b :: m, _, _, h => absurd ((h b).2 (List.mem_cons_self ..)) (by simp)
  | a :: l, [], _, _, h => absurd ((h a).1 (List.mem_cons_self ..)) (by simp)
  | a :: l, b :: m, hl, hm, h => by
    obtain ⟨h1, h2⟩ := List.pairwise_cons.1 hl
    obtain ⟨h3, h4⟩ := List.pairwise_cons.1 hm
    have e : a = b := by
      rcases List.mem_cons.1 ((h a).1 (List.mem_cons_self ..)) with e | e
      · exact e
      · rcases List.mem_cons.1 ((h b).2 (List.mem_cons_self ..)) with e2 | e2
        · exact e2.symm
        · have := lt_trans (h1 b e2) (h3 a e)
          rw [lt_irrefl] at this; cases this
    subst e
    rw [asc_unique h2 h4 fun s => ?_]
    constructor
    · intro hs
      rcases List.mem_cons.1 ((h s).1 (List.mem_cons_of_mem _ hs)) with e | e
      · subst e; exact absurd hs hl.not_mem
      · exact e
    · intro hs
      rcases List.mem_cons.1 ((h s).2 (List.mem_cons_of_mem _ hs)) with e | e
      · subst e; exact absurd hs hm.not_mem
      · exact e

/-- Rising texts with one more. -/
def ins (k : ByteArray) : List ByteArray → List ByteArray
  | [] => [k]
  | x :: r => if lt k x = true then k :: x :: r else x :: ins k r

theorem mem_ins {k s : ByteArray} : ∀ {S : List ByteArray}, s ∈ ins k S ↔ s = k ∨ s ∈ S
  | [] => by simp [ins]
  | x :: r => by
    rw [ins]
    split
    · simp
    · rw [List.mem_cons, mem_ins, List.mem_cons]
      constructor
      · rintro (h | h | h)
        · exact .inr (.inl h)
        · exact .inl h
        · exact .inr (.inr h)
      · rintro (h | h | h)
        · exact .inr (.inl h)
        · exact .inl h
        · exact .inr (.inr h)

theorem total_ins (k : ByteArray) : ∀ S : List ByteArray, total (ins k S) = k.size + total S
  | [] => rfl
  | x :: r => by
    rw [ins]
    split
    · rfl
    · rw [total, total_ins k r, total]; omega

theorem len_ins (k : ByteArray) : ∀ S : List ByteArray, (ins k S).length = S.length + 1
  | [] => rfl
  | x :: r => by
    rw [ins]
    split
    · rfl
    · rw [List.length_cons, len_ins k r]; rfl

theorem asc_ins {k : ByteArray} : ∀ {S : List ByteArray}, Asc S → k ∉ S → Asc (ins k S)
  | [], _, _ => List.pairwise_singleton _ _
  | x :: r, h, hk => by
    obtain ⟨h1, h2⟩ := List.pairwise_cons.1 h
    rw [ins]
    split
    · rename_i hlt
      refine List.pairwise_cons.2 ⟨fun y hy => ?_, h⟩
      rcases List.mem_cons.1 hy with rfl | hy
      · exact hlt
      · exact lt_trans hlt (h1 y hy)
    · rename_i hlt
      refine List.pairwise_cons.2 ⟨fun y hy => ?_, asc_ins h2 (fun hm => hk (List.mem_cons_of_mem _ hm))⟩
      rcases mem_ins.1 hy with rfl | hy
      · cases e : lt x y with
        | true => rfl
        | false =>
          have h3 : lt y x = false := by
            cases e2 : lt y x with
            | false => rfl
            | true => exact absurd e2 hlt
          exact absurd (List.mem_cons.2 (.inl (lt_total h3 e))) hk
      · exact h1 y hy

theorem Asc.filter {S : List ByteArray} (h : Asc S) (p : ByteArray → Bool) : Asc (S.filter p) := List.Pairwise.filter p h

/-- Is a text among some? -/
def inB (C : List ByteArray) (s : ByteArray) : Bool := C.any fun x => decide (x = s)
theorem inB_iff {C : List ByteArray} {s : ByteArray} : inB C s = true ↔ s ∈ C := by
  simp [inB]
theorem inB_no {C : List ByteArray} {s : ByteArray} (h : s ∉ C) : inB C s = false := by
  cases e : inB C s with
  | false => rfl
  | true => exact absurd (inB_iff.1 e) h
theorem inB_not {C : List ByteArray} {s : ByteArray} (h : inB C s = false) : s ∉ C := fun hm => by
  rw [inB_iff.2 hm] at h; cases h

/-- Those that aren't k. -/
def out (k : ByteArray) (S : List ByteArray) : List ByteArray := S.filter fun s => !decide (s = k)
theorem mem_out {k s : ByteArray} {S : List ByteArray} : s ∈ out k S ↔ s ∈ S ∧ s ≠ k := by simp [out]
theorem out_none {k : ByteArray} {S : List ByteArray} (h : k ∉ S) : out k S = S := by
  unfold out
  rw [List.filter_eq_self]
  intro a ha
  have : a ≠ k := fun e => h (e ▸ ha)
  simp [this]
theorem total_out {k : ByteArray} : ∀ {S : List ByteArray}, Asc S → k ∈ S → total (out k S) + k.size = total S
  | x :: r, h, hk => by
    by_cases e : x = k
    · subst e
      have h1 : out x (x :: r) = out x r := by simp [out]
      rw [h1, out_none h.not_mem, total]; omega
    · have hk' : k ∈ r := by
        rcases List.mem_cons.1 hk with e2 | e2
        · exact absurd e2.symm e
        · exact e2
      have h1 : out k (x :: r) = x :: out k r := by simp [out, e]
      have := total_out (List.pairwise_cons.1 h).2 hk'
      rw [h1, total, total]; omega
theorem len_out {k : ByteArray} : ∀ {S : List ByteArray}, Asc S → k ∈ S → (out k S).length + 1 = S.length
  | x :: r, h, hk => by
    by_cases e : x = k
    · subst e
      have h1 : out x (x :: r) = out x r := by simp [out]
      rw [h1, out_none h.not_mem]; rfl
    · have hk' : k ∈ r := by
        rcases List.mem_cons.1 hk with e2 | e2
        · exact absurd e2.symm e
        · exact e2
      have h1 : out k (x :: r) = x :: out k r := by simp [out, e]
      have := len_out (List.pairwise_cons.1 h).2 hk'
      rw [h1, List.length_cons, List.length_cons]; omega

/-- Those that are (or aren't) among some. -/
def only (K : List ByteArray) (b : Bool) (S : List ByteArray) : List ByteArray := S.filter fun s => inB K s == b

theorem only_one (k : ByteArray) (S : List ByteArray) : only [k] false S = out k S := by
  unfold only out
  congr 1
  funext s
  by_cases e : s = k
  · subst e; simp [inB]
  · have e2 : ¬ k = s := fun h => e h.symm
    simp [inB, e, e2]

/-- What a Put of a text makes of a store. -/
def putS (q : Nat) (k : ByteArray) (S : List ByteArray) : List ByteArray :=
  if decide (1 ≤ k.size ∧ k.size ≤ 64) && !inB S k && decide (k.size + total S ≤ q) then ins k S else S
def putE (q : Nat) (k : ByteArray) (S : List ByteArray) : Nat :=
  if !decide (1 ≤ k.size ∧ k.size ≤ 64) then 1 else if inB S k then 0 else if decide (k.size + total S ≤ q) then 0 else 5

theorem mem_getD {C : List ByteArray} {s : ByteArray} : s ∈ C ↔ ∃ j, j < C.length ∧ C.getD j ByteArray.empty = s := by
  rw [List.mem_iff_getElem]
  constructor
  · rintro ⟨j, hj, e⟩
    exact ⟨j, hj, by simp [List.getD_eq_getElem?_getD, hj, e]⟩
  · rintro ⟨j, hj, e⟩
    exact ⟨j, hj, by simpa [List.getD_eq_getElem?_getD, hj] using e⟩
theorem take_text {l : List ByteArray} {i : Nat} (h : i < l.length) : l.take (i + 1) = l.take i ++ [l.getD i ByteArray.empty] := by
  rw [List.take_succ_eq_append_getElem h]; simp [List.getD_eq_getElem?_getD, h]

theorem ne_text {a b : ByteArray} (h : ¬ a = b) : (a.toList == b.toList) = false := by rw [str_eq, decide_eq_false h]
theorem lies_at {w : World} {a : Option Addr} {l : List ByteArray} (h : Lies w a l) (h0 : 0 < l.length) :
    ∃ b off, a = some ⟨b, off, none⟩ ∧ ∀ j, j < l.length → w.cell? ⟨b, off + j, none⟩ = some (.string (l.getD j ByteArray.empty)) := by
  rcases h with rfl | ⟨x, rfl, hx⟩
  · simp at h0
  · obtain ⟨b, off, spot⟩ := x
    have hspot : spot = none := by simpa [Addr.add] using World.cell?_spot (hx 0 h0)
    subst hspot
    exact ⟨b, off, rfl, fun j hj => by rw [← Go.WideShapes.add_plain]; exact hx j hj⟩
theorem drop_two {l m : List ByteArray} {j : Nat} (h : j < l.length) (h2 : j < m.length) : decide (l.drop j = m.drop j) = (decide (l.getD j ByteArray.empty = m.getD j ByteArray.empty) && decide (l.drop (j + 1) = m.drop (j + 1))) := by
  have e1 : l.getD j ByteArray.empty = l[j] := by simp [List.getD_eq_getElem?_getD, List.getElem?_eq_getElem h]
  have e2 : m.getD j ByteArray.empty = m[j] := by simp [List.getD_eq_getElem?_getD, List.getElem?_eq_getElem h2]
  rw [e1, e2, List.drop_eq_getElem_cons h, List.drop_eq_getElem_cons h2, ← Bool.decide_and]
  exact decide_eq_decide.2 (by rw [List.cons.injEq])
end Go.Proofs.Ytkmlekgfbmoimaa.Blobs
