/-
  The laws' own mathematics: a client's snapshots alone; what was begun and aborted; how many chunks are held.
-/
import Derived.Test.YtlpgdfdadkljfaaGreatCtFull
namespace Go.Proofs.YtlpgdfdadkljfaaGreat.Cat
open Go.RowKit Route Tree Order

theorem one_mine {c : Int} {nm : ByteArray} {s : Snap} (h : isOne c nm s = true) : mine c s = true := by
  simp [isOne, mine] at *; exact h.1

theorem place_split {c : Int} {nm : ByteArray} {S : List Snap} {i : Nat} (h : place c nm S = some i) : ∃ A x B, S = A ++ x :: B ∧ A.length = i ∧ isOne c nm x = true ∧ ∀ a ∈ A, isOne c nm a = false := by
  unfold place at h
  rw [List.findIdx?_eq_some_iff_getElem] at h
  obtain ⟨hi, h1, h2⟩ := h
  refine ⟨S.take i, S[i], S.drop (i + 1), ?_, by simp; omega, h1, fun a ha => ?_⟩
  · rw [List.getElem_cons_drop, List.take_append_drop]
  · obtain ⟨j, hj, rfl⟩ := List.mem_take_iff_getElem.1 ha
    have := h2 j (by omega)
    simpa using this

theorem place_at {c : Int} {nm : ByteArray} {A B : List Snap} {x : Snap} (h : isOne c nm x = true) (hA : ∀ a ∈ A, isOne c nm a = false) : place c nm (A ++ x :: B) = some A.length := by
  unfold place
  rw [List.findIdx?_eq_some_iff_getElem]
  refine ⟨by simp, by simpa using h, fun j hj => ?_⟩
  rw [List.getElem_append_left hj, hA _ (List.getElem_mem hj)]
  simp

theorem place_no {c : Int} {nm : ByteArray} {S : List Snap} (h : ∀ s ∈ S, isOne c nm s = false) : place c nm S = none := by
  unfold place
  rw [List.findIdx?_eq_none_iff]
  exact h

theorem place_miss {c : Int} {nm : ByteArray} {S : List Snap} (h : place c nm S = none) : ∀ s ∈ S, isOne c nm s = false := by
  intro s hs
  have := List.findIdx?_eq_none_iff.1 h s hs
  simpa using this

theorem snap_at {A B : List Snap} {x : Snap} : snapAt (A ++ x :: B) A.length = x := by
  simp [snapAt, List.getD_eq_getElem?_getD]
theorem set_at {A B : List Snap} {x y : Snap} : (A ++ x :: B).set A.length y = A ++ y :: B := by simp
theorem erase_at {A B : List Snap} {x : Snap} : (A ++ x :: B).eraseIdx A.length = A ++ B := by
  rw [List.eraseIdx_append_of_length_le (Nat.le_refl _)]; simp

theorem found_at {c : Int} {nm : ByteArray} {d : Bool} {A B : List Snap} {x : Snap} (h : isOne c nm x = true) (hA : ∀ a ∈ A, isOne c nm a = false) : found c nm d (A ++ x :: B) = if x.2.2.1 = d then (A.length, 0) else (0, 6) := by
  unfold found
  rw [place_at h hA]
  simp only [snap_at]
theorem found_no {c : Int} {nm : ByteArray} {d : Bool} {S : List Snap} (h : ∀ s ∈ S, isOne c nm s = false) : found c nm d S = (0, 3) := by
  unfold found
  rw [place_no h]

/-- A client's snapshots. -/
abbrev of (c : Int) (S : List Snap) : List Snap := S.filter (mine c)

theorem of_split {c : Int} {A B : List Snap} {x : Snap} (h : mine c x = true) : of c (A ++ x :: B) = of c A ++ x :: of c B := by simp [of, h]
theorem of_apart {c : Int} {A B : List Snap} {x : Snap} (h : mine c x = false) : of c (A ++ x :: B) = of c A ++ of c B := by simp [of, h]
theorem of_none {c : Int} {nm : ByteArray} {A : List Snap} (hA : ∀ a ∈ A, isOne c nm a = false) : ∀ a ∈ of c A, isOne c nm a = false := fun a ha => hA a (List.mem_filter.1 ha).1

theorem names_of (c : Int) (S : List Snap) : names c (of c S) = names c S := by
  unfold names of
  rw [List.filter_filter]
  congr 2
  funext s
  by_cases h : s.1 = c <;> simp [kept, mine, h]

theorem count_of (c : Int) (S : List Snap) : count c (of c S) = count c S := by
  unfold count of
  rw [List.filter_filter]
  simp

theorem pruned_cons (c : Int) (k : Nat) (s : Snap) (S : List Snap) : pruned c k (s :: S) = if kept c s = true ∧ 0 < k then pruned c (k - 1) S else s :: pruned c k S := by rw [pruned]
theorem pruned_nil (c : Int) (k : Nat) : pruned c k [] = [] := by rw [pruned]

theorem pruned_of (c : Int) : ∀ (k : Nat) (S : List Snap), of c (pruned c k S) = pruned c k (of c S)
  | k, [] => by rw [pruned_nil]; exact (pruned_nil c k).symm
  | k, s :: S => by
    rw [pruned_cons]
    by_cases hm : mine c s = true
    · have e : ∀ T, of c (s :: T) = s :: of c T := fun T => by simp [of, hm]
      rw [e, pruned_cons]
      by_cases hk : kept c s = true ∧ 0 < k
      · rw [if_pos hk, if_pos hk]; exact pruned_of c (k - 1) S
      · rw [if_neg hk, if_neg hk, e, pruned_of c k S]
    · have hk : ¬ (kept c s = true ∧ 0 < k) := fun h => hm (by have := h.1; simp [kept, mine] at *; exact this.1)
      have e : ∀ T, of c (s :: T) = of c T := fun T => by simp [of, hm]
      rw [if_neg hk, e, e, pruned_of c k S]

theorem pruned_else {c c' : Int} (hc : c' ≠ c) : ∀ (k : Nat) (S : List Snap), of c (pruned c' k S) = of c S
  | k, [] => by rw [pruned_nil]
  | k, s :: S => by
    rw [pruned_cons]
    by_cases hk : kept c' s = true ∧ 0 < k
    · rw [if_pos hk, pruned_else hc (k - 1) S]
      have : mine c s = false := by
        have := hk.1
        simp [kept, mine] at *
        rw [this.1]; exact hc
      simp [of, this]
    · rw [if_neg hk]
      simp only [of, List.filter_cons]
      split
      · exact congrArg _ (pruned_else hc k S)
      · exact pruned_else hc k S

/-- What another client does changes nothing of a client's. -/
theorem full_else_of {S : List Snap} {r : Rq} {c : Int} (hc : r.c ≠ c) : of c (full S r).2 = of c S := by
  obtain ⟨rc, t, k, n, nm, pt, ks⟩ := r
  have hc : rc ≠ c := hc
  unfold full
  split
  · rfl
  unfold step
  have hset : ∀ (d : Bool) (s : Snap), s.1 = rc → (found rc nm d S).2 = 0 → of c (S.set (found rc nm d S).1 s) = of c S := by
    intro d s hs h0
    obtain ⟨hp, _⟩ := found_ok h0
    obtain ⟨A, x, B, rfl, hl, hx, hA⟩ := place_split hp
    rw [← hl, set_at]
    have h1 : mine c x = false := by have := one_mine hx; simp [mine] at *; rw [this]; exact hc
    have h2 : mine c s = false := by simp [mine, hs]; exact hc
    rw [of_apart h1, of_apart h2]
  have herase : (found rc nm false S).2 = 0 → of c (S.eraseIdx (found rc nm false S).1) = of c S := by
    intro h0
    obtain ⟨hp, _⟩ := found_ok h0
    obtain ⟨A, x, B, rfl, hl, hx, hA⟩ := place_split hp
    rw [← hl, erase_at]
    have h1 : mine c x = false := by have := one_mine hx; simp [mine] at *; rw [this]; exact hc
    rw [of_apart h1, of, List.filter_append]
  split
  · rfl
  split
  · split
    · rfl
    split
    · rfl
    · have h2 : mine c (rc, nm, false, ([] : List Ent)) = false := by simp [mine]; exact hc
      exact of_apart (B := []) h2 |>.trans (by simp [of])
  split
  · split
    · rfl
    rename_i h0
    split
    · rfl
    · exact hset false _ rfl (by simpa using h0)
  split
  · split
    · rfl
    · rename_i h0; exact hset false _ rfl (by simpa using h0)
  split
  · split
    · rfl
    · rename_i h0; exact herase (by simpa using h0)
  split
  · rfl
  split
  · split
    · rfl
    · split <;> rfl
  split
  · split <;> rfl
  split
  · exact pruned_else hc _ _
  · rfl

/-- What a client does comes to what it comes to among its own snapshots. -/
theorem full_of {S : List Snap} {r : Rq} (h9 : r.k ≠ 9) : (full (of r.c S) r).1 = (full S r).1 ∧ (full (of r.c S) r).2 = of r.c (full S r).2 := by
  obtain ⟨c, t, k, n, nm, pt, ks⟩ := r
  have h9 : k ≠ 9 := h9
  show (full (of c S) _).1 = _ ∧ (full (of c S) _).2 = of c _
  rw [full_else (.inl h9), full_else (.inl h9)]
  unfold step
  simp only
  by_cases hm : may ⟨c, t, k, n, nm, pt, ks⟩ = false
  · rw [if_pos hm, if_pos hm]; exact ⟨rfl, rfl⟩
  rw [if_neg hm, if_neg hm]
  have hpl : (place c nm (of c S)).isSome = (place c nm S).isSome := by
    cases hp : place c nm S with
    | none => rw [place_no (of_none (place_miss hp))]
    | some i =>
      obtain ⟨A, x, B, rfl, hl, hx, hA⟩ := place_split hp
      rw [of_split (one_mine hx), place_at hx (of_none hA)]
      rfl
  by_cases h1 : k = 1
  · rw [if_pos h1, if_pos h1, hpl, count_of]
    split
    · exact ⟨rfl, rfl⟩
    split
    · exact ⟨rfl, rfl⟩
    · refine ⟨rfl, ?_⟩
      have h2 : mine c (c, nm, false, ([] : List Ent)) = true := by simp [mine]
      exact ((of_split (A := S) (B := []) h2).trans (by simp [of])).symm
  rw [if_neg h1, if_neg h1]
  by_cases h5 : k = 5
  · subst h5
    simp [names_of]
  by_cases h8 : k = 8
  · subst h8
    simp [names_of, pruned_of]
  cases hp : place c nm S with
  | none =>
    have hf : ∀ d, found c nm d S = (0, 3) := fun d => found_no (place_miss hp)
    have hf' : ∀ d, found c nm d (of c S) = (0, 3) := fun d => found_no (of_none (place_miss hp))
    simp only [hf, hf', if_neg h5, if_neg h8, ne_eq, (by decide : ¬ (3 : Nat) = 0), not_false_eq_true, if_true]
    repeat' split
    all_goals exact ⟨rfl, rfl⟩
  | some i =>
    obtain ⟨A, x, B, rfl, hl, hx, hA⟩ := place_split hp
    have hmx := one_mine hx
    have hf : ∀ d, found c nm d (A ++ x :: B) = if x.2.2.1 = d then (A.length, 0) else (0, 6) := fun d => found_at hx hA
    have hf' : ∀ d, found c nm d (of c A ++ x :: of c B) = if x.2.2.1 = d then ((of c A).length, 0) else (0, 6) := fun d => found_at hx (of_none hA)
    have hms : ∀ (d : Bool) (E : List Ent), mine c (c, nm, d, E) = true := fun d E => by simp [mine]
    have hab : of c (A ++ B) = of c A ++ of c B := by simp [of]
    rw [of_split hmx]
    simp only [hf, hf', if_neg h5, if_neg h8]
    by_cases hd : x.2.2.1 = false
    · have hd' : ¬ (x.2.2.1 = true) := by simp [hd]
      simp only [if_pos hd, if_neg hd', snap_at, set_at, erase_at, ne_eq, (by decide : ¬ (6 : Nat) = 0), not_false_eq_true, not_true_eq_false, if_true, if_false]
      repeat' split
      all_goals first
        | exact ⟨rfl, rfl⟩
        | exact ⟨rfl, (of_split hmx).symm⟩
        | exact ⟨rfl, (of_split (hms _ _)).symm⟩
        | exact ⟨rfl, hab.symm⟩
    · have hd' : x.2.2.1 = true := by simpa using hd
      simp only [if_neg hd, if_pos hd', snap_at, ne_eq, (by decide : ¬ (6 : Nat) = 0), not_false_eq_true, not_true_eq_false, if_true, if_false]
      repeat' split
      all_goals first
        | exact ⟨rfl, rfl⟩
        | exact ⟨rfl, (of_split hmx).symm⟩
        | exact ⟨rfl, (of_split (hms _ _)).symm⟩
        | exact ⟨rfl, hab.symm⟩

/-- How many chunks are held. -/
theorem ins_len (x : ByteArray) : ∀ l : List ByteArray, (ins x l).length ≤ l.length + 1
  | [] => by simp [ins]
  | y :: l => by
    have := ins_len x l
    unfold ins
    split
    · simp
    split
    · simp; omega
    · simp

theorem held_len (S : List Snap) : (heldOf S).length ≤ (chunksOf S).length := by
  unfold heldOf
  generalize chunksOf S = l
  induction l with
  | nil => simp
  | cons x l ih => rw [List.foldr_cons, List.length_cons]; have := ins_len x (l.foldr ins []); omega

theorem held_has {S : List Snap} {s : Snap} {e : Ent} {k : ByteArray} (hs : s ∈ S) (he : e ∈ s.2.2.2) (hk : k ∈ e.2.2) : k ∈ heldOf S :=
  ((held_of S).2 k).2 (List.mem_flatMap.2 ⟨s, hs, List.mem_flatMap.2 ⟨e, he, hk⟩⟩)

/-- What a plan tells is a snapshot's, or nothing. -/
theorem plan_of (S : List Snap) (r : Rq) (h : r.k = 7) : (full S r).1.ents = [] ∨ ∃ s ∈ S, (full S r).1.ents = s.2.2.2 := by
  obtain ⟨c, t, k, n, nm, pt, ks⟩ := r
  have h : k = 7 := h
  subst h
  rw [full_else (.inl (by show (7 : Int) ≠ 9; decide))]
  cases hm : may ⟨c, t, 7, n, nm, pt, ks⟩ with
  | false =>
    have hst : step S ⟨c, t, 7, n, nm, pt, ks⟩ = (no 1, S) := by simp [step, hm]
    rw [hst]; exact .inl rfl
  | true =>
    have hst : step S ⟨c, t, 7, n, nm, pt, ks⟩ = if (found c nm true S).2 ≠ 0 then (no (found c nm true S).2, S) else (⟨0, 0, [], [], (snapAt S (found c nm true S).1).2.2.2⟩, S) := by simp [step, hm]
    rw [hst]
    by_cases h0 : (found c nm true S).2 ≠ 0
    · rw [if_pos h0]; exact .inl rfl
    · rw [if_neg h0]; exact .inr ⟨_, snapAt_mem (place_some (found_ok (by simpa using h0)).1).1, rfl⟩
end Go.Proofs.YtlpgdfdadkljfaaGreat.Cat
