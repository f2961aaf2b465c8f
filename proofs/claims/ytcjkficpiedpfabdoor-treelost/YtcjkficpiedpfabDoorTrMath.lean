/-
  Trees as plain lists: the order of paths, which entries and files may be, what is amiss first, and where; sorted rows.
-/
import Derived.Test.YtcjkficpiedpfabDoorTrEnt
import Derived.Test.YtcjkficpiedpfabDoorRtMath
import Derived.Test.YtcjkficpiedpfabDoorChMath
import Derived.Sort.LotA
namespace Go.Proofs.YtcjkficpiedpfabDoor.Tree
open Go.RowKit Route

/-- Is a text ahead of another one? -/
def lt (a b : ByteArray) : Bool := Op.bytesLess a.toList b.toList

theorem less_lex : ∀ (x y : List UInt8), Op.bytesLess x y = Sort.ltStr x y
  | [], [] => by simp [Op.bytesLess, Sort.ltStr]
  | _ :: _, [] => by simp [Op.bytesLess, Sort.ltStr]
  | [], _ :: _ => by simp [Op.bytesLess, Sort.ltStr]
  | a :: x, b :: y => by
    rw [Op.bytesLess, less_lex x y]
    by_cases h1 : a < b <;> by_cases h2 : a = b <;> by_cases h3 : x < y <;> simp [Sort.ltStr, List.cons_lt_cons_iff, h1, h2, h3]

theorem list_eq {a b : ByteArray} (h : a.toList = b.toList) : a = b := by
  rw [ByteArray.toList_eq, ByteArray.toList_eq] at h
  apply ByteArray.ext
  exact Array.ext' h

theorem lt_irrefl (a : ByteArray) : lt a a = false := by rw [lt, less_lex]; exact Sort.swo_ltStr.irrefl _
theorem lt_trans {a b c : ByteArray} (h1 : lt a b = true) (h2 : lt b c = true) : lt a c = true := by
  rw [lt, less_lex] at *; exact Sort.swo_ltStr.trans _ _ _ h1 h2
theorem lt_ntrans {a b c : ByteArray} (h1 : lt a b = false) (h2 : lt b c = false) : lt a c = false := by
  rw [lt, less_lex] at *; exact Sort.swo_ltStr.ntrans _ _ _ h1 h2
theorem lt_asymm {a b : ByteArray} (h : lt a b = true) : lt b a = false := by
  cases e : lt b a with
  | false => rfl
  | true => have := lt_trans h e; rw [lt_irrefl] at this; cases this
theorem lt_total {a b : ByteArray} (h1 : lt a b = false) (h2 : lt b a = false) : a = b := by
  rw [lt, less_lex, Sort.ltStr, decide_eq_false_iff_not] at h1 h2
  exact list_eq (List.le_antisymm h2 h1)
theorem lt_ne {a b : ByteArray} (h : lt a b = true) : a ≠ b := by
  rintro rfl; rw [lt_irrefl] at h; cases h

/-- May these be a file's chunks, of sz bytes, behind s bytes? -/
def restB (sz : Int) (s : Nat) : List ByteArray → Bool
  | [] => decide ((s : Int) = sz ∧ s ≤ 1024)
  | k :: r => decide (1 ≤ k.size ∧ k.size ≤ 64) && restB sz (s + k.size) r

theorem restB_far (sz : Int) : ∀ (l : List ByteArray) (s : Nat), 1024 < s → restB sz s l = false
  | [], s, h => by simp [restB]; omega
  | k :: r, s, h => by rw [restB, restB_far sz r _ (by omega), Bool.and_false]

/-- What is amiss with an entry behind those ahead of it: an error's number; 0: nothing. -/
def codeOf (ahead : List (ByteArray × Int × List ByteArray)) (e : ByteArray × Int × List ByteArray) : Nat :=
  if isPath e.1 = false then 2
  else if (∃ x, ahead.getLast? = some x ∧ lt x.1 e.1 = false) ∨ (ahead.any fun x => isUnder x.1 e.1) = true then 4
  else if restB e.2.1 0 e.2.2 = false then 1 else 0

/-- What is amiss first from i on, of f entries. -/
def firstBad (l : List (ByteArray × Int × List ByteArray)) : Nat → Nat → Option (Nat × Nat)
  | _, 0 => none
  | i, f + 1 => if codeOf (l.take i) (entOf l i) = 0 then firstBad l (i + 1) f else some (codeOf (l.take i) (entOf l i), i)

/-- What 'Check' tells: an error's number (0: none), and its place (none: it has none). -/
def checkAns (l : List (ByteArray × Int × List ByteArray)) : Nat × Option Nat :=
  if 32 < l.length then (7, none) else match firstBad l 0 l.length with
    | none => (0, none)
    | some (c, i) => (c, some i)

theorem firstBad_none {l : List (ByteArray × Int × List ByteArray)} : ∀ (f i : Nat), firstBad l i f = none → ∀ j, i ≤ j → j < i + f → codeOf (l.take j) (entOf l j) = 0
  | 0, i, _, j, h1, h2 => by omega
  | f + 1, i, h, j, h1, h2 => by
    rw [firstBad] at h
    split at h
    · by_cases hj : j = i
      · subst hj; assumption
      · exact firstBad_none f (i + 1) h j (by omega) (by omega)
    · cases h

theorem firstBad_some {l : List (ByteArray × Int × List ByteArray)} {c k : Nat} : ∀ (f i : Nat), firstBad l i f = some (c, k) → i ≤ k ∧ k < i + f ∧ c ≠ 0 ∧ codeOf (l.take k) (entOf l k) = c
  | 0, i, h => by cases h
  | f + 1, i, h => by
    rw [firstBad] at h
    split at h
    · obtain ⟨h1, h2, h3⟩ := firstBad_some f (i + 1) h
      exact ⟨by omega, by omega, h3⟩
    · rename_i hne
      simp only [Option.some.injEq, Prod.mk.injEq] at h
      obtain ⟨rfl, rfl⟩ := h
      exact ⟨Nat.le_refl _, by omega, hne, rfl⟩

theorem firstBad_all {l : List (ByteArray × Int × List ByteArray)} : ∀ (f i : Nat), (∀ j, i ≤ j → j < i + f → codeOf (l.take j) (entOf l j) = 0) → firstBad l i f = none
  | 0, i, _ => rfl
  | f + 1, i, h => by
    rw [firstBad, if_pos (h i (Nat.le_refl _) (by omega))]
    exact firstBad_all f (i + 1) fun j h1 h2 => h j (by omega) (by omega)

theorem take_succ_ent {l : List (ByteArray × Int × List ByteArray)} {i : Nat} (h : i < l.length) : l.take (i + 1) = l.take i ++ [entOf l i] := by
  rw [List.take_succ_eq_append_getElem h]
  simp [entOf, List.getD_eq_getElem?_getD, h]
theorem take_succ_file {l : List (ByteArray × ByteArray)} {i : Nat} (h : i < l.length) : l.take (i + 1) = l.take i ++ [fileOf l i] := by
  rw [List.take_succ_eq_append_getElem h]
  simp [fileOf, List.getD_eq_getElem?_getD, h]
theorem drop_text {l : List ByteArray} {i : Nat} (h : i < l.length) : l.drop i = l.getD i ByteArray.empty :: l.drop (i + 1) := by
  rw [List.drop_eq_getElem_cons h]
  simp [List.getD_eq_getElem?_getD, h]
theorem drop_ent {l : List (ByteArray × Int × List ByteArray)} {i : Nat} (h : i < l.length) : l.drop i = entOf l i :: l.drop (i + 1) := by
  rw [List.drop_eq_getElem_cons h]
  simp [entOf, List.getD_eq_getElem?_getD, h]
theorem drop_file {l : List (ByteArray × ByteArray)} {i : Nat} (h : i < l.length) : l.drop i = fileOf l i :: l.drop (i + 1) := by
  rw [List.drop_eq_getElem_cons h]
  simp [fileOf, List.getD_eq_getElem?_getD, h]
theorem ent_mem {l : List (ByteArray × Int × List ByteArray)} {i : Nat} (h : i < l.length) : entOf l i ∈ l := by
  simp [entOf, List.getD_eq_getElem?_getD, h]
theorem file_mem {l : List (ByteArray × ByteArray)} {i : Nat} (h : i < l.length) : fileOf l i ∈ l := by
  simp [fileOf, List.getD_eq_getElem?_getD, h]

/-- Can no tree have both paths? -/
def clashB (a b : ByteArray) : Bool := decide (a = b) || isUnder a b || isUnder b a

/-- What is amiss with a file behind those ahead of it. -/
def codeF (ahead : List (ByteArray × ByteArray)) (f : ByteArray × ByteArray) : Nat :=
  if isPath f.1 = false then 2 else if 1024 < f.2.size then 7 else if (ahead.any fun x => clashB x.1 f.1) = true then 4 else 0

/-- What is amiss first from i on, of f files. -/
def firstBadF (l : List (ByteArray × ByteArray)) : Nat → Nat → Option (Nat × Nat)
  | _, 0 => none
  | i, f + 1 => if codeF (l.take i) (fileOf l i) = 0 then firstBadF l (i + 1) f else some (codeF (l.take i) (fileOf l i), i)

theorem firstBadF_none {l : List (ByteArray × ByteArray)} : ∀ (f i : Nat), firstBadF l i f = none → ∀ j, i ≤ j → j < i + f → codeF (l.take j) (fileOf l j) = 0
  | 0, i, _, j, h1, h2 => by omega
  | f + 1, i, h, j, h1, h2 => by
    rw [firstBadF] at h
    split at h
    · by_cases hj : j = i
      · subst hj; assumption
      · exact firstBadF_none f (i + 1) h j (by omega) (by omega)
    · cases h

theorem firstBadF_some {l : List (ByteArray × ByteArray)} {c k : Nat} : ∀ (f i : Nat), firstBadF l i f = some (c, k) → i ≤ k ∧ k < i + f ∧ c ≠ 0 ∧ codeF (l.take k) (fileOf l k) = c
  | 0, i, h => by cases h
  | f + 1, i, h => by
    rw [firstBadF] at h
    split at h
    · obtain ⟨h1, h2, h3⟩ := firstBadF_some f (i + 1) h
      exact ⟨by omega, by omega, h3⟩
    · rename_i hne
      simp only [Option.some.injEq, Prod.mk.injEq] at h
      obtain ⟨rfl, rfl⟩ := h
      exact ⟨Nat.le_refl _, by omega, hne, rfl⟩

/-- Each ahead of the next. -/
def Sorted (l : List (ByteArray × Int × List ByteArray)) : Prop := l.Pairwise fun x y => lt x.1 y.1 = true

theorem sorted_unique {l m : List (ByteArray × Int × List ByteArray)} (hp : l.Perm m) (hl : Sorted l) (hm : Sorted m) : l = m :=
  List.Perm.eq_of_pairwise (fun x y _ _ h1 h2 => by have := lt_asymm h1; rw [h2] at this; cases this) hl hm hp
end Go.Proofs.YtcjkficpiedpfabDoor.Tree
