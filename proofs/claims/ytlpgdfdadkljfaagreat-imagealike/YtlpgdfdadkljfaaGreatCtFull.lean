/-
  What an operation of any kind comes to: all chunks, as a function; Do of every kind.
-/
import Derived.Test.YtlpgdfdadkljfaaGreatCtLaw2
namespace Go.Proofs.YtlpgdfdadkljfaaGreat.Cat
open Go.RowKit Route Tree Order

/-- A text put into a rising row, once. -/
def ins (x : ByteArray) : List ByteArray → List ByteArray
  | [] => [x]
  | y :: l => if lt x y = true then x :: y :: l else if lt y x = true then y :: ins x l else y :: l
/-- All chunks, each once, rising. -/
def heldOf (S : List Snap) : List ByteArray := (chunksOf S).foldr ins []

theorem ins_mem (x z : ByteArray) : ∀ l : List ByteArray, z ∈ ins x l ↔ z = x ∨ z ∈ l
  | [] => by simp [ins]
  | y :: l => by
    have ih := ins_mem x z l
    unfold ins
    by_cases h1 : lt x y = true
    · rw [if_pos h1]; simp
    · rw [if_neg h1]
      by_cases h2 : lt y x = true
      · rw [if_pos h2]
        simp only [List.mem_cons, ih]
        constructor
        · rintro (h | h | h)
          · exact .inr (.inl h)
          · exact .inl h
          · exact .inr (.inr h)
        · rintro (h | h | h)
          · exact .inr (.inl h)
          · exact .inl h
          · exact .inr (.inr h)
      · rw [if_neg h2]
        have e : x = y := lt_total (by simpa using h1) (by simpa using h2)
        subst e
        simp

theorem ins_sorted (x : ByteArray) : ∀ l : List ByteArray, l.Pairwise (fun a b => lt a b = true) → (ins x l).Pairwise (fun a b => lt a b = true)
  | [], _ => by simp [ins]
  | y :: l, h => by
    obtain ⟨hy, hl⟩ := List.pairwise_cons.1 h
    have ih := ins_sorted x l hl
    unfold ins
    by_cases h1 : lt x y = true
    · rw [if_pos h1]
      refine List.pairwise_cons.2 ⟨fun z hz => ?_, h⟩
      rcases List.mem_cons.1 hz with rfl | hz
      · exact h1
      · exact lt_trans h1 (hy z hz)
    · rw [if_neg h1]
      by_cases h2 : lt y x = true
      · rw [if_pos h2]
        refine List.pairwise_cons.2 ⟨fun z hz => ?_, ih⟩
        rcases (ins_mem x z l).1 hz with rfl | hz
        · exact h2
        · exact hy z hz
      · rw [if_neg h2]; exact h

theorem fold_held : ∀ l : List ByteArray, (l.foldr ins []).Pairwise (fun a b => lt a b = true) ∧ ∀ z, z ∈ l.foldr ins [] ↔ z ∈ l
  | [] => by simp
  | x :: l => by
    obtain ⟨h1, h2⟩ := fold_held l
    refine ⟨ins_sorted x _ h1, fun z => ?_⟩
    rw [List.foldr_cons, ins_mem, h2, List.mem_cons]

theorem held_of (S : List Snap) : Held S (heldOf S) := fold_held (chunksOf S)

/-- What an operation comes to. -/
def full (S : List Snap) (r : Rq) : Ans × List Snap := if may r = true ∧ r.k = 9 then (⟨0, 0, [], heldOf S, []⟩, S) else step S r

theorem full_nine {S : List Snap} {r : Rq} (h1 : may r = true) (h2 : r.k = 9) : full S r = (⟨0, 0, [], heldOf S, []⟩, S) := if_pos ⟨h1, h2⟩
theorem full_else {S : List Snap} {r : Rq} (h : r.k ≠ 9 ∨ may r = false) : full S r = step S r := if_neg fun h' => by
  rcases h with h | h
  · exact h h'.2
  · rw [h'.1] at h; cases h

theorem full_inv {S : List Snap} {r : Rq} (h : Inv S) : Inv (full S r).2 := by
  unfold full
  split
  · exact h
  · exact step_inv h

theorem full_refused (S : List Snap) (r : Rq) : Rf S (full S r) := by
  unfold full
  split
  · exact fun h => absurd rfl h
  · exact step_refused S r

/-- Do, of every kind. -/
theorem do_full {B p : Nat} {v : Value} {Z : List SZ} {c k m : Int} {nm pt : ByteArray} {ka : Option Addr} {kn kc : Nat} {ks : List ByteArray} {w : World} (h : Cat B p v Z w) (hB : B ≤ w.heap.size) (hI : Inv (Z.map snapOf)) (hnm : nm.size ≤ 100000) (hpt : pt.size ≤ 100000) (hk : KeysAt w ka kn kc ks) :
    Calls Tryz.prog 9 #[.pointer (some ⟨p, 0, none⟩), .int .i64 c, opV k nm pt ka kn kc m] w fun e w' => ∃ (y : An) (v' : Value) (Z' : List SZ), e = .returned y.val ∧ Hid (Next B p v Z w v' Z' w') ∧ Hid (Z'.map snapOf = (full (Z.map snapOf) ⟨c, 1, k, m, nm, pt, ks⟩).2 ∧ Inv (Z'.map snapOf)) ∧ Hid (AnsV w.heap.size (full (Z.map snapOf) ⟨c, 1, k, m, nm, pt, ks⟩).1 (.returned y.val) w') := by
  have hl : Z.length ≤ 64 := by have := inv_len hI; simpa using this
  by_cases h9 : k ≠ 9 ∨ may ⟨c, 1, k, m, nm, pt, ks⟩ = false
  · rw [full_else h9]
    exact do_law h hB hI hl hnm hpt hk h9
  · have hk9 : k = 9 := Decidable.byContradiction fun e => h9 (.inl e)
    have hmay : may ⟨c, 1, k, m, nm, pt, ks⟩ = true := by
      cases q : may ⟨c, 1, k, m, nm, pt, ks⟩ with
      | true => rfl
      | false => exact absurd (.inr q) h9
    subst hk9
    rw [full_nine hmay rfl]
    refine (do_nine h hI hl hnm hpt hk hmay).mono ?_
    rintro e w' ⟨K, kv, hK, hN, rfl, ho⟩
    obtain ⟨s, n, q, rfl⟩ := slice_of ho
    have hKe : K = heldOf (Z.map snapOf) := held_unique hK (held_of _)
    subst hKe
    exact ⟨⟨0, 0, none, 0, 0, s, n, q, none, 0, 0⟩, v, Z, rfl, hN, ⟨rfl, hI⟩, ⟨_, _, _, [], rfl, World.ownsRow_nil _ _ _ _, ho, rfl, EOwn.nil _ _⟩⟩
end Go.Proofs.YtlpgdfdadkljfaaGreat.Cat
