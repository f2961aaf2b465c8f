/-
  What answers hold is few; texts and entries of an answer as they read.
-/
import Derived.Test.YtejhnobhpjlkaaaCtDeed
namespace Go.Proofs.Ytejhnobhpjlkaaa.Cat
open Go.RowKit Route Tree Order

/-- What is asked of an answer that is held against another one. -/
structure AFew (x : Ans) : Prop where
  names : x.names.length ≤ 100000
  keys : x.keys.length ≤ 100000
  ents : x.ents.length ≤ 1000
  each : ∀ e ∈ x.ents, e.2.2.length ≤ 1000

theorem AFew.no (c : Nat) : AFew (no c) := ⟨Nat.zero_le _, Nat.zero_le _, Nat.zero_le _, fun e he => by simp [Cat.no] at he⟩

theorem flat_len {α β : Type} (f : α → List β) (m : Nat) : ∀ l : List α, (∀ x ∈ l, (f x).length ≤ m) → (l.flatMap f).length ≤ l.length * m
  | [], _ => by simp
  | x :: l, h => by
    have h1 := h x (List.mem_cons_self ..)
    have h2 := flat_len f m l fun y hy => h y (List.mem_cons_of_mem _ hy)
    rw [List.flatMap_cons, List.length_append, List.length_cons, Nat.succ_mul]
    omega

theorem chunks_few {S : List Snap} (h : Inv S) : (chunksOf S).length ≤ 32768 := by
  have h1 := flat_len (fun s : Snap => s.2.2.2.flatMap (·.2.2)) 512 S fun s hs => by
    have h2 := flat_len (fun e : Ent => e.2.2) 16 s.2.2.2 fun e he => (h.ents s hs e he).2.1
    have h3 := (treeL_iff.1 (h.tree s hs)).1
    have h4 := Nat.mul_le_mul_right 16 h3
    omega
  have h5 := inv_len h
  have h6 := Nat.mul_le_mul_right 512 h5
  unfold chunksOf
  omega

theorem names_few {S : List Snap} (h : Inv S) (c : Int) : (names c S).length ≤ 64 := by
  unfold names
  rw [List.length_map]
  have := List.length_filter_le (kept c) S
  have := inv_len h
  omega

theorem full_few {S : List Snap} (h : Inv S) (r : Rq) : AFew (full S r).1 := by
  have hk : (heldOf S).length ≤ 100000 := by have := held_len S; have := chunks_few h; omega
  have hn := names_few h r.c
  have hm : ∀ {d : Bool}, (found r.c r.nm d S).2 = 0 → snapAt S (found r.c r.nm d S).1 ∈ S := fun h0 => snapAt_mem (place_some (found_ok h0).1).1
  unfold full
  split
  · exact ⟨Nat.zero_le _, hk, Nat.zero_le _, fun e he => by simp at he⟩
  unfold step
  split
  · exact AFew.no _
  split
  · repeat' split
    all_goals exact AFew.no _
  split
  · repeat' split
    all_goals exact AFew.no _
  split
  · repeat' split
    all_goals exact AFew.no _
  split
  · repeat' split
    all_goals exact AFew.no _
  split
  · exact ⟨by show (names r.c S).length ≤ _; omega, Nat.zero_le _, Nat.zero_le _, fun e he => by simp at he⟩
  split
  · split
    · exact AFew.no _
    · rename_i h0
      split
      · exact AFew.no _
      · rename_i e he
        have := (h.ents _ (hm (by simpa using h0)) e (List.mem_of_find?_eq_some he)).2.1
        exact ⟨Nat.zero_le _, by show e.2.2.length ≤ _; omega, Nat.zero_le _, fun e he => by simp at he⟩
  split
  · split
    · exact AFew.no _
    · rename_i h0
      have hs := hm (d := true) (by simpa using h0)
      have h1 := (treeL_iff.1 (h.tree _ hs)).1
      exact ⟨Nat.zero_le _, Nat.zero_le _, by show (snapAt S _).2.2.2.length ≤ _; omega, fun e he => by have := (h.ents _ hs e he).2.1; omega⟩
  split
  · exact ⟨Nat.zero_le _, Nat.zero_le _, Nat.zero_le _, fun e he => by simp at he⟩
  · exact AFew.no _

theorem texts_read {B n c : Nat} {a : Option Addr} {l : List ByteArray} {w : World} (h : w.ownsRow B 9 1 (.slice a n c) l.length (sv l)) : n = l.length ∧ Route.Lies w a l := by
  obtain ⟨a', c', e, hk⟩ := key_lies h
  simp only [Value.slice.injEq] at e
  obtain ⟨rfl, rfl, rfl⟩ := e
  exact ⟨rfl, hk.1⟩

theorem ents_read {B n c : Nat} {a : Option Addr} {Y : List (Ent × Value)} {E : List Ent} {w : World} (hY : Y.map (·.1) = E) (h : EOwn B (.slice a n c) Y w) : n = E.length ∧ LiesE w a E := by
  obtain ⟨a', c', e, _, _, _, hk⟩ := erow_lies h.1 h.2
  simp only [Value.slice.injEq] at e
  obtain ⟨rfl, rfl, rfl⟩ := e
  rw [hY] at hk
  exact ⟨by rw [← hY]; simp, hk⟩

end Go.Proofs.Ytejhnobhpjlkaaa.Cat
