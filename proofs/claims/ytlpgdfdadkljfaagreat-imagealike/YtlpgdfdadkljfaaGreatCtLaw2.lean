/-
  What the laws want beside: a catalog in the law's own memory, and how long it may be.
-/
import Derived.Test.YtlpgdfdadkljfaaGreatCtLaw
namespace Go.Proofs.YtlpgdfdadkljfaaGreat.Cat
open Go.RowKit Route Tree Order

theorem Next.under {B p : Nat} {v v' : Value} {Z Z' : List SZ} {w w' : World} (h : Cat B p v Z w) (hN : Next B p v Z w v' Z' w') (hB : B ≤ w.heap.size) : Below B w w' where
  os := hN.turn.os
  tape := hN.turn.tape
  output := hN.turn.output
  size := hN.turn.size
  block := fun k hk => hN.turn.block k (Nat.lt_of_lt_of_le hk hB) fun ho => by
    have := (h.owns ho).1
    omega

theorem len_count : ∀ (S : List Snap), (∀ s ∈ S, 0 ≤ s.1 ∧ s.1 ≤ 7) → S.length = count 0 S + count 1 S + count 2 S + count 3 S + count 4 S + count 5 S + count 6 S + count 7 S
  | [], _ => by simp [count]
  | s :: S, h => by
    have ih := len_count S fun x hx => h x (List.mem_cons_of_mem _ hx)
    have hs := h s (List.mem_cons_self ..)
    have hc : ∀ c, count c (s :: S) = (if s.1 = c then 1 else 0) + count c S := fun c => by
      by_cases e : s.1 = c
      · simp [count, mine, e]; omega
      · simp [count, mine, e]
    have hcase : s.1 = 0 ∨ s.1 = 1 ∨ s.1 = 2 ∨ s.1 = 3 ∨ s.1 = 4 ∨ s.1 = 5 ∨ s.1 = 6 ∨ s.1 = 7 := by omega
    simp only [hc, List.length_cons]
    rcases hcase with e | e | e | e | e | e | e | e <;> simp [e] <;> omega

theorem inv_len {S : List Snap} (h : Inv S) : S.length ≤ 64 := by
  have := len_count S h.client
  have h0 := h.most 0
  have h1 := h.most 1
  have h2 := h.most 2
  have h3 := h.most 3
  have h4 := h.most 4
  have h5 := h.most 5
  have h6 := h.most 6
  have h7 := h.most 7
  omega

theorem keys_none (w : World) : KeysAt w none 0 0 [] := ⟨rfl, .inl rfl, by decide, Nat.le_refl _⟩

theorem step_begin : step [] ⟨0, 1, 1, 0, ⟨#[115]⟩, ⟨#[]⟩, []⟩ = (no 0, [(0, ⟨#[115]⟩, false, [])]) := by kernel_rfl
theorem step_commit : step [(0, ⟨#[115]⟩, false, [])] ⟨0, 1, 3, 0, ⟨#[115]⟩, ⟨#[]⟩, []⟩ = (no 0, [(0, ⟨#[115]⟩, true, [])]) := by kernel_rfl
theorem step_list : step [(0, ⟨#[115]⟩, true, [])] ⟨0, 1, 5, 0, ⟨#[]⟩, ⟨#[]⟩, []⟩ = (⟨0, 0, [⟨#[115]⟩], [], []⟩, [(0, ⟨#[115]⟩, true, [])]) := by kernel_rfl
theorem step_none (S : List Snap) : step S ⟨0, 1, 0, 0, ⟨#[]⟩, ⟨#[]⟩, []⟩ = (no 1, S) := by kernel_rfl
end Go.Proofs.YtlpgdfdadkljfaaGreat.Cat
