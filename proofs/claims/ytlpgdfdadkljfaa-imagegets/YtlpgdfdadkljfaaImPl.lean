/-
  What the plain seat wants of rows of snapshots.
-/
import Derived.Test.YtlpgdfdadkljfaaCtFrom
namespace Go.Proofs.Ytlpgdfdadkljfaa.Cat
open Go.RowKit Route Tree Order

theorem SRow.sees {B : Nat} {v : Value} {Z : List SZ} {w : World} (h : SRow B v Z w) : ∃ a cap, v = .slice a Z.length cap ∧ LiesN w a (Z.map snapOf) := by
  obtain ⟨a, cap, h1, _, _, _, h2⟩ := rows_see h.own h.ents
  exact ⟨a, cap, h1, h2⟩

theorem len_count : ∀ (S : List Snap), (∀ s ∈ S, 0 ≤ s.1 ∧ s.1 ≤ 7) → S.length = count 0 S + count 1 S + count 2 S + count 3 S + count 4 S + count 5 S + count 6 S + count 7 S
  | [], _ => by simp [count]
  | s :: S, h => by
    have ih := len_count S fun x hx => h x (List.mem_cons_of_mem _ hx)
    have hs := h s (List.mem_cons_self ..)
    have hc : ∀ c, count c (s :: S) = (if s.1 = c then 1 else 0) + count c S := fun c => by
      by_cases e : s.1 = c
      · simp [count, mine, e]; omega
      · simp [count, mine, e]
    have hcase : s.1 = 0 ∨ s.1 = 1 ∨ s.1 = 2 ∨ s.1 = 3 ∨ s.1 = 4 ∨ s.1 = 5 ∨ s.1 = 6 ∨ s.1 = 7 := by omega
    simp only [hc, List.length_cons]
    rcases hcase with e | e | e | e | e | e | e | e <;> simp [e] <;> omega

theorem inv_len {S : List Snap} (h : Inv S) : S.length ≤ 64 := by
  have := len_count S h.client
  have h0 := h.most 0
  have h1 := h.most 1
  have h2 := h.most 2
  have h3 := h.most 3
  have h4 := h.most 4
  have h5 := h.most 5
  have h6 := h.most 6
  have h7 := h.most 7
  omega

theorem Inv.short {S : List Snap} (h : Inv S) : ∀ s ∈ S, SShort s := fun s hs => given_short (h.given s hs)
end Go.Proofs.Ytlpgdfdadkljfaa.Cat
