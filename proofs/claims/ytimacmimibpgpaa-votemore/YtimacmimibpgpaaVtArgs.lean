/-
  What the laws' walks are told of the arguments: votes, texts and one vote that came in.
-/
import Derived.Test.YtimacmimibpgpaaVtUp
import Derived.ProofKit
import Derived.OpenShut
import Derived.ShutString
import Derived.ChangeOld
import Derived.ChangeSame
import Derived.Below
import Derived.SliceStrings
import Derived.SizedLaws
import Derived.Deep.Slices
import Derived.Deep.SlicePairs
namespace Go.Proofs.Ytimacmimibpgpaa
open Go.ChangeShapes Go.WideShapes Go.ChangeAt Go.RowKit Go.Deep Vote

theorem own : ownKnob Try.prog.godebug = none := by kernel_rfl

theorem list_of {α : Type} (d : α) {P : Nat → α → Prop} : ∀ n, (∀ j, j < n → ∃ r, P j r) → ∃ L : List α, n = L.length ∧ ∀ j, j < n → P j (L.getD j d)
  | 0, _ => ⟨[], rfl, fun j hj => by omega⟩
  | n + 1, h => by
    obtain ⟨L, hl, hL⟩ := list_of d n fun j hj => h j (by omega)
    obtain ⟨r, hr⟩ := h n (by omega)
    refine ⟨L ++ [r], by simp [hl], fun j hj => ?_⟩
    by_cases e : j < n
    · have := hL j e
      simpa [List.getD_eq_getElem?_getD, List.getElem?_append_left (show j < L.length by omega)] using this
    · obtain rfl : j = n := by omega
      simpa [List.getD_eq_getElem?_getD, hl] using hr

theorem weights_all {H : Type} {P : Program} {e : TypeId} {d : DataW H} {n : Nat} : ∀ {l : List (DataW H)}, d ∈ l → n ∈ d.weights P e → n ∈ DataW.weightsAll P e l
  | [], h, _ => by simp at h
  | x :: r, h, hn => by
    rw [DataW.weightsAll, List.mem_append]
    rcases List.mem_cons.1 h with rfl | h
    · exact .inl hn
    · exact .inr (weights_all h hn)

theorem reach48 {n : Nat} (h : n ≤ reachBytes) : n ≤ 281474976710656 := Nat.le_trans h (by decide)

/-- Votes that came in. -/
theorem votes_in {H : Type} {enc : TypeId × Value → H} {W : World} {a : Option Addr} {len cap : Nat} {d : DataW H} {p : List MemPlace}
    (h : DataW.Trod enc Try.prog W 0 (fun _ => true) true 22 (Value.slice a len cap) d p) (hw : ∀ n ∈ d.weights Try.prog 22, n ≤ reachBytes) :
    ∃ L : List Vt, len = L.length ∧ LiesV W a L ∧ (∀ v ∈ L, VOk v) ∧ (a = none → cap = 0 ∧ len = 0) ∧ len ≤ 9223372036854775807 := by
  obtain ⟨fuel, hf⟩ := h
  have he := Try.underlying31
  rcases open_slice_pairs Try.underlying22 he cells31 rfl rfl cells3 cells9 hf with ⟨hcs, _⟩ | ⟨x, len', cap', m, n, V0, V1, D0, D1, P0, P1, hcs, _, hl, hmx, hm, hd, hel⟩
  · simp [Value.cells] at hcs
    obtain ⟨rfl, rfl, rfl⟩ := hcs
    exact ⟨[], rfl, .inl rfl, fun v hv => by simp at hv, fun _ => ⟨rfl, rfl⟩, Nat.zero_le _⟩
  · simp [Value.cells] at hcs
    obtain ⟨rfl, rfl, rfl⟩ := hcs
    have hm' : m = cap := by simpa using hm
    simp only [Prod.mk.injEq] at hd
    obtain ⟨L, hL, hLj⟩ := list_of noVt (P := fun j v => VtIn W (x.add (j * 2)) v ∧ VOk v) len fun j hj => by
      obtain ⟨c0, c1, t0, t1⟩ := hel j (by omega)
      obtain ⟨f, e0, _, hwf⟩ := DataW.trod_int Try.underlying3 t0
      obtain ⟨s, e1, hd1, _⟩ := DataW.trod_string Try.underlying9 t1
      simp only [List.cons.injEq, and_true] at e0 e1
      rw [e0] at c0
      rw [e1] at c1
      simp only [Prod.mk.injEq] at hd1
      have ea : x.add (j * 2 + 1) = ⟨(x.add (j * 2)).block, (x.add (j * 2)).off + 1, none⟩ := by
        by_cases h0 : j * 2 = 0
        · rw [h0]; rfl
        · unfold Addr.add
          rw [if_neg h0, if_neg (show ¬ j * 2 + 1 = 0 by omega)]
          simp [Nat.add_assoc]
      rw [ea] at c1
      refine ⟨(f, s), ⟨c0, c1⟩, hwf, reach48 (hw _ ?_)⟩
      rw [hd.1]
      show s.size ∈ DataW.weights Try.prog 22 (.slice _ _)
      simp only [DataW.weights, Try.underlying22]
      refine List.mem_cons_of_mem _ (List.mem_append_left _ (weights_all (d := .agg [D0 j, D1 j]) (List.mem_map.2 ⟨j, List.mem_range.2 hj, rfl⟩) ?_))
      rw [hd1.1]
      simp [DataW.weights, he, DataW.weightsEach]
    refine ⟨L, hL, .inr ⟨x, rfl, fun j hj => (hLj j (by omega)).1⟩, fun v hv => ?_, (fun h => by cases h), Nat.le_trans hl hmx⟩
    obtain ⟨j, hj, rfl⟩ := List.mem_iff_getElem.1 hv
    have := (hLj j (by omega)).2
    simpa [List.getD_eq_getElem?_getD, hj] using this
end Go.Proofs.Ytimacmimibpgpaa
