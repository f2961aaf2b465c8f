/-
  partsOf: an array of rows of snapshots, one a client; their bytes as texts.
-/
import Derived.Test.YtlpgdfdadkljfaaImPut
namespace Go.Proofs.Ytlpgdfdadkljfaa.Img
open Go.RowKit Route Tree Order Cat

/-- A client's snapshots. -/
def ownZ (c : Nat) (Z : List SZ) : List SZ := Z.filter fun z => decide (z.1 = (c : Int))
def ownS (c : Nat) (S : List Snap) : List Snap := S.filter fun s => decide (s.1 = (c : Int))
theorem own_map (c : Nat) (Z : List SZ) : (ownZ c Z).map snapOf = ownS c (Z.map snapOf) := by
  unfold ownZ ownS
  rw [List.filter_map]
  rfl
theorem ownZ_snoc (c : Nat) (Z : List SZ) (z : SZ) : ownZ c (Z ++ [z]) = if z.1 = (c : Int) then ownZ c Z ++ [z] else ownZ c Z := by
  unfold ownZ
  rw [List.filter_append]
  by_cases h : z.1 = (c : Int)
  · rw [if_pos h, List.filter_cons_of_pos (by simp [h])]; rfl
  · rw [if_neg h, List.filter_cons_of_neg (by simp [h])]; simp

def nilS : Value := .slice none 0 0
def vat (vs : List Value) (c : Nat) : Value := vs.getD c nilS

/-- The array in block b: each client's row in a block of its own, from B on. -/
structure Arr (b B : Nat) (vs : List Value) (Z : List SZ) (w : World) : Prop where
  box : w.heap[b]? = some (.cells vs.toArray 86 (0, 0))
  len : vs.length = 8
  row : ∀ c, c < 8 → w.ownsRow B 52 4 (vat vs c) (ownZ c Z).length (scells (ownZ c Z))
  apart : ∀ c d, c < 8 → d < 8 → c ≠ d → (vat vs c).ownBlock = none ∨ (vat vs c).ownBlock ≠ (vat vs d).ownBlock

theorem Arr.below {b B : Nat} {vs : List Value} {Z : List SZ} {w w' : World} (h : Arr b B vs Z w) (hb : Below w.heap.size w w') : Arr b B vs Z w' :=
  ⟨(hb.block b (Array.getElem?_eq_some_iff.1 h.box).1).trans h.box, h.len, fun c hc => own30_later (h.row c hc) hb, h.apart⟩
theorem Arr.cell {b B : Nat} {vs : List Value} {Z : List SZ} {w : World} (h : Arr b B vs Z w) {c : Nat} (hc : c < 8) : w.cell? ⟨b, c, none⟩ = some (vat vs c) ∧ w.frozen? ⟨b, c, none⟩ = false := by
  have hl := h.len
  constructor
  · simp [World.cell?, h.box, vat, List.getD_eq_getElem?_getD, show c < vs.length by omega]
  · simp [World.frozen?, h.box]

set_option maxRecDepth 100000 in
theorem index_arr (b c : Nat) (hc : c < 8) (w : World) : (Instr.indexAt 86 (.pointer (some ⟨b, 0, none⟩)) (.int .i64 (c : Int))).run Try.prog w = .ok (.pointer (some ⟨b, c, none⟩)) w := by
  rw [run_indexAt_array w 86 ⟨b, 0, none⟩ .i64 c (by kernel_rfl)]
  have e1 : Try.prog.arrayLen 86 = 8 := by kernel_rfl
  have e2 : (sizeOf (Try.prog.elem 86)).run Try.prog w = .ok 1 w := by kernel_rfl
  rw [e1, e2, if_pos (by omega)]
  simp only [Result.andThen, Int.toNat_natCast, Nat.mul_one]
  by_cases h0 : c = 0
  · subst h0; rfl
  · simp [Addr.add, h0]

theorem index_agg (vs : List Value) (c : Nat) (hc : c < 8) (hl : vs.length = 8) (w : World) : (Instr.index 86 (.agg vs.toArray) (.int .i64 (c : Int))).run Try.prog w = .ok (vat vs c) w := by
  have e2 : (sizeOf 22).run Try.prog w = .ok 1 w := by kernel_rfl
  have e3 : (isAgg 22).run Try.prog w = .ok false w := by kernel_rfl
  have hc2 : (c : Int) < 8 := by omega
  simp [Instr.index, run_underlying Try.underlying86, asIntOf, part, e2, e3, hc, Result.andThen, vat, List.getD_eq_getElem?_getD, show c < vs.length by omega]

theorem load_arr {b B : Nat} {vs : List Value} {Z : List SZ} {w : World} (h : Arr b B vs Z w) : (Instr.loadAt 86 (.pointer (some ⟨b, 0, none⟩))).run Try.prog w = .ok (.agg vs.toArray) w := by
  have h1 := run_loadCells_list (P := Try.prog) w ⟨b, 0, none⟩ vs (by
    intro j v hj
    have ea : (⟨b, 0, none⟩ : Addr).add j = ⟨b, j, none⟩ := by unfold Addr.add; split <;> simp_all
    rw [ea]
    simp [World.cell?, h.box, hj])
  rw [h.len] at h1
  have ha : (isAgg 86).run Try.prog w = .ok true w := by kernel_rfl
  have hs : (sizeOf 86).run Try.prog w = .ok 8 w := by kernel_rfl
  simp [Instr.loadAt, Instr.sureAddr, loadVar, Result.andThen, h1, ha, hs]

/-- A snapshot's cells appended to its client's row: the run, and what stands once it is stored. -/
theorem Arr.push {b B : Nat} {vs : List Value} {Z : List SZ} {w0 : World} {z : SZ} (h : Arr b B vs Z w0) (hB : B ≤ w0.heap.size) {c : Nat} (hc : c < 8) (hz : z.1 = (c : Int)) (hone : z.2.2.2.1.oneCell' = true) (hlen : Z.length + 1 ≤ 1000000) (ty : TypeId) :
    ∃ v' w', (Builtin.append_ #[22, 22] ty #[vat vs c, .slice (some ⟨w0.heap.size, 0, none⟩) 1 1]).run Try.prog (w0.alloc (.cells #[.int .i64 (c : Int), .string z.2.1, .bool z.2.2.1, z.2.2.2.1] 52)) = .ok v' w' ∧
      w'.cell? ⟨b, c, none⟩ = some (vat vs c) ∧ w'.frozen? ⟨b, c, none⟩ = false ∧ w'.heap.size ≥ w0.heap.size ∧ (∀ k, k < w0.heap.size → k < B → w'.heap[k]? = w0.heap[k]?) ∧ w'.os = w0.os ∧ w'.tape = w0.tape ∧ w'.output = w0.output ∧
      Arr b B (vs.set c v') (Z ++ [z]) (w'.setCell ⟨b, c, none⟩ v') ∧ ∀ k, k < w0.heap.size → some k ≠ (vat vs c).ownBlock → w'.heap[k]? = w0.heap[k]? := by
  obtain ⟨i0, hi, hz0, hz1, hz2⟩ := info_parts info52
  have hb : Below w0.heap.size w0 (w0.alloc (.cells #[.int .i64 (c : Int), .string z.2.1, .bool z.2.2.1, z.2.2.2.1] 52)) := (Below.refl _ _).alloc (Nat.le_refl _) _
  have h' := h.below hb
  have hol : (ownZ c Z).length ≤ Z.length := List.length_filter_le _ _
  have hvl := h.len
  obtain ⟨v', w', hr, h2, h3, _, h5⟩ := run_append_own_at (P := Try.prog) (w0.alloc (.cells #[.int .i64 (c : Int), .string z.2.1, .bool z.2.2.1, z.2.2.2.1] 52)) B 22 ty 52 i0 (.agg #[.int .i64 0, .string ByteArray.empty, .bool false, .slice none 0 0]) 4 56 Try.underlying22 hi hz0 hz1 hz2 rfl (by decide) (vat vs c) (ownZ c Z).length (scells (ownZ c Z)) (h'.row c hc) ⟨w0.heap.size, 0, none⟩ 1 1 [.int .i64 (c : Int), .string z.2.1, .bool z.2.2.1, z.2.2.2.1] rfl
    (by
      intro j u hj
      match j, hj with
      | 0, hj => simp at hj; subst hj; simp [Addr.add]
      | 1, hj => simp at hj; subst hj; simp [Addr.add]
      | 2, hj => simp at hj; subst hj; simp [Addr.add]
      | 3, hj => simp at hj; subst hj; simp [Addr.add]
      | (j + 4), hj => simp at hj)
    (by
      intro u hu
      simp at hu
      rcases hu with rfl | rfl | rfl | rfl
      · rfl
      · rfl
      · rfl
      · exact hone)
    (by unfold maxLen; omega) (by omega) (Nat.le_trans hB hb.size)
  have hbl : b < w0.heap.size := (Array.getElem?_eq_some_iff.1 h.box).1
  have hnb : ∀ d, d < 8 → some b ≠ (vat vs d).ownBlock := fun d hd => by
    rcases (h.row d hd).2 with ⟨e, _⟩ | ⟨g, cap, cur, e, _, e2, _⟩
    · rw [e]; simp [Value.ownBlock]
    · rw [e]
      simp only [Value.ownBlock, ne_eq, Option.some.injEq]
      rintro rfl
      rw [h.box] at e2
      simp at e2
  have hbx : w'.heap[b]? = some (.cells vs.toArray 86 (0, 0)) := (h3.block b (by simp; omega) (hnb c hc)).trans h'.box
  have hnew : ∀ k, v'.ownBlock = some k → (vat vs c).ownBlock = some k ∨ k = w0.heap.size + 1 := fun k hk => by
    rcases h5 with e | e
    · exact .inl (e ▸ hk)
    · rw [hk] at e; right; have := Option.some.inj e; simpa using this
  have hset : ∀ d, vat (vs.set c v') d = if d = c then v' else vat vs d := fun d => by
    unfold vat
    by_cases hd : d = c
    · subst hd
      simp [List.getD_eq_getElem?_getD, show d < vs.length by omega]
    · rw [if_neg hd]
      simp [List.getD_eq_getElem?_getD, Ne.symm hd]
  have ho : ∀ k, k ≠ b → ∀ u, (w'.setCell ⟨b, c, none⟩ u).heap[k]? = w'.heap[k]? := fun k hk u => Below.heap_setCell _ _ _ _ hk
  have hkeep : ∀ {v : Value} {m : Nat} {xs : List Value}, w'.ownsRow B 52 4 v m xs → v.ownBlock ≠ some b → (w'.setCell ⟨b, c, none⟩ v').ownsRow B 52 4 v m xs := fun {v m xs} hv hn => own_keep hv fun g hg => ho g (fun e => hn (by rw [hg, e])) _
  refine ⟨v', w', hr, by simp [World.cell?, hbx, vat, List.getD_eq_getElem?_getD, show c < vs.length by omega], by simp [World.frozen?, hbx], Nat.le_trans hb.size h3.size, fun k hk hkB => ?_, h3.os, h3.tape, h3.output, ⟨?_, by simp [hvl], fun d hd => ?_, fun d e hd he hne => ?_⟩, fun k hk hn => (h3.block k (by simp; omega) hn).trans (Below.heap_alloc _ _ _ hk)⟩
  · refine (h3.block k (by simp; omega) fun e => ?_).trans (Below.heap_alloc _ _ _ hk)
    have := (h.row c hc).lt k e.symm
    omega
  · simp [World.setCell, Array.getElem?_modify, hbx]
  · rw [hset d, ownZ_snoc]
    by_cases hdc : d = c
    · subst hdc
      rw [if_pos rfl, if_pos hz]
      refine hkeep ?_ fun e => ?_
      · rw [scells_app, List.length_append]
        have e1 : scells [z] = [.int .i64 (d : Int), .string z.2.1, .bool z.2.2.1, z.2.2.2.1] := by rw [← hz]; simp [scells, Cat.encS, Tree.fix, hone]
        rw [e1]; exact h2
      · rcases hnew b e with e2 | e2
        · exact hnb d hc e2.symm
        · omega
    · rw [if_neg hdc, if_neg (by omega)]
      refine hkeep ((h'.row d hd).kept h3 ?_) fun e => hnb d hd e.symm
      exact h.apart d c hd hc hdc
  · rw [hset d, hset e]
    have hlt : ∀ x k, x < 8 → (vat vs x).ownBlock = some k → k < w0.heap.size := fun x k hx hk => ((h.row x hx).lt k hk).2
    by_cases hdc : d = c
    · subst hdc
      rw [if_pos rfl, if_neg (Ne.symm hne)]
      cases hv : v'.ownBlock with
      | none => exact .inl rfl
      | some k =>
        right
        intro e2
        rcases hnew k hv with e3 | e3
        · rcases h.apart d e hd he hne with e4 | e4
          · rw [e3] at e4; cases e4
          · exact e4 (e3.trans e2)
        · have := hlt e k he e2.symm; omega
    · rw [if_neg hdc]
      by_cases hec : e = c
      · subst hec
        rw [if_pos rfl]
        cases hv : (vat vs d).ownBlock with
        | none => exact .inl rfl
        | some k =>
          right
          intro e2
          rcases hnew k e2.symm with e3 | e3
          · rcases h.apart d e hd he hne with e4 | e4
            · rw [hv] at e4; cases e4
            · exact e4 (hv.trans e3.symm)
          · have := hlt d k hd hv; omega
      · rw [if_neg hec]; exact h.apart d e hd he hne
end Go.Proofs.Ytlpgdfdadkljfaa.Img
