/-
  Files turned: a row of them behind another one, also where the statement's order is drawn; pieces of a row that came in.
-/
import Derived.Test.YtcjkficpiedpfabDoorTrGood
import Derived.Test.YtcjkficpiedpfabDoorTrUp
namespace Go.Proofs.YtcjkficpiedpfabDoor.Tree
open Go.RowKit Route Chunk

theorem fcells_one (F : List (ByteArray × ByteArray)) : ∀ u ∈ fcells F, u.oneCell' = true := by
  intro u hu
  simp only [fcells, List.mem_flatMap] at hu
  obtain ⟨f, _, h⟩ := hu
  simp at h
  rcases h with rfl | rfl <;> rfl

/-- A row of files behind a row, at the operation. -/
theorem wp_files {o : Oper} {a : Act} {K : Act → World → Prop} {Q : Exit → Act → World → Prop} (s x : Operand)
    (ho : o.op = .call { callee := .builtin .append, args := #[s, x], argTypes := #[22, 22] })
    (B : Nat) (v : Value) (F : List (ByteArray × ByteArray)) (hs : a.eval s = v) (W0 w0 : World) (hb : FRow B v F W0 w0) (G : List (ByteArray × ByteArray)) (ad : Addr) (k c : Nat)
    (hx : a.eval x = .slice (some ad) k c) (hk : k = G.length) (hg : LiesF w0 (some ad) G) (hlen : F.length + k ≤ 1000000)
    (h : ∀ v' w', FRow B v' (F ++ G) W0 w' → K (a.put o.dst v') w') : o.wp Tryd.prog a w0 K Q := by
  subst hk
  obtain ⟨i0, hi, hz0, hz1, hz2⟩ := info_parts info58
  refine wp_append_own _ s x 22 ho B 24 i0 (.agg #[.string ByteArray.empty, .string ByteArray.empty]) 2 32 Tryd.underlying22 hi hz0 hz1 hz2 rfl (by decide) v F.length (fcells F) hs hb.1 ad G.length c (fcells G) hx (by rw [fcells_len]) ?_ (fcells_one G) (by unfold maxLen; omega) (by omega) hb.2.2 ?_
  · intro j u hj
    have hjl : j < G.length * 2 := by
      have := (List.getElem?_eq_some_iff.1 hj).1
      rwa [fcells_len] at this
    obtain ⟨i, hi⟩ : ∃ i, j = i * 2 ∨ j = i * 2 + 1 := ⟨j / 2, by omega⟩
    obtain ⟨y, hy, c0, c1⟩ := hg.at (j := i) (by omega)
    simp only [Option.some.injEq] at hy
    subst hy
    obtain ⟨f0, f1⟩ := fcells_at G i (by omega)
    rcases hi with rfl | rfl
    · exact c0.trans (f0.symm.trans hj)
    · have ea : ad.add (i * 2 + 1) = ⟨(ad.add (i * 2)).block, (ad.add (i * 2)).off + 1, none⟩ := by
        by_cases h0 : i * 2 = 0
        · rw [h0]; rfl
        · unfold Addr.add
          rw [if_neg h0, if_neg (show ¬ i * 2 + 1 = 0 by omega)]
          simp [Nat.add_assoc]
      rw [ea]
      exact c1.trans (f1.symm.trans hj)
  · intro v' w' ho' hgr _
    refine h v' w' (hb.grown (F' := F ++ G) ?_ hgr)
    rw [fcells_app, List.length_append]
    exact ho'

theorem step_files {ops : Array Oper} {o : Oper} {a : Act} {K : Act → World → Prop} {Q : Exit → Act → World → Prop} {E : Prop} (hgd : o.guard = none) (s x : Operand)
    (ho : o.op = .call { callee := .builtin .append, args := #[s, x], argTypes := #[22, 22] })
    (B : Nat) (v : Value) (F : List (ByteArray × ByteArray)) (hs : a.eval s = v) (W0 w0 : World) (hb : FRow B v F W0 w0) (G : List (ByteArray × ByteArray)) (ad : Addr) (k c : Nat)
    (hx : a.eval x = .slice (some ad) k c) (hk : k = G.length) (hg : LiesF w0 (some ad) G) (hlen : F.length + k ≤ 1000000)
    (h : ∀ v' w', FRow B v' (F ++ G) W0 w' → K (a.put o.dst v') w') : if Region.wanted o (yielded ops a.tmps) = true then o.wp Tryd.prog a w0 K Q else E := by
  have hw : Region.wanted o (yielded ops a.tmps) = true := by simp [Region.wanted, hgd]
  rw [if_pos hw]
  exact wp_files s x ho B v F hs W0 w0 hb G ad k c hx hk hg hlen h

theorem FRow.fresh (w : World) : FRow w.heap.size (.slice (some ⟨w.heap.size, 0, none⟩) 0 0) [] w (w.alloc (.cells #[] 24)) :=
  ⟨World.ownsRow_lit w #[] 0 (Nat.le_refl _) (Nat.zero_le _) rfl, (Below.refl _ _).alloc (Nat.le_refl _) _, Nat.le_of_lt (by simp)⟩

/-- The files from the k-th on. -/
theorem files_from (x : Addr) (n cap k : Nat) (l : List (ByteArray × ByteArray)) (w : World) (hn : n = l.length) (hl : LiesF w (some x) l) (hk : k < n) (hc : n ≤ cap) :
    ∃ (y : Addr), (∀ W, (Instr.slice 22 (.slice (some x) n cap) (some (.int .i64 (k : Int))) none none).run Tryd.prog W = .ok (.slice (some y) (n - k) (cap - k)) W) ∧ LiesF w (some y) (l.drop k) := by
  refine ⟨x.add (k * 2), fun W => ?_, .inr ⟨_, rfl, fun j hj => ?_⟩⟩
  · rw [run_slice_l W 22 (some x) n cap (by kernel_rfl) .i64 (k : Int) (by omega) (by omega)]
    have e : (sizeOf (Tryd.prog.elem 22)).run Tryd.prog W = .ok 2 W := by kernel_rfl
    rw [e]
    simp [sliced, Result.andThen, show cap ≠ k by omega]
  · rw [List.length_drop] at hj
    obtain ⟨y, hy, c0, c1⟩ := hl.at (j := k + j) (by omega)
    simp only [Option.some.injEq] at hy
    subst hy
    have e : fileOf (l.drop k) j = fileOf l (k + j) := by simp [fileOf, List.getD_eq_getElem?_getD]
    have ea : (x.add (k * 2)).add (j * 2) = x.add ((k + j) * 2) := by
      by_cases h1 : k = 0
      · subst h1; simp [Addr.add]
      · by_cases h2 : j = 0
        · subst h2; simp [Addr.add]
        · unfold Addr.add
          rw [if_neg (show ¬ k * 2 = 0 by omega), if_neg (show ¬ j * 2 = 0 by omega), if_neg (show ¬ (k + j) * 2 = 0 by omega)]
          simp [Nat.add_mul, Nat.add_assoc]
    rw [e, ea]
    exact ⟨c0, c1⟩
end Go.Proofs.YtcjkficpiedpfabDoor.Tree
