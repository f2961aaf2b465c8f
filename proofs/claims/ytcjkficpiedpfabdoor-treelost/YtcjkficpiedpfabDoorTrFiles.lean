/-
  Rows of files that a call owns; one more behind them, also where the statement's order is drawn.
-/
import Derived.Test.YtcjkficpiedpfabDoorTrSet
import Derived.Test.YtcjkficpiedpfabDoorTrRow
import Derived.Deep.RegionHeld3
import Derived.Deep.AppendLies
namespace Go.Proofs.YtcjkficpiedpfabDoor.Tree
open Go.RowKit Route Chunk

/-- Files as a row's cells. -/
def fcells (F : List (ByteArray × ByteArray)) : List Value := F.flatMap fun f => [.string f.1, .string f.2]
theorem fcells_len (F : List (ByteArray × ByteArray)) : (fcells F).length = F.length * 2 := by
  induction F with
  | nil => rfl
  | cons z F ih => simp only [fcells, List.flatMap_cons, List.length_append] at *; rw [ih]; simp; omega
theorem fcells_app (F G : List (ByteArray × ByteArray)) : fcells (F ++ G) = fcells F ++ fcells G := by simp [fcells]
theorem fcells_at : ∀ (F : List (ByteArray × ByteArray)) (j : Nat), j < F.length → (fcells F)[j * 2]? = some (.string (fileOf F j).1) ∧ (fcells F)[j * 2 + 1]? = some (.string (fileOf F j).2)
  | [], j, hj => by simp at hj
  | f :: F, 0, _ => by simp [fcells, fileOf]
  | f :: F, j + 1, hj => by
    have ih := fcells_at F j (by simpa using hj)
    have e1 : fcells (f :: F) = .string f.1 :: .string f.2 :: fcells F := by simp [fcells]
    rw [e1, show (j + 1) * 2 = j * 2 + 1 + 1 by omega]
    simpa [fileOf] using ih

/-- In w the slice v owns the files F, in a block from B on; below B the world is as W0 was. -/
def FRow (B : Nat) (v : Value) (F : List (ByteArray × ByteArray)) (W0 w : World) : Prop := w.ownsRow B 24 2 v F.length (fcells F) ∧ Below B W0 w ∧ B ≤ w.heap.size

theorem FRow.nil (w : World) : FRow w.heap.size (.slice none 0 0) [] w w := ⟨World.ownsRow_nil w _ 24 2, Below.refl _ _, Nat.le_refl _⟩
theorem FRow.later {B : Nat} {v : Value} {F : List (ByteArray × ByteArray)} {W0 w w' : World} (h : FRow B v F W0 w) (hb : Below w.heap.size w w') : FRow B v F W0 w' :=
  ⟨own30_later h.1 hb, h.2.1.trans (hb.mono h.2.2), Nat.le_trans h.2.2 hb.size⟩
theorem FRow.alloc {B : Nat} {v : Value} {F : List (ByteArray × ByteArray)} {W0 w : World} (h : FRow B v F W0 w) (o : Obj) : FRow B v F W0 (w.alloc o) := h.later ((Below.refl _ _).alloc (Nat.le_refl _) o)
theorem FRow.grown {B : Nat} {v v' : Value} {F F' : List (ByteArray × ByteArray)} {W0 w w' : World} (h : FRow B v F W0 w) (ho : w'.ownsRow B 24 2 v' F'.length (fcells F')) (hg : w.grownBy w' v.ownBlock) : FRow B v' F' W0 w' :=
  ⟨ho, h.2.1.grown hg h.2.2 (fun k hk => (h.1.lt k hk).1), Nat.le_trans h.2.2 hg.size⟩

/-- What a row of files reads as. -/
theorem FRow.lies {B : Nat} {v : Value} {F : List (ByteArray × ByteArray)} {W0 w : World} (h : FRow B v F W0 w) : ∃ a cap, v = .slice a F.length cap ∧ F.length ≤ cap ∧ LiesF w a F := by
  rcases h.1.2 with ⟨rfl, hn⟩ | ⟨g, cap, cur, rfl, hb, hg, hnc, hcm, hcs, ht⟩
  · have : F = [] := List.eq_nil_of_length_eq_zero hn
    subst this
    exact ⟨none, 0, rfl, Nat.le_refl _, .inl rfl⟩
  · refine ⟨_, cap, rfl, hnc, .inr ⟨_, rfl, fun j hj => ?_⟩⟩
    obtain ⟨h0, h1⟩ := fcells_at F j hj
    rw [Go.WideShapes.add_plain, Nat.zero_add]
    exact ⟨by rw [h.1.cellAt (j * 2) (by omega), h0], by rw [h.1.cellAt (j * 2 + 1) (by omega), h1]⟩

theorem FRow.liesN {B n : Nat} {v : Value} {F : List (ByteArray × ByteArray)} {W0 w : World} (h : FRow B v F W0 w) (hn : n = F.length) : ∃ a cap, v = .slice a n cap ∧ n ≤ cap ∧ LiesF w a F := by
  subst hn; exact h.lies

theorem info58 : (Tryd.prog.info? 24).map (fun i => (i.zero, i.size, i.bytes)) = some (some (.agg #[.string ByteArray.empty, .string ByteArray.empty]), 2, 32) := by kernel_rfl

/-- A block of another kind is none that a row of files lies in. -/
theorem apart58 {w : World} {B b : Nat} {v : Value} {n s : Nat} {xs : List Value} {cs : Array Value} {t : TypeId} {fr : Nat × Nat} (h : w.ownsRow B 24 s v n xs) (hb : w.heap[b]? = some (.cells cs t fr)) (ht : t ≠ 24) : some b ≠ v.ownBlock := by
  rcases h.2 with ⟨rfl, _⟩ | ⟨g, cap, cur, rfl, _, e, _⟩
  · simp [Value.ownBlock]
  · simp only [Value.ownBlock, ne_eq, Option.some.injEq]
    rintro rfl
    rw [hb] at e
    simp only [Option.some.injEq, Obj.cells.injEq] at e
    exact ht e.2.1

/-- One file behind a row, at the operation. -/
theorem wp_file {o : Oper} {a : Act} {K : Act → World → Prop} {Q : Exit → Act → World → Prop} (s x : Operand)
    (ho : o.op = .call { callee := .builtin .append, args := #[s, x], argTypes := #[22, 22] })
    (B : Nat) (v : Value) (F : List (ByteArray × ByteArray)) (hs : a.eval s = v) (W0 w0 : World) (p q : ByteArray) (hb : FRow B v F W0 w0) (b : Nat)
    (hx : a.eval x = .slice (some ⟨b, 0, none⟩) 1 1) (hb0 : b = w0.heap.size) (hlen : F.length + 1 ≤ 1000000)
    (h : ∀ v' w', FRow B v' (F ++ [(p, q)]) W0 w' → (∀ k, k < w0.heap.size → some k ≠ v.ownBlock → w'.heap[k]? = w0.heap[k]?) → K (a.put o.dst v') w') : o.wp Tryd.prog a (w0.alloc (.cells #[.string p, .string q] 24)) K Q := by
  subst hb0
  obtain ⟨i0, hi, hz0, hz1, hz2⟩ := info_parts info58
  have hb' := hb.alloc (.cells #[.string p, .string q] 24)
  refine wp_append_own _ s x 22 ho B 24 i0 (.agg #[.string ByteArray.empty, .string ByteArray.empty]) 2 32 Tryd.underlying22 hi hz0 hz1 hz2 rfl (by decide) v F.length (fcells F) hs hb'.1 ⟨w0.heap.size, 0, none⟩ 1 1 [.string p, .string q] hx rfl ?_ ?_ (by unfold maxLen; omega) (by omega) hb'.2.2 ?_
  · intro j u hj
    match j, hj with
    | 0, hj => simp at hj; subst hj; simp [Addr.add]
    | 1, hj => simp at hj; subst hj; simp [Addr.add]
    | (j + 2), hj => simp at hj
  · intro u hu
    simp at hu
    rcases hu with rfl | rfl <;> rfl
  · intro v' w' ho' hg _
    refine h v' w' (hb'.grown (F' := F ++ [(p, q)]) ?_ hg) ?_
    · rw [fcells_app, List.length_append]
      exact ho'
    · intro k hk hne
      rw [hg.block k (by simp; omega) hne]
      exact Below.heap_alloc w0 _ k hk

theorem step_file {ops : Array Oper} {o : Oper} {a : Act} {K : Act → World → Prop} {Q : Exit → Act → World → Prop} {E : Prop} (hgd : o.guard = none) (s x : Operand)
    (ho : o.op = .call { callee := .builtin .append, args := #[s, x], argTypes := #[22, 22] })
    (B : Nat) (v : Value) (F : List (ByteArray × ByteArray)) (hs : a.eval s = v) (W0 w0 : World) (p q : ByteArray) (hb : FRow B v F W0 w0) (b : Nat)
    (hx : a.eval x = .slice (some ⟨b, 0, none⟩) 1 1) (hb0 : b = w0.heap.size) (hlen : F.length + 1 ≤ 1000000)
    (h : ∀ v' w', FRow B v' (F ++ [(p, q)]) W0 w' → (∀ k, k < w0.heap.size → some k ≠ v.ownBlock → w'.heap[k]? = w0.heap[k]?) → K (a.put o.dst v') w') :
    if Region.wanted o (yielded ops a.tmps) = true then o.wp Tryd.prog a (w0.alloc (.cells #[.string p, .string q] 24)) K Q else E := by
  have hw : Region.wanted o (yielded ops a.tmps) = true := by simp [Region.wanted, hgd]
  rw [if_pos hw]
  exact wp_file s x ho B v F hs W0 w0 p q hb b hx hb0 hlen h
end Go.Proofs.YtcjkficpiedpfabDoor.Tree
