/-
  Insertion into a sorted row of entries: as plain lists, and in memory.
-/
import Derived.Test.YtcjkficpiedpfaaDoorTrRef3
import Derived.Deep.MidRow
namespace Go.Proofs.YtcjkficpiedpfaaDoor.Tree
open Go.RowKit Route Chunk

/-- e in the k-th place of Z. -/
def ins (Z : List ((ByteArray × Int × List ByteArray) × Value)) (k : Nat) (e : (ByteArray × Int × List ByteArray) × Value) : List ((ByteArray × Int × List ByteArray) × Value) := Z.take k ++ e :: Z.drop k

theorem ins_len {Z : List ((ByteArray × Int × List ByteArray) × Value)} {k : Nat} {e : (ByteArray × Int × List ByteArray) × Value} : (ins Z k e).length = Z.length + 1 := by
  unfold ins; simp; omega

theorem ins_end {Z : List ((ByteArray × Int × List ByteArray) × Value)} {e : (ByteArray × Int × List ByteArray) × Value} : ins Z Z.length e = Z ++ [e] := by unfold ins; simp

theorem ins_perm (Z : List ((ByteArray × Int × List ByteArray) × Value)) (k : Nat) (e : (ByteArray × Int × List ByteArray) × Value) : (ins Z k e).Perm (Z ++ [e]) := by
  unfold ins
  have h := List.perm_middle (a := e) (l₁ := Z.take k) (l₂ := Z.drop k)
  rw [List.take_append_drop] at h
  refine h.trans ?_
  have := (List.perm_append_comm (l₁ := [e]) (l₂ := Z))
  exact this

theorem zOf_take {Z : List ((ByteArray × Int × List ByteArray) × Value)} {k : Nat} (hk : k < Z.length) : Z.take (k + 1) = Z.take k ++ [zOf Z k] := by
  rw [List.take_succ_eq_append_getElem hk]
  simp [zOf, List.getD_eq_getElem?_getD, hk]
theorem zOf_drop {Z : List ((ByteArray × Int × List ByteArray) × Value)} {k : Nat} (hk : k < Z.length) : Z.drop k = zOf Z k :: Z.drop (k + 1) := by
  rw [List.drop_eq_getElem_cons hk]
  simp [zOf, List.getD_eq_getElem?_getD, hk]
theorem zOf_mem {Z : List ((ByteArray × Int × List ByteArray) × Value)} {k : Nat} (hk : k < Z.length) : zOf Z k ∈ Z := by
  have : zOf Z k = Z[k] := by simp [zOf, List.getD_eq_getElem?_getD, hk]
  rw [this]; exact List.getElem_mem hk

theorem ins_step {Z : List ((ByteArray × Int × List ByteArray) × Value)} {k : Nat} {e : (ByteArray × Int × List ByteArray) × Value} (hk : k < Z.length) : ((ins Z (k + 1) e).set (k + 1) (zOf Z k)).set k e = ins Z k e := by
  have hl : (Z.take k).length = k := by rw [List.length_take]; omega
  unfold ins
  rw [zOf_take hk, zOf_drop hk]
  have e1 : ((Z.take k ++ [zOf Z k]) ++ e :: Z.drop (k + 1)).set (k + 1) (zOf Z k) = (Z.take k ++ [zOf Z k]) ++ zOf Z k :: Z.drop (k + 1) := by
    rw [List.set_append_right _ _ (by simp; omega)]
    congr 1
    simp [hl]
  rw [e1, List.append_assoc, List.set_append_right _ _ (by omega), hl, Nat.sub_self]
  rfl

theorem ins_at {Z : List ((ByteArray × Int × List ByteArray) × Value)} {k : Nat} {e : (ByteArray × Int × List ByteArray) × Value} (hk : k ≤ Z.length) : zOf (ins Z k e) k = e := by
  have hl : (Z.take k).length = k := by rw [List.length_take]; omega
  unfold zOf ins
  rw [List.getD_eq_getElem?_getD, List.getElem?_append_right (by omega), hl, Nat.sub_self]
  rfl
theorem ins_ahead {Z : List ((ByteArray × Int × List ByteArray) × Value)} {k : Nat} {e : (ByteArray × Int × List ByteArray) × Value} (hk : k < Z.length) : zOf (ins Z (k + 1) e) k = zOf Z k := by
  unfold zOf ins
  rw [List.getD_eq_getElem?_getD, List.getElem?_append_left (by rw [List.length_take]; omega), List.getElem?_take_of_lt (by omega), List.getD_eq_getElem?_getD]

/-- Where e comes to stand the row is sorted. -/
theorem ins_sorted {Z : List ((ByteArray × Int × List ByteArray) × Value)} {k : Nat} {e : (ByteArray × Int × List ByteArray) × Value} (hk : k ≤ Z.length) (hs : SortedZ Z) (ha : ∀ y ∈ Z.drop k, lt e.1.1 y.1.1 = true) (hb : k = 0 ∨ lt (zOf Z (k - 1)).1.1 e.1.1 = true) : SortedZ (ins Z k e) := by
  unfold ins SortedZ
  have hs1 : (Z.take k).Pairwise fun x y => lt x.1.1 y.1.1 = true := List.Pairwise.sublist (List.take_sublist _ _) hs
  have hs2 : (Z.drop k).Pairwise fun x y => lt x.1.1 y.1.1 = true := List.Pairwise.sublist (List.drop_sublist _ _) hs
  have hap : ∀ x ∈ Z.take k, lt x.1.1 e.1.1 = true := by
    intro x hx
    rcases hb with rfl | hb
    · simp at hx
    · obtain ⟨j, hj, rfl⟩ := List.mem_take_iff_getElem.1 hx
      have hj1 : j < k := by omega
      have e1 : zOf Z (k - 1) = Z[k - 1]'(by omega) := by simp [zOf, List.getD_eq_getElem?_getD, show k - 1 < Z.length by omega]
      by_cases e2 : j = k - 1
      · subst e2; rw [← e1]; exact hb
      · exact lt_trans (by have := List.pairwise_iff_getElem.1 hs j (k - 1) (by omega) (by omega) (by omega); exact this) (by rw [← e1]; exact hb)
  refine List.pairwise_append.2 ⟨hs1, List.pairwise_cons.2 ⟨ha, hs2⟩, fun x hx y hy => ?_⟩
  rcases List.mem_cons.1 hy with rfl | hy
  · exact hap x hx
  · exact lt_trans (hap x hx) (ha y hy)

/-- One step to the front. -/
theorem ins_more {Z : List ((ByteArray × Int × List ByteArray) × Value)} {k : Nat} {e : (ByteArray × Int × List ByteArray) × Value} (hk : k < Z.length) (ha : ∀ y ∈ Z.drop (k + 1), lt e.1.1 y.1.1 = true) (h : lt e.1.1 (zOf Z k).1.1 = true) : ∀ y ∈ Z.drop k, lt e.1.1 y.1.1 = true := by
  rw [zOf_drop hk]
  intro y hy
  rcases List.mem_cons.1 hy with rfl | hy
  · exact h
  · exact ha y hy

theorem cellsOf_set (Z : List ((ByteArray × Int × List ByteArray) × Value)) (k : Nat) (z : (ByteArray × Int × List ByteArray) × Value) (c0 c1 c2 : Value) (he : enc z = [c0, c1, c2]) (hk : k < Z.length) :
    cellsOf (Z.set k z) = (((cellsOf Z).set (k * 3) c0).set (k * 3 + 1) c1).set (k * 3 + 1 + 1) c2 := by
  have hlen := cellsOf_len Z
  have hlen2 : (cellsOf (Z.set k z)).length = Z.length * 3 := by rw [cellsOf_len, List.length_set]
  apply List.ext_getElem?
  intro t
  by_cases ht : t < Z.length * 3
  · have e : t = t / 3 * 3 + t % 3 := by omega
    have h1 := cellsOf_at (Z.set k z) (t / 3) (t % 3) (by rw [List.length_set]; omega) (by omega)
    rw [← e] at h1
    have h2 := cellsOf_at Z (t / 3) (t % 3) (by omega) (by omega)
    rw [← e] at h2
    rw [h1]
    by_cases hq : t / 3 = k
    · have ez : zOf (Z.set k z) (t / 3) = z := by simp [zOf, List.getD_eq_getElem?_getD, hq, hk]
      rw [ez, he]
      have h3 : t % 3 = 0 ∨ t % 3 = 1 ∨ t % 3 = 2 := by omega
      rcases h3 with h3 | h3 | h3
      · have et : t = k * 3 := by omega
        rw [h3, List.getElem?_set_ne (by omega), List.getElem?_set_ne (by omega), et, List.getElem?_set_self (by omega)]
        rfl
      · have et : t = k * 3 + 1 := by omega
        rw [h3, List.getElem?_set_ne (by omega), et, List.getElem?_set_self (by rw [List.length_set]; omega)]
        rfl
      · have et : t = k * 3 + 1 + 1 := by omega
        rw [h3, et, List.getElem?_set_self (by rw [List.length_set, List.length_set]; omega)]
        rfl
    · have ez : zOf (Z.set k z) (t / 3) = zOf Z (t / 3) := by
        simp only [zOf, List.getD_eq_getElem?_getD]
        rw [List.getElem?_set_ne (fun h => hq h.symm)]
      rw [ez, List.getElem?_set_ne (by omega), List.getElem?_set_ne (by omega), List.getElem?_set_ne (by omega), h2]
  · rw [List.getElem?_eq_none (by omega), List.getElem?_eq_none (by rw [List.length_set, List.length_set, List.length_set]; omega)]

/-- The cells of one entry of a row. -/
theorem Ents.at_ {B g L cap : Nat} {Z : List ((ByteArray × Int × List ByteArray) × Value)} {W0 w : World} (h : Ents B (.slice (some ⟨g, 0, none⟩) L cap) Z W0 w) (hL : L = Z.length) (j : Nat) (hj : j < L) :
    w.cell? ⟨g, j * 3, none⟩ = some (.string (zOf Z j).1.1) ∧ w.cell? ⟨g, j * 3 + 1, none⟩ = some (.int .i64 (zOf Z j).1.2.1) ∧ w.cell? ⟨g, j * 3 + 2, none⟩ = some (zOf Z j).2 ∧ KeyRow B w (zOf Z j) := by
  subst hL
  have hk := h.2.2.2 (zOf Z j) (zOf_mem hj)
  have he := enc_key hk
  refine ⟨?_, ?_, ?_, hk⟩
  · rw [h.1.cellAt (j * 3) (by omega)]
    have := cellsOf_at Z j 0 hj (by omega)
    rw [he] at this
    exact this
  · rw [h.1.cellAt (j * 3 + 1) (by omega)]
    have := cellsOf_at Z j 1 hj (by omega)
    rw [he] at this
    exact this
  · rw [h.1.cellAt (j * 3 + 2) (by omega)]
    have := cellsOf_at Z j 2 hj (by omega)
    rw [he] at this
    exact this

theorem setCells_three (w : World) (b o : Nat) (c0 c1 c2 : Value) : w.setCells b o [c0, c1, c2] = ((w.setCell ⟨b, o, none⟩ c0).setCell ⟨b, o + 1, none⟩ c1).setCell ⟨b, o + 1 + 1, none⟩ c2 := rfl

theorem Ents.put {B g L cap : Nat} {Z : List ((ByteArray × Int × List ByteArray) × Value)} {W0 w : World} (h : Ents B (.slice (some ⟨g, 0, none⟩) L cap) Z W0 w) (hL : L = Z.length) (k : Nat) (hk : k < L) (z : (ByteArray × Int × List ByteArray) × Value) (hz : KeyRow B w z) :
    Ents B (.slice (some ⟨g, 0, none⟩) L cap) (Z.set k z) W0 (w.setCells g (k * 3) [.string z.1.1, .int .i64 z.1.2.1, z.2]) ∧ w.grownBy (w.setCells g (k * 3) [.string z.1.1, .int .i64 z.1.2.1, z.2]) (some g) := by
  subst hL
  rw [setCells_three]
  have s1 := h.1.stored (k * 3) (.string z.1.1)
  have s2 := s1.1.stored (k * 3 + 1) (.int .i64 z.1.2.1)
  have s3 := s2.1.stored (k * 3 + 1 + 1) z.2
  have hg : w.grownBy (((w.setCell ⟨g, k * 3, none⟩ (.string z.1.1)).setCell ⟨g, k * 3 + 1, none⟩ (.int .i64 z.1.2.1)).setCell ⟨g, k * 3 + 1 + 1, none⟩ z.2) (some g) :=
    ⟨rfl, rfl, rfl, by simp [World.setCell], fun q h1 h2 => ((s3.2.block q (by simpa [World.setCell] using h1) h2).trans (s2.2.block q (by simpa [World.setCell] using h1) h2)).trans (s1.2.block q h1 h2)⟩
  refine ⟨?_, hg⟩
  refine h.grown (Z' := Z.set k z) ?_ hg ?_
  · rw [cellsOf_set Z k z _ _ _ (enc_key hz) hk, List.length_set]
    exact s3.1
  · intro y hy
    rcases List.mem_or_eq_of_mem_set hy with hy | rfl
    · exact h.2.2.2 y hy
    · exact hz

theorem info30b : (Tryd.prog.info? 30).map (·.size) = some 3 := by kernel_rfl

/-- 'out[k] = e'. -/
theorem wpList_putEnt {ops : Array Oper} {rest : List Oper} {op : Oper} {a : Act} {w : World} {Q : Exit → Act → World → Prop} (hgd : op.guard = none) (x y : Operand) (ho : op.op = .store 30 x y) (hd : op.dst = none)
    (B g L cap : Nat) (Z : List ((ByteArray × Int × List ByteArray) × Value)) (W0 : World) (k : Nat) (p : ByteArray) (sz : Int) (C : List ByteArray) (kv : Value) (hx : a.eval x = .pointer (some ⟨g, k * 3, none⟩)) (hy : a.eval y = .agg #[.string p, .int .i64 sz, kv])
    (hb : Ents B (.slice (some ⟨g, 0, none⟩) L cap) Z W0 w) (hL : L = Z.length) (hk : k < L) (hz : KeyRow B w ((p, sz, C), kv))
    (h : ∀ w', Ents B (.slice (some ⟨g, 0, none⟩) L cap) (Z.set k ((p, sz, C), kv)) W0 w' → w.grownBy w' (some g) → wpList Tryd.prog ops Q rest a w') : wpList Tryd.prog ops Q (op :: rest) a w := by
  have hp := hb.put hL k hk _ hz
  have h1 : kv.oneCell' = true := key_one hz
  refine wpList_store_mid hgd 30 x y ho g (k * 3) #[.string p, .int .i64 sz, kv] hx hy (fun j hj => ?_) info30b ?_ ?_
  · have hj3 : j < 3 := hj
    subst hL
    refine ⟨?_, hb.1.frozenAt _⟩
    rw [hb.1.cellAt (k * 3 + j) (by omega), List.getElem?_eq_getElem (by rw [cellsOf_len]; omega)]
    rfl
  · refine all_oneCell_toArray (cs := [.string p, .int .i64 sz, kv]) fun v hv => ?_
    simp at hv
    rcases hv with rfl | rfl | rfl
    · rfl
    · rfl
    · exact h1
  · rw [hd]
    exact h _ hp.1 hp.2
end Go.Proofs.YtcjkficpiedpfaaDoor.Tree
