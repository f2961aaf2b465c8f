/-
  Rows of entries that a call owns: each entry's cells, its chunks in a row of their own; one more behind them; the row sorted.
-/
import Derived.Test.YtcjkficpiedpfabDoorTrCopy
import Derived.Test.YtcjkficpiedpfabDoorTrShelf
namespace Go.Proofs.YtcjkficpiedpfabDoor.Tree
open Go.RowKit Route Chunk

/-- A value of one cell, or else nil. -/
def fix (v : Value) : Value := if v.oneCell' = true then v else .nilIface
theorem fix_one (v : Value) : (fix v).oneCell' = true := by
  unfold fix
  split
  · assumption
  · rfl
/-- An entry and its chunks' slice, as cells. -/
def enc (z : (ByteArray × Int × List ByteArray) × Value) : List Value := [.string z.1.1, .int .i64 z.1.2.1, fix z.2]
def cellsOf (Z : List ((ByteArray × Int × List ByteArray) × Value)) : List Value := Z.flatMap enc
theorem cellsOf_len (Z : List ((ByteArray × Int × List ByteArray) × Value)) : (cellsOf Z).length = Z.length * 3 := by
  induction Z with
  | nil => rfl
  | cons z Z ih => simp only [cellsOf, List.flatMap_cons, List.length_append] at *; rw [ih]; simp [enc]; omega
theorem cellsOf_app (Y Z : List ((ByteArray × Int × List ByteArray) × Value)) : cellsOf (Y ++ Z) = cellsOf Y ++ cellsOf Z := by simp [cellsOf]

/-- The j-th of them. -/
def zOf (Z : List ((ByteArray × Int × List ByteArray) × Value)) (j : Nat) : (ByteArray × Int × List ByteArray) × Value := Z.getD j (noEnt, .nilIface)

theorem cellsOf_at : ∀ (Z : List ((ByteArray × Int × List ByteArray) × Value)) (j c : Nat), j < Z.length → c < 3 → (cellsOf Z)[j * 3 + c]? = (enc (zOf Z j))[c]?
  | [], j, c, hj, _ => by simp at hj
  | z :: Z, 0, c, _, hc => by
    have : (enc z).length = 3 := rfl
    simp only [cellsOf, List.flatMap_cons, Nat.zero_mul, Nat.zero_add]
    rw [List.getElem?_append_left (by omega)]
    rfl
  | z :: Z, j + 1, c, hj, hc => by
    have h3 : (enc z).length = 3 := rfl
    have ih := cellsOf_at Z j c (by simpa using hj) hc
    simp only [cellsOf, List.flatMap_cons] at *
    rw [List.getElem?_append_right (by omega), h3, show (j + 1) * 3 + c - 3 = j * 3 + c by omega, ih]
    simp [zOf]

/-- The row's cells, flat. -/
theorem cellsOf_flat (Z : List ((ByteArray × Int × List ByteArray) × Value)) : (Sort.flatK enc 3 Z.toArray).toList = cellsOf Z := by
  apply List.ext_getElem?
  intro t
  by_cases ht : t < Z.length * 3
  · have e : t = t / 3 * 3 + t % 3 := by omega
    have h1 := cellsOf_at Z (t / 3) (t % 3) (by omega) (by omega)
    rw [← e] at h1
    rw [h1, Array.getElem?_toList, Array.getElem?_eq_getElem (by simpa using ht)]
    have h2 := Sort.get_flatK enc 3 Z.toArray t (by simpa using ht)
    rw [getElem!_pos _ _ (by simpa using ht)] at h2
    rw [h2]
    have h4 : (Z.toArray[t / 3]!) = zOf Z (t / 3) := by
      rw [getElem!_pos _ _ (by simp; omega)]
      simp [zOf, List.getD_eq_getElem?_getD, show t / 3 < Z.length by omega]
    rw [h4]
    have h5 : t % 3 < (enc (zOf Z (t / 3))).length := by show t % 3 < 3; omega
    rw [List.getElem?_eq_getElem h5, List.getElem!_eq_getElem?_getD, List.getElem?_eq_getElem h5]
    rfl
  · rw [Array.getElem?_toList, Array.getElem?_eq_none (by simpa using ht), List.getElem?_eq_none (by rw [cellsOf_len]; omega)]

/-- Each one's chunks are in a row of the call's own. -/
def KeyRow (B : Nat) (w : World) (z : (ByteArray × Int × List ByteArray) × Value) : Prop := w.ownsRow B 9 1 z.2 z.1.2.2.length (sv z.1.2.2)

/-- In w the slice v owns the entries Z, in a block from B on; below B the world is as W0 was. -/
def Ents (B : Nat) (v : Value) (Z : List ((ByteArray × Int × List ByteArray) × Value)) (W0 w : World) : Prop :=
  w.ownsRow B 37 3 v Z.length (cellsOf Z) ∧ Below B W0 w ∧ B ≤ w.heap.size ∧ ∀ z ∈ Z, KeyRow B w z

theorem own30_later {w w' : World} {B : Nat} {e : TypeId} {s : Nat} {v : Value} {n : Nat} {xs : List Value} (h : w.ownsRow B e s v n xs) (hb : Below w.heap.size w w') : w'.ownsRow B e s v n xs :=
  ⟨h.1, h.2.imp id fun ⟨g, cap, cur, h1, h2, h3, h4⟩ => ⟨g, cap, cur, h1, h2, (hb.block g (Array.getElem?_eq_some_iff.1 h3).1).trans h3, h4⟩⟩

theorem own_any {w : World} {B B' : Nat} {e : TypeId} {s : Nat} {v : Value} {n : Nat} {xs : List Value} (h : w.ownsRow B e s v n xs) (hb : B' ≤ B) : w.ownsRow B' e s v n xs :=
  ⟨h.1, h.2.imp id fun ⟨g, cap, cur, h1, h2, h3⟩ => ⟨g, cap, cur, h1, Nat.le_trans hb h2, h3⟩⟩

theorem Ents.nil (w : World) : Ents w.heap.size (.slice none 0 0) [] w w := ⟨World.ownsRow_nil w _ 37 3, Below.refl _ _, Nat.le_refl _, fun z hz => by simp at hz⟩

theorem Ents.later {B : Nat} {v : Value} {Z : List ((ByteArray × Int × List ByteArray) × Value)} {W0 w w' : World} (h : Ents B v Z W0 w) (hb : Below w.heap.size w w') : Ents B v Z W0 w' :=
  ⟨own30_later h.1 hb, h.2.1.trans (hb.mono h.2.2.1), Nat.le_trans h.2.2.1 hb.size, fun z hz => own30_later (h.2.2.2 z hz) hb⟩

theorem Ents.alloc {B : Nat} {v : Value} {Z : List ((ByteArray × Int × List ByteArray) × Value)} {W0 w : World} (h : Ents B v Z W0 w) (o : Obj) : Ents B v Z W0 (w.alloc o) :=
  h.later ((Below.refl _ _).alloc (Nat.le_refl _) o)

/-- Rows of different kinds lie in different blocks. -/
theorem apart {w : World} {B B' : Nat} {v v' : Value} {n n' s s' : Nat} {xs xs' : List Value} (h : w.ownsRow B 37 s v n xs) (h' : w.ownsRow B' 9 s' v' n' xs') : v'.ownBlock = none ∨ v'.ownBlock ≠ v.ownBlock := by
  rcases h'.2 with ⟨rfl, _⟩ | ⟨g', cap', cur', rfl, _, e', _⟩
  · exact .inl rfl
  · right
    rcases h.2 with ⟨rfl, _⟩ | ⟨g, cap, cur, rfl, _, e, _⟩
    · simp [Value.ownBlock]
    · simp only [Value.ownBlock, ne_eq, Option.some.injEq]
      rintro rfl
      rw [e'] at e
      simp at e

theorem Ents.grown {B : Nat} {v v' : Value} {Z Z' : List ((ByteArray × Int × List ByteArray) × Value)} {W0 w w' : World} (h : Ents B v Z W0 w) (ho : w'.ownsRow B 37 3 v' Z'.length (cellsOf Z')) (hg : w.grownBy w' v.ownBlock) (hz : ∀ z ∈ Z', KeyRow B w z) : Ents B v' Z' W0 w' :=
  ⟨ho, h.2.1.grown hg h.2.2.1 (fun k hk => (h.1.lt k hk).1), Nat.le_trans h.2.2.1 hg.size, fun z hzz => (hz z hzz).kept hg (apart h.1 (hz z hzz))⟩

theorem info30 : (Tryd.prog.info? 37).map (fun i => (i.zero, i.size, i.bytes)) = some (some (.agg #[.string ByteArray.empty, .int .i64 0, .slice none 0 0]), 3, 48) := by kernel_rfl

theorem key_one {B : Nat} {w : World} {z : (ByteArray × Int × List ByteArray) × Value} (h : KeyRow B w z) : z.2.oneCell' = true := by
  rcases h.2 with ⟨e, _⟩ | ⟨_, _, _, e, _⟩ <;> rw [e] <;> rfl

theorem enc_key {B : Nat} {w : World} {z : (ByteArray × Int × List ByteArray) × Value} (h : KeyRow B w z) : enc z = [.string z.1.1, .int .i64 z.1.2.1, z.2] := by
  rw [enc, fix, if_pos (key_one h)]

/-- 'append(l, e)': the one entry lies in the block that the statement has just laid. -/
theorem wpList_ent {ops : Array Oper} {rest : List Oper} {o : Oper} {a : Act} {Q : Exit → Act → World → Prop} (hgd : o.guard = none) (s x : Operand)
    (ho : o.op = .call { callee := .builtin .append, args := #[s, x], argTypes := #[29, 29] })
    (B : Nat) (v : Value) (Z : List ((ByteArray × Int × List ByteArray) × Value)) (hs : a.eval s = v) (W0 w0 : World) (z : (ByteArray × Int × List ByteArray) × Value) (hb : Ents B v Z W0 w0) (hk : KeyRow B w0 z)
    (hx : a.eval x = .slice (some ⟨w0.heap.size, 0, none⟩) 1 1) (hlen : Z.length + 1 ≤ 1000000)
    (h : ∀ v' w', Ents B v' (Z ++ [z]) W0 w' → wpList Tryd.prog ops Q rest (a.put o.dst v') w') : wpList Tryd.prog ops Q (o :: rest) a (w0.alloc (.cells #[.string z.1.1, .int .i64 z.1.2.1, z.2] 37)) := by
  obtain ⟨i0, hi, hz0, hz1, hz2⟩ := info_parts info30
  have hb' := hb.alloc (.cells #[.string z.1.1, .int .i64 z.1.2.1, z.2] 37)
  have hk' : KeyRow B (w0.alloc (.cells #[.string z.1.1, .int .i64 z.1.2.1, z.2] 37)) z := own30_later hk ((Below.refl _ _).alloc (Nat.le_refl _) _)
  refine wpList_append_own _ hgd s x 29 ho B 37 i0 (.agg #[.string ByteArray.empty, .int .i64 0, .slice none 0 0]) 3 48 Tryd.underlying29 hi hz0 hz1 hz2 rfl (by decide) v Z.length (cellsOf Z) hs hb'.1 ⟨w0.heap.size, 0, none⟩ 1 1 [.string z.1.1, .int .i64 z.1.2.1, z.2] hx rfl ?_ ?_ (by unfold maxLen; omega) (by omega) hb'.2.2.1 ?_
  · intro j u hj
    match j, hj with
    | 0, hj => simp at hj; subst hj; simp [Addr.add]
    | 1, hj => simp at hj; subst hj; simp [Addr.add]
    | 2, hj => simp at hj; subst hj; simp [Addr.add]
    | (j + 3), hj => simp at hj
  · intro u hu
    simp at hu
    rcases hu with rfl | rfl | rfl
    · rfl
    · rfl
    · exact key_one hk
  · intro v' w' ho' hg _
    refine h v' w' (hb'.grown (Z' := Z ++ [z]) ?_ hg ?_)
    · rw [cellsOf_app, List.length_append]
      have e : cellsOf [z] = [.string z.1.1, .int .i64 z.1.2.1, z.2] := by simp [cellsOf, enc_key hk]
      rw [e]
      exact ho'
    · intro z' hz'
      rcases List.mem_append.1 hz' with hz' | hz'
      · exact hb'.2.2.2 z' hz'
      · rw [List.mem_singleton] at hz'; subst hz'; exact hk'
end Go.Proofs.YtcjkficpiedpfabDoor.Tree
