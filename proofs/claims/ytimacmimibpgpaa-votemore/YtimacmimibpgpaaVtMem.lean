/-
  Votes and numbers in memory: what lies there, rows that a call owns, sets of votes and counts of texts in maps.
-/
import Derived.Test.YtimacmimibpgpaaVtMath
import Derived.WalkKit
import Derived.WalkSpells
import Derived.WalkSmall
import Derived.WalkLawsBesides
import Derived.Laws.OwnMore
import Derived.Laws.AppendOwnNone
import Derived.Laws.IdiomStrings
import Derived.BigQuiet
import Derived.Deep.RegionHeld
import Derived.Maps.OwnSet
import Derived.DeepKeys4
import Derived.StringKeys
namespace Go.Proofs.Ytimacmimibpgpaa.Vote
open Go.RowKit Go.Maps Go.ChangeMaps

/-- A vote that may stand in memory. -/
def VOk (v : Vt) : Prop := (Lit.int .i64 v.1).wf = true ∧ v.2.size ≤ 281474976710656

/-- At the place p a vote lies. -/
def VtIn (w : World) (p : Addr) (v : Vt) : Prop := w.cell? p = some (.int .i64 v.1) ∧ w.cell? ⟨p.block, p.off + 1, none⟩ = some (.string v.2)
/-- At the address votes lie. -/
def LiesV (w : World) (a : Option Addr) (l : List Vt) : Prop := l = [] ∨ ∃ x, a = some x ∧ ∀ j, j < l.length → VtIn w (x.add (j * 2)) (vtAt l j)

theorem cell_below {B : Nat} {w w' : World} {x : Addr} {v : Value} (hb : Below B w w') (hB : w.heap.size ≤ B) (h : w.cell? x = some v) : w'.cell? x = some v := by
  rw [hb.cell (by have := World.block_lt_of_cell? w _ h; omega)]; exact h
theorem LiesV.below {w w' : World} {a : Option Addr} {l : List Vt} (h : LiesV w a l) (hb : Below w.heap.size w w') : LiesV w' a l := by
  rcases h with h | ⟨x, rfl, h⟩
  · exact .inl h
  · exact .inr ⟨x, rfl, fun j hj => ⟨cell_below hb (Nat.le_refl _) (h j hj).1, cell_below hb (Nat.le_refl _) (h j hj).2⟩⟩
theorem LiesV.at {w : World} {a : Option Addr} {l : List Vt} (h : LiesV w a l) {j : Nat} (hj : j < l.length) : ∃ x, a = some x ∧ VtIn w (x.add (j * 2)) (vtAt l j) := by
  rcases h with rfl | ⟨x, rfl, h⟩
  · simp at hj
  · exact ⟨x, rfl, h j hj⟩
theorem vt_mem {l : List Vt} {j : Nat} (hj : j < l.length) : vtAt l j ∈ l := by simp [vtAt, List.getD_eq_getElem?_getD, hj]

set_option maxRecDepth 100000 in
theorem index_vote (x : Addr) (n cap i : Nat) (hi : i < n) (w : World) : (Instr.indexAt 22 (.slice (some x) n cap) (.int .i64 (i : Int))).run Try.prog w = .ok (.pointer (some (x.add (i * 2)))) w := by
  rw [run_indexAt_slice w 22 x n cap .i64 i (by kernel_rfl), if_pos (by omega)]
  rfl
theorem load_vote (p : Addr) (c0 c1 : Value) (w : World) (h0 : w.cell? p = some c0) (h1 : w.cell? ⟨p.block, p.off + 1, none⟩ = some c1) :
    (Instr.loadAt 31 (.pointer (some p))).run Try.prog w = .ok (.agg #[c0, c1]) w := by
  have h := run_loadCells_list (P := Try.prog) w p [c0, c1] (by
    intro j v hj
    match j, hj with
    | 0, hj => simp at hj; subst hj; exact h0
    | 1, hj => simp at hj; subst hj; exact h1
    | (j + 2), hj => simp at hj)
  have h' : (loadCells p 2).run Try.prog w = .ok #[c0, c1] w := h
  simp [Instr.loadAt, Instr.sureAddr, loadVar, Result.andThen, h']

/-! Rows of numbers. -/
def iv (l : List Int) : List Value := l.map (Value.int .i64)
theorem iv_len (l : List Int) : (iv l).length = l.length := by simp [iv]
theorem iv_app (l r : List Int) : iv (l ++ r) = iv l ++ iv r := by simp [iv]
theorem iv_at (l : List Int) (j : Nat) (h : j < l.length) : (iv l)[j]? = some (.int .i64 (l.getD j 0)) := by
  simp [iv, List.getElem?_eq_getElem h, List.getD_eq_getElem?_getD]
theorem iv_one (l : List Int) : ∀ u ∈ iv l, u.oneCell' = true := by
  intro u hu
  simp only [iv, List.mem_map] at hu
  obtain ⟨b, _, rfl⟩ := hu
  rfl

/-- In w the slice v owns the numbers l, in a block from B on; below B the world is as W0 was. -/
def Ints (B : Nat) (v : Value) (l : List Int) (W0 w : World) : Prop := w.ownsRow B 3 1 v l.length (iv l) ∧ Below B W0 w ∧ B ≤ w.heap.size
/-- At the address the numbers l lie. -/
def LiesI (w : World) (a : Option Addr) (l : List Int) : Prop := l = [] ∨ ∃ x, a = some x ∧ ∀ j, j < l.length → w.cell? (x.add j) = some (.int .i64 (l.getD j 0))

theorem own_later {w w' : World} {B e s : Nat} {v : Value} {n : Nat} {xs : List Value} (h : w.ownsRow B e s v n xs) (hb : Below w.heap.size w w') : w'.ownsRow B e s v n xs :=
  ⟨h.1, h.2.imp id fun ⟨g, cap, cur, h1, h2, h3, h4⟩ => ⟨g, cap, cur, h1, h2, (hb.block g (Array.getElem?_eq_some_iff.1 h3).1).trans h3, h4⟩⟩
theorem Ints.nil (w : World) : Ints w.heap.size (.slice none 0 0) [] w w := ⟨World.ownsRow_nil w _ 3 1, Below.refl _ _, Nat.le_refl _⟩
theorem Ints.later {B : Nat} {v : Value} {l : List Int} {W0 w w' : World} (h : Ints B v l W0 w) (hb : Below w.heap.size w w') : Ints B v l W0 w' :=
  ⟨own_later h.1 hb, h.2.1.trans (hb.mono h.2.2), Nat.le_trans h.2.2 hb.size⟩
theorem Ints.alloc {B : Nat} {v : Value} {l : List Int} {W0 w : World} (h : Ints B v l W0 w) (o : Obj) : Ints B v l W0 (w.alloc o) := h.later ((Below.refl _ _).alloc (Nat.le_refl _) o)
theorem Ints.grown {B : Nat} {v v' : Value} {l l' : List Int} {W0 w w' : World} (h : Ints B v l W0 w) (ho : w'.ownsRow B 3 1 v' l'.length (iv l')) (hg : w.grownBy w' v.ownBlock) : Ints B v' l' W0 w' :=
  ⟨ho, h.2.1.grown hg h.2.2 (fun k hk => (h.1.lt k hk).1), Nat.le_trans h.2.2 hg.size⟩
theorem Ints.lies {B : Nat} {v : Value} {l : List Int} {W0 w : World} (h : Ints B v l W0 w) : ∃ a cap, v = .slice a l.length cap ∧ l.length ≤ cap ∧ LiesI w a l ∧ (a = none → cap = 0) := by
  rcases h.1.2 with ⟨rfl, hn⟩ | ⟨g, cap, cur, rfl, hb, hg, hnc, hcm, hcs, ht⟩
  · have : l = [] := List.eq_nil_of_length_eq_zero hn
    subst this
    exact ⟨none, 0, rfl, Nat.le_refl _, .inl rfl, fun _ => rfl⟩
  · refine ⟨_, cap, rfl, hnc, .inr ⟨_, rfl, fun j hj => ?_⟩, fun h => by cases h⟩
    have := h.1.cellAt j (by omega)
    rw [iv_at l j hj] at this
    by_cases h0 : j = 0
    · subst h0; simpa [Addr.add] using this
    · simpa [Addr.add, h0] using this
theorem Ints.liesN {B n : Nat} {v : Value} {l : List Int} {W0 w : World} (h : Ints B v l W0 w) (hn : n = l.length) : ∃ a cap, v = .slice a n cap ∧ n ≤ cap ∧ LiesI w a l ∧ (a = none → cap = 0) := by
  subst hn; exact h.lies
theorem LiesI.cellAt {w : World} {a : Option Addr} {l : List Int} (h : LiesI w a l) {j : Nat} (hj : j < l.length) : ∃ x, a = some x ∧ w.cell? (x.add j) = some (.int .i64 (l.getD j 0)) := by
  rcases h with rfl | ⟨x, rfl, h⟩
  · simp at hj
  · exact ⟨x, rfl, h j hj⟩
theorem LiesI.below {w w' : World} {a : Option Addr} {l : List Int} (h : LiesI w a l) (hb : Below w.heap.size w w') : LiesI w' a l := by
  rcases h with h | ⟨x, rfl, h⟩
  · exact .inl h
  · exact .inr ⟨x, rfl, fun j hj => cell_below hb (Nat.le_refl _) (h j hj)⟩

theorem info3 : (Try.prog.info? 3).map (fun i => (i.zero, i.size, i.bytes)) = some (some (.int .i64 0), 1, 8) := by kernel_rfl

/-- 'append(out, x)': the one number lies in the block that the statement has just laid. -/
theorem wpList_int {ops : Array Oper} {rest : List Oper} {o : Oper} {a : Act} {Q : Exit → Act → World → Prop} (hgd : o.guard = none) (s x : Operand)
    (ho : o.op = .call { callee := .builtin .append, args := #[s, x], argTypes := #[24, 24] })
    (B : Nat) (v : Value) (l : List Int) (hs : a.eval s = v) (W0 w0 : World) (d : Int) (hb : Ints B v l W0 w0) (b : Nat)
    (hx : a.eval x = .slice (some ⟨b, 0, none⟩) 1 1) (hb0 : b = w0.heap.size) (hlen : l.length + 1 ≤ 1000000000000)
    (h : ∀ v' w', Ints B v' (l ++ [d]) W0 w' → wpList Try.prog ops Q rest (a.put o.dst v') w') : wpList Try.prog ops Q (o :: rest) a (w0.alloc (.cells #[.int .i64 d] 3)) := by
  subst hb0
  obtain ⟨i0, hi, hz0, hz1, hz2⟩ := info_parts info3
  have hb' := hb.alloc (.cells #[.int .i64 d] 3)
  refine wpList_append_own _ hgd s x 24 ho B 3 i0 (.int .i64 0) 1 8 Try.underlying24 hi hz0 hz1 hz2 rfl (by decide) v l.length (iv l) hs hb'.1 ⟨w0.heap.size, 0, none⟩ 1 1 [.int .i64 d] hx rfl ?_ ?_ (by unfold maxLen; omega) (by omega) hb'.2.2 ?_
  · intro j u hj
    match j, hj with
    | 0, hj => simp at hj; subst hj; simp [Addr.add]
    | (j + 1), hj => simp at hj
  · intro u hu; simp at hu; subst hu; rfl
  · intro v' w' ho' hg _
    refine h v' w' (hb'.grown (l' := l ++ [d]) ?_ hg)
    have e : iv (l ++ [d]) = iv l ++ [.int .i64 d] := by simp [iv]
    rw [e]
    simpa using ho'

/-- 'append(out, l...)'. -/
theorem wpList_ints {ops : Array Oper} {rest : List Oper} {o : Oper} {a : Act} {Q : Exit → Act → World → Prop} {w : World} (hgd : o.guard = none) (sl x : Operand)
    (ho : o.op = .call { callee := .builtin .append, args := #[sl, x], argTypes := #[24, 24] })
    (B : Nat) (v : Value) (l : List Int) (hs : a.eval sl = v) (W0 : World) (hb : Ints B v l W0 w) (r : List Int) (ad : Option Addr) (k c : Nat) (hx : a.eval x = .slice ad k c) (hk : k = r.length) (hr : LiesI w ad r) (hnil : ad = none → c = 0) (hkc : k ≤ c) (hlen : l.length + k ≤ 1000000000000)
    (h : ∀ v' w', Ints B v' (l ++ r) W0 w' → wpList Try.prog ops Q rest (a.put o.dst v') w') : wpList Try.prog ops Q (o :: rest) a w := by
  subst hk
  cases ad with
  | none =>
    obtain ⟨i0, hi, _, _, _⟩ := info_parts info3
    have hc : c = 0 := hnil rfl
    have hr0 : r = [] := List.eq_nil_of_length_eq_zero (by omega)
    subst hr0; subst hc
    refine wpList_append_own_none hgd sl x 24 ho B 3 i0 1 Try.underlying24 hi v l.length (iv l) hs hb.1 hx ?_
    exact h v w (by rw [List.append_nil]; exact hb)
  | some ad =>
    obtain ⟨i0, hi, hz0, hz1, hz2⟩ := info_parts info3
    refine wpList_append_own w hgd sl x 24 ho B 3 i0 (.int .i64 0) 1 8 Try.underlying24 hi hz0 hz1 hz2 rfl (by decide) v l.length (iv l) hs hb.1 ad r.length c (iv r) hx (by simp [iv]) ?_ (iv_one r) (by unfold maxLen; omega) (by omega) hb.2.2 ?_
    · intro j u hj
      have hjl : j < r.length := by
        have := (List.getElem?_eq_some_iff.1 hj).1
        rwa [iv_len] at this
      obtain ⟨y, hy, hc⟩ := hr.cellAt hjl
      simp only [Option.some.injEq] at hy
      subst hy
      rw [hc, ← iv_at r j hjl, hj]
    · intro v' w' ho' hg _
      refine h v' w' (hb.grown (l' := l ++ r) ?_ hg)
      rw [iv_app, List.length_append]
      exact ho'

/-- The first numbers of a row; those from the k-th on. -/
theorem ints_to (a : Option Addr) (n cap k : Nat) (l : List Int) (w : World) (hn : n = l.length) (hl : LiesI w a l) (hk : k ≤ n) (hc : n ≤ cap) :
    (∀ W, (Instr.slice 24 (.slice a n cap) none (some (.int .i64 (k : Int))) none).run Try.prog W = .ok (.slice a k cap) W) ∧ LiesI w a (l.take k) := by
  refine ⟨fun W => ?_, ?_⟩
  · rw [run_slice_h W 24 a n cap (by kernel_rfl) .i64 (k : Int) (by omega) (by omega)]
    have e : (sizeOf (Try.prog.elem 24)).run Try.prog W = .ok 1 W := by kernel_rfl
    rw [e]
    cases a with
    | none => simp [sliced, Result.andThen]
    | some x => simp [sliced, Result.andThen]; intro _; simp [Addr.add]
  · rcases hl with rfl | ⟨x, rfl, h⟩
    · exact .inl (by simp)
    · refine .inr ⟨x, rfl, fun j hj => ?_⟩
      rw [List.length_take] at hj
      rw [h j (by omega)]
      simp [List.getD_eq_getElem?_getD, show j < k by omega]

theorem ints_from (a : Option Addr) (n cap k : Nat) (l : List Int) (w : World) (hn : n = l.length) (hl : LiesI w a l) (hk : k ≤ n) (hc : n ≤ cap) (hnil : a = none → cap = 0) :
    ∃ b, (∀ W, (Instr.slice 24 (.slice a n cap) (some (.int .i64 (k : Int))) none none).run Try.prog W = .ok (.slice b (n - k) (cap - k)) W) ∧ LiesI w b (l.drop k) ∧ (b = none → cap - k = 0) := by
  cases a with
  | none =>
    have hc0 := hnil rfl
    have hk0 : k = 0 := by omega
    have hn0 : n = 0 := by omega
    refine ⟨none, fun W => ?_, .inl (List.eq_nil_of_length_eq_zero (by rw [List.length_drop]; omega)), fun _ => by omega⟩
    rw [run_slice_l W 24 none n cap (by kernel_rfl) .i64 (k : Int) (by omega) (by omega)]
    have e : (sizeOf (Try.prog.elem 24)).run Try.prog W = .ok 1 W := by kernel_rfl
    rw [e]
    simp [sliced, Result.andThen]
  | some x =>
    by_cases hck : cap = k
    · refine ⟨some x, fun W => ?_, .inl (List.eq_nil_of_length_eq_zero (by rw [List.length_drop]; omega)), fun h => by cases h⟩
      rw [run_slice_l W 24 (some x) n cap (by kernel_rfl) .i64 (k : Int) (by omega) (by omega)]
      have e : (sizeOf (Try.prog.elem 24)).run Try.prog W = .ok 1 W := by kernel_rfl
      rw [e]
      simp [sliced, Result.andThen, hck]
    · refine ⟨some (x.add k), fun W => ?_, .inr ⟨_, rfl, fun j hj => ?_⟩, fun h => by cases h⟩
      · rw [run_slice_l W 24 (some x) n cap (by kernel_rfl) .i64 (k : Int) (by omega) (by omega)]
        have e : (sizeOf (Try.prog.elem 24)).run Try.prog W = .ok 1 W := by kernel_rfl
        rw [e]
        simp [sliced, Result.andThen, hck]
      · rw [List.length_drop] at hj
        obtain ⟨y, hy, hc⟩ := hl.cellAt (j := k + j) (by omega)
        simp only [Option.some.injEq] at hy
        subst hy
        have ea : (x.add k).add j = x.add (k + j) := by
          by_cases h1 : k = 0
          · subst h1; simp [Addr.add]
          · by_cases h2 : j = 0
            · subst h2; simp [Addr.add]
            · unfold Addr.add
              rw [if_neg h1, if_neg h2, if_neg (show ¬ k + j = 0 by omega)]
              simp [Nat.add_assoc]
        rw [ea, hc]
        simp [List.getD_eq_getElem?_getD]

/-! Rows of votes. -/
def vcells (F : List Vt) : List Value := F.flatMap fun f => [.int .i64 f.1, .string f.2]
theorem vcells_len (F : List Vt) : (vcells F).length = F.length * 2 := by
  induction F with
  | nil => rfl
  | cons z F ih => simp only [vcells, List.flatMap_cons, List.length_append] at *; rw [ih]; simp; omega
theorem vcells_app (F G : List Vt) : vcells (F ++ G) = vcells F ++ vcells G := by simp [vcells]
theorem vcells_at : ∀ (F : List Vt) (j : Nat), j < F.length → (vcells F)[j * 2]? = some (.int .i64 (vtAt F j).1) ∧ (vcells F)[j * 2 + 1]? = some (.string (vtAt F j).2)
  | [], j, hj => by simp at hj
  | f :: F, 0, _ => by simp [vcells, vtAt]
  | f :: F, j + 1, hj => by
    have ih := vcells_at F j (by simpa using hj)
    have e1 : vcells (f :: F) = .int .i64 f.1 :: .string f.2 :: vcells F := by simp [vcells]
    rw [e1, show (j + 1) * 2 = j * 2 + 1 + 1 by omega]
    simpa [vtAt] using ih
theorem vcells_one (F : List Vt) : ∀ u ∈ vcells F, u.oneCell' = true := by
  intro u hu
  simp only [vcells, List.mem_flatMap] at hu
  obtain ⟨f, _, h⟩ := hu
  simp at h
  rcases h with rfl | rfl <;> rfl

/-- In w the slice v owns the votes F, in a block from B on; below B the world is as W0 was. -/
def VRow (B : Nat) (v : Value) (F : List Vt) (W0 w : World) : Prop := w.ownsRow B 31 2 v F.length (vcells F) ∧ Below B W0 w ∧ B ≤ w.heap.size
theorem VRow.nil (w : World) : VRow w.heap.size (.slice none 0 0) [] w w := ⟨World.ownsRow_nil w _ 31 2, Below.refl _ _, Nat.le_refl _⟩
theorem VRow.fresh (w : World) : VRow w.heap.size (.slice (some ⟨w.heap.size, 0, none⟩) 0 0) [] w (w.alloc (.cells #[] 31)) :=
  ⟨World.ownsRow_lit w #[] 0 (Nat.le_refl _) (Nat.zero_le _) rfl, (Below.refl _ _).alloc (Nat.le_refl _) _, Nat.le_of_lt (by simp)⟩
theorem VRow.later {B : Nat} {v : Value} {F : List Vt} {W0 w w' : World} (h : VRow B v F W0 w) (hb : Below w.heap.size w w') : VRow B v F W0 w' :=
  ⟨own_later h.1 hb, h.2.1.trans (hb.mono h.2.2), Nat.le_trans h.2.2 hb.size⟩
theorem VRow.alloc {B : Nat} {v : Value} {F : List Vt} {W0 w : World} (h : VRow B v F W0 w) (o : Obj) : VRow B v F W0 (w.alloc o) := h.later ((Below.refl _ _).alloc (Nat.le_refl _) o)
theorem VRow.grown {B : Nat} {v v' : Value} {F F' : List Vt} {W0 w w' : World} (h : VRow B v F W0 w) (ho : w'.ownsRow B 31 2 v' F'.length (vcells F')) (hg : w.grownBy w' v.ownBlock) : VRow B v' F' W0 w' :=
  ⟨ho, h.2.1.grown hg h.2.2 (fun k hk => (h.1.lt k hk).1), Nat.le_trans h.2.2 hg.size⟩
theorem VRow.lies {B : Nat} {v : Value} {F : List Vt} {W0 w : World} (h : VRow B v F W0 w) : ∃ a cap, v = .slice a F.length cap ∧ F.length ≤ cap ∧ LiesV w a F := by
  rcases h.1.2 with ⟨rfl, hn⟩ | ⟨g, cap, cur, rfl, hb, hg, hnc, hcm, hcs, ht⟩
  · have : F = [] := List.eq_nil_of_length_eq_zero hn
    subst this
    exact ⟨none, 0, rfl, Nat.le_refl _, .inl rfl⟩
  · refine ⟨_, cap, rfl, hnc, .inr ⟨_, rfl, fun j hj => ?_⟩⟩
    obtain ⟨h0, h1⟩ := vcells_at F j hj
    rw [Go.WideShapes.add_plain, Nat.zero_add]
    exact ⟨by rw [h.1.cellAt (j * 2) (by omega), h0], by rw [h.1.cellAt (j * 2 + 1) (by omega), h1]⟩
theorem VRow.liesN {B n : Nat} {v : Value} {F : List Vt} {W0 w : World} (h : VRow B v F W0 w) (hn : n = F.length) : ∃ a cap, v = .slice a n cap ∧ n ≤ cap ∧ LiesV w a F := by
  subst hn; exact h.lies

theorem info31 : (Try.prog.info? 31).map (fun i => (i.zero, i.size, i.bytes)) = some (some (.agg #[.int .i64 0, .string ByteArray.empty]), 2, 24) := by kernel_rfl

theorem vnews {w : World} {ad : Addr} {G : List Vt} (hg : LiesV w (some ad) G) : ∀ j u, (vcells G)[j]? = some u → w.cell? (ad.add j) = some u := by
  intro j u hj
  have hjl : j < G.length * 2 := by
    have := (List.getElem?_eq_some_iff.1 hj).1
    rwa [vcells_len] at this
  obtain ⟨i, hi⟩ : ∃ i, j = i * 2 ∨ j = i * 2 + 1 := ⟨j / 2, by omega⟩
  obtain ⟨y, hy, c0, c1⟩ := hg.at (j := i) (by omega)
  simp only [Option.some.injEq] at hy
  subst hy
  obtain ⟨f0, f1⟩ := vcells_at G i (by omega)
  rcases hi with rfl | rfl
  · exact c0.trans (f0.symm.trans hj)
  · have ea : ad.add (i * 2 + 1) = ⟨(ad.add (i * 2)).block, (ad.add (i * 2)).off + 1, none⟩ := by
      by_cases h0 : i * 2 = 0
      · rw [h0]; rfl
      · unfold Addr.add
        rw [if_neg h0, if_neg (show ¬ i * 2 + 1 = 0 by omega)]
        simp [Nat.add_assoc]
    rw [ea]
    exact c1.trans (f1.symm.trans hj)

/-- A row of votes behind a row, at the operation, also where the statement's order is drawn. -/
theorem wp_votes {o : Oper} {a : Act} {K : Act → World → Prop} {Q : Exit → Act → World → Prop} (s x : Operand)
    (ho : o.op = .call { callee := .builtin .append, args := #[s, x], argTypes := #[22, 22] })
    (B : Nat) (v : Value) (F : List Vt) (hs : a.eval s = v) (W0 w0 : World) (hb : VRow B v F W0 w0) (G : List Vt) (ad : Option Addr) (k c : Nat)
    (hx : a.eval x = .slice ad k c) (hk : k = G.length) (hg : LiesV w0 ad G) (hnil : ad = none → c = 0 ∧ k = 0) (hlen : F.length + k ≤ 1000000)
    (h : ∀ v' w', VRow B v' (F ++ G) W0 w' → Hid (∀ k, k < w0.heap.size → some k ≠ v.ownBlock → w'.heap[k]? = w0.heap[k]?) → K (a.put o.dst v') w') : o.wp Try.prog a w0 K Q := by
  subst hk
  cases ad with
  | none =>
    obtain ⟨rfl, h0⟩ := hnil rfl
    have hG : G = [] := List.eq_nil_of_length_eq_zero h0
    subst hG
    obtain ⟨i0, hi, _, _, _⟩ := info_parts info31
    have hrun := run_append_owned_none (P := Try.prog) (w := w0) B 22 o.type 31 i0 2 Try.underlying22 hi v F.length (vcells F) hb.1
    have hK := h v w0 (by rw [List.append_nil]; exact hb) fun _ _ _ => rfl
    unfold Oper.wp
    simp only [List.length_nil] at hx
    simp [execOp, ho, resolve, invoke, builtin, hs, hx, hrun, Result.andThen]
    exact hK
  | some ad =>
    obtain ⟨i0, hi, hz0, hz1, hz2⟩ := info_parts info31
    refine wp_append_own _ s x 22 ho B 31 i0 (.agg #[.int .i64 0, .string ByteArray.empty]) 2 24 Try.underlying22 hi hz0 hz1 hz2 rfl (by decide) v F.length (vcells F) hs hb.1 ad G.length c (vcells G) hx (by rw [vcells_len]) (vnews hg) (vcells_one G) (by unfold maxLen; omega) (by omega) hb.2.2 ?_
    intro v' w' ho' hgr _
    refine h v' w' (hb.grown (F' := F ++ G) ?_ hgr) fun k hk hne => hgr.block k hk hne
    rw [vcells_app, List.length_append]
    exact ho'

theorem step_votes {ops : Array Oper} {o : Oper} {a : Act} {K : Act → World → Prop} {Q : Exit → Act → World → Prop} {E : Prop} (hgd : o.guard = none) (s x : Operand)
    (ho : o.op = .call { callee := .builtin .append, args := #[s, x], argTypes := #[22, 22] })
    (B : Nat) (v : Value) (F : List Vt) (hs : a.eval s = v) (W0 w0 : World) (hb : VRow B v F W0 w0) (G : List Vt) (ad : Option Addr) (k c : Nat)
    (hx : a.eval x = .slice ad k c) (hk : k = G.length) (hg : LiesV w0 ad G) (hnil : ad = none → c = 0 ∧ k = 0) (hlen : F.length + k ≤ 1000000)
    (h : ∀ v' w', VRow B v' (F ++ G) W0 w' → Hid (∀ k, k < w0.heap.size → some k ≠ v.ownBlock → w'.heap[k]? = w0.heap[k]?) → K (a.put o.dst v') w') : if Region.wanted o (yielded ops a.tmps) = true then o.wp Try.prog a w0 K Q else E := by
  have hw : Region.wanted o (yielded ops a.tmps) = true := by simp [Region.wanted, hgd]
  rw [if_pos hw]
  exact wp_votes s x ho B v F hs W0 w0 hb G ad k c hx hk hg hnil hlen h

theorem wpList_votes {ops : Array Oper} {rest : List Oper} {o : Oper} {a : Act} {Q : Exit → Act → World → Prop} (hgd : o.guard = none) (s x : Operand)
    (ho : o.op = .call { callee := .builtin .append, args := #[s, x], argTypes := #[22, 22] })
    (B : Nat) (v : Value) (F : List Vt) (hs : a.eval s = v) (W0 w0 : World) (hb : VRow B v F W0 w0) (G : List Vt) (ad : Option Addr) (k c : Nat)
    (hx : a.eval x = .slice ad k c) (hk : k = G.length) (hg : LiesV w0 ad G) (hnil : ad = none → c = 0 ∧ k = 0) (hlen : F.length + k ≤ 1000000)
    (h : ∀ v' w', VRow B v' (F ++ G) W0 w' → wpList Try.prog ops Q rest (a.put o.dst v') w') : wpList Try.prog ops Q (o :: rest) a w0 := by
  refine wpList_plain hgd fun K hK => ?_
  exact wp_votes s x ho B v F hs W0 w0 hb G ad k c hx hk hg hnil hlen fun v' w' h1 _ => hK _ _ (h v' w' h1)

/-! Maps. -/
theorem laidOut : laidOutB Try.prog = true := by kernel_rfl
theorem wide31 : (match Try.prog.underlying 31 with | some (.array _ _) | some (.struct _) => true | _ => false) = true := by rw [Try.underlying31]
theorem keyed31 : Keyed Try.prog 31 := Keyed.of_law (deep_law_laid laidOut (m := 2) (by omega) (of_decide_eq_true (by kernel_rfl)) (by kernel_rfl) wide31)
theorem keyed9 : Keyed Try.prog 9 := string_keyed Try.underlying9
theorem zero42 (w : World) : (zeroValue 42).run Try.prog w = .ok (.agg #[]) w := by kernel_rfl
theorem zero3 (w : World) : (zeroValue 3).run Try.prog w = .ok (.int .i64 0) w := by kernel_rfl

/-- A vote, and a text, as a map's key. -/
def vV (v : Vt) : Value := .agg #[.int .i64 v.1, .string v.2]
def keyV (v : Vt) : Lit := .string (keyBytes [.int .i64 v.1, .string v.2.data.toList])
def keyL (s : ByteArray) : Lit := .string s.data.toList
theorem keyL_eq {s t : ByteArray} : keyL s = keyL t ↔ s = t := by
  constructor
  · intro h
    simp only [keyL, Lit.string.injEq] at h
    exact ByteArray.ext (Array.ext' h)
  · rintro rfl; rfl
theorem keyL_ok {s : ByteArray} (h : s.size ≤ maxLen) : keyOf Try.prog 9 (.string s) = some (keyL s) := WideMaps.keyOf_string_mk Try.underlying9 h
theorem keyType31 : Try.prog.keyType 31 = true := by kernel_rfl
theorem cells31 : Try.prog.cellsOf 31 = 2 := by kernel_rfl
theorem cells3 : Try.prog.cellsOf 3 = 1 := by kernel_rfl
theorem cells9 : Try.prog.cellsOf 9 = 1 := by kernel_rfl
theorem formedV (v : Vt) : (vV v).formed Try.prog 31 = true := by simp [vV, Value.formed, Try.underlying31, cells31]
theorem lits_v {v : Vt} (h : VOk v) (d : Nat) : Try.prog.keyLits (d + 1 + 1) 31 [.int .i64 v.1, .string v.2] = some [.int .i64 v.1, .string v.2.data.toList] := by
  have h0 : Try.prog.keyLits (d + 1) 3 [.int .i64 v.1] = some [.int .i64 v.1] := by unfold Program.keyLits; simp [Try.underlying3, h.1]
  have h1 : Try.prog.keyLits (d + 1) 9 [.string v.2] = some [.string v.2.data.toList] := by unfold Program.keyLits; simp [Try.underlying9, show v.2.size ≤ maxLen by have := h.2; unfold maxLen; omega]
  unfold Program.keyLits
  rw [Try.underlying31]
  simp [cells31, cells3, cells9, h0, h1]
theorem keyV_ok {v : Vt} (h : VOk v) : keyOf Try.prog 31 (vV v) = some (keyV v) := by
  obtain ⟨d, hd⟩ : ∃ d, Try.prog.types.size + 1 = d + 1 + 1 := ⟨Try.prog.types.size - 1, by have : 0 < Try.prog.types.size := of_decide_eq_true (by kernel_rfl); omega⟩
  have h1 : Try.prog.keyLits (Try.prog.types.size + 1) 31 [.int .i64 v.1, .string v.2] = some [.int .i64 v.1, .string v.2.data.toList] := by
    rw [hd]; exact lits_v h d
  unfold keyOf
  rw [Try.underlying31]
  simp only [keyType31, formedV, Bool.and_self, if_true]
  show (Try.prog.keyLits (Try.prog.types.size + 1) 31 [.int .i64 v.1, .string v.2]).map _ = _
  rw [h1]
  rfl
theorem keyV_inj {u v : Vt} (hu : VOk u) (hv : VOk v) (h : keyV u = keyV v) : u = v := by
  have := keyed31.inj (keyV_ok hu) (h ▸ keyV_ok hv)
  simp only [vV, Value.agg.injEq, Array.mk.injEq, List.cons.injEq, Value.int.injEq, Value.string.injEq, and_true, true_and] at this
  exact Prod.ext this.1 this.2

/-- In block m a set of votes lies: n of them at most. -/
def VSet (w : World) (m n : Nat) (S : List Vt) : Prop := ∃ D : DataW Unit, w.ownsMap Try.prog 31 unitElem m n D ∧ IsMap D ∧ ∀ v, VOk v → (has D (keyV v) = true ↔ v ∈ S)
/-- In block m counts of texts lie. -/
def VCnt (w : World) (m n : Nat) (f : ByteArray → Nat) : Prop := ∃ D : DataW Unit, w.ownsMap Try.prog 9 (plainElem Try.prog 3) m n D ∧ IsMap D ∧ ∀ t, D.atKey (keyL t) (.lit (.int .i64 0)) = .lit (.int .i64 (f t : Int))
theorem VSet.keep {w w' : World} {m n : Nat} {S : List Vt} (h : VSet w m n S) (hb : w'.heap[m]? = w.heap[m]?) : VSet w' m n S := by
  obtain ⟨D, ⟨es, clock, h1, h2⟩, h3⟩ := h
  exact ⟨D, ⟨es, clock, hb.trans h1, h2⟩, h3⟩
theorem VCnt.keep {w w' : World} {m n : Nat} {f : ByteArray → Nat} (h : VCnt w m n f) (hb : w'.heap[m]? = w.heap[m]?) : VCnt w' m n f := by
  obtain ⟨D, ⟨es, clock, h1, h2⟩, h3⟩ := h
  exact ⟨D, ⟨es, clock, hb.trans h1, h2⟩, h3⟩
theorem VSet.lt {w : World} {m n : Nat} {S : List Vt} (h : VSet w m n S) : m < w.heap.size := by
  obtain ⟨D, h, _⟩ := h; exact h.lt
theorem VCnt.lt {w : World} {m n : Nat} {f : ByteArray → Nat} (h : VCnt w m n f) : m < w.heap.size := by
  obtain ⟨D, h, _⟩ := h; exact h.lt
theorem VSet.made (w : World) : VSet (w.alloc (.map #[] 0)) w.heap.size 0 [] :=
  ⟨.map [], World.ownsMap_made _ _ _ _, isMap_empty, fun s _ => by simp [Maps.has]⟩
theorem VCnt.made (w : World) : VCnt (w.alloc (.map #[] 0)) w.heap.size 0 (fun _ => 0) :=
  ⟨.map [], World.ownsMap_made _ _ _ _, isMap_empty, fun s => by rfl⟩

theorem str_eq (a b : ByteArray) : (a.toList == b.toList) = decide (a = b) := by
  by_cases h : a = b
  · subst h; simp
  · have h2 : ¬ a.toList = b.toList := fun e => h (by
      rw [ByteArray.toList_eq, ByteArray.toList_eq] at e
      apply ByteArray.ext
      exact Array.ext' e)
    simp [h, h2]
end Go.Proofs.Ytimacmimibpgpaa.Vote
