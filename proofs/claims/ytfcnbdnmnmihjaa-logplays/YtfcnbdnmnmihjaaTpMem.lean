/-
  A tape in memory: its box of two cells, the row of bytes that it owns, and what a call may turn.
-/
import Derived.Test.YtfcnbdnmnmihjaaGet2
import Derived.WalkKit
import Derived.WalkSpells
import Derived.WalkLawsBesides
import Derived.Lib.AppendStr
import Derived.Laws.CopyOwn
import Derived.Laws.IdiomStrings
import Derived.Laws.OwnMore
import Derived.Maps.AppendAt
import Derived.Laws.AppendOwnNone
namespace Go.Proofs.Ytfcnbdnmnmihjaa
open Go.RowKit

theorem bv_take (l : List UInt8) (n : Nat) : bv (l.take n) = (bv l).take n := by simp [bv, List.map_take]

theorem conv_named {w : World} {a : Option Addr} {l : List UInt8} {k cap : Nat} {O : ByteArray} (h : Lies w a l) (hk : k = l.length) (hO : O = ⟨l.toArray⟩) :
    (convert 31 9 (.slice a k cap)).run Try.prog w = .ok (.string O) w := by
  subst hk; subst hO; exact conv_lies h

/-- The value v owns the bytes l, in a block from B on. -/
def Row (B : Nat) (w : World) (v : Value) (l : List UInt8) : Prop := w.ownsRow B 5 1 v l.length (bv l)

theorem Row.nil (B : Nat) (w : World) : Row B w (.slice none 0 0) [] := World.ownsRow_nil w B 5 1
theorem Row.made (B : Nat) (w : World) (h : B ≤ w.heap.size) : Row B (w.alloc (.cells #[] 5)) (.slice (some ⟨w.heap.size, 0, none⟩) 0 0) [] := World.ownsRow_made w #[] 0 h (Nat.zero_le _) rfl

/-- What is owned: the slice's own words. -/
theorem Row.form {B : Nat} {w : World} {v : Value} {l : List UInt8} (h : Row B w v l) :
    ∃ a k cap, v = .slice a k cap ∧ Hid (k = l.length) ∧ k ≤ cap ∧ cap ≤ maxLen ∧ Lies w a l ∧ (a = none → k = 0 ∧ cap = 0) ∧ (∀ x, a = some x → ∃ g, x = ⟨g, 0, none⟩ ∧ B ≤ g ∧ g < w.heap.size) := by
  rcases h.2 with ⟨rfl, hn⟩ | ⟨g, cap, cur, rfl, hb, hg, hnc, hcm, hcs, ht⟩
  · have : l = [] := List.eq_nil_of_length_eq_zero hn
    subst this
    exact ⟨none, 0, 0, rfl, rfl, Nat.le_refl _, Nat.zero_le _, Or.inl rfl, fun _ => ⟨rfl, rfl⟩, fun x hx => by cases hx⟩
  · refine ⟨some ⟨g, 0, none⟩, _, cap, rfl, rfl, hnc, hcm, Or.inr ⟨_, rfl, World.ownsRow.cells h rfl⟩, fun h => (by cases h), fun x hx => ?_⟩
    simp only [Option.some.injEq] at hx
    subst hx
    exact ⟨g, rfl, hb, (Array.getElem?_eq_some_iff.1 hg).1⟩

theorem Row.take {B : Nat} {w : World} {a : Option Addr} {k cap n : Nat} {l : List UInt8} (h : Row B w (.slice a k cap) l) (hn : n ≤ l.length) : Row B w (.slice a n cap) (l.take n) := by
  have hlen : (l.take n).length = n := by rw [List.length_take]; omega
  refine ⟨by rw [bv_len, Nat.mul_one], ?_⟩
  rw [hlen]
  rcases h.2 with ⟨hv, h0⟩ | ⟨g, cap', cur, hv, hb, hg, hnc, hcm, hcs, ht⟩
  · simp only [Value.slice.injEq] at hv
    obtain ⟨rfl, rfl, rfl⟩ := hv
    have : n = 0 := by omega
    subst this
    exact .inl ⟨rfl, rfl⟩
  · simp only [Value.slice.injEq] at hv
    obtain ⟨rfl, rfl, rfl⟩ := hv
    refine .inr ⟨g, cap, cur, rfl, hb, hg, by omega, hcm, hcs, ?_⟩
    rw [bv_take, ← ht, List.take_take]
    congr 1
    omega

theorem Row.mono {B B' : Nat} {w : World} {v : Value} {l : List UInt8} (h : Row B w v l) (hB : B' ≤ B) : Row B' w v l :=
  ⟨h.1, h.2.imp id fun ⟨g, cap, cur, h1, h2, h3⟩ => ⟨g, cap, cur, h1, Nat.le_trans hB h2, h3⟩⟩

theorem Row.keep {B : Nat} {w w' : World} {v : Value} {l : List UInt8} (h : Row B w v l) (hk : ∀ g, v.ownBlock = some g → w'.heap[g]? = w.heap[g]?) : Row B w' v l := by
  refine ⟨h.1, ?_⟩
  rcases h.2 with h0 | ⟨g, cap, cur, rfl, hb, hg, hr⟩
  · exact .inl h0
  · exact .inr ⟨g, cap, cur, rfl, hb, by rw [hk g rfl]; exact hg, hr⟩

theorem Row.lt {B : Nat} {w : World} {v : Value} {l : List UInt8} (h : Row B w v l) : ∀ g, v.ownBlock = some g → B ≤ g ∧ g < w.heap.size := World.ownsRow.lt h

theorem Row.below {B C : Nat} {w w' : World} {v : Value} {l : List UInt8} (h : Row B w v l) (hb : Below C w w') (hC : w.heap.size ≤ C) : Row B w' v l :=
  h.keep fun g hg => hb.block g (by have := (h.lt g hg).2; omega)

/-- The tape in block tp has the bytes l, sy of them synced; its bytes lie in block r. -/
def TapeAt (B : Nat) (w : World) (tp : Nat) (l : List UInt8) (sy : Nat) (r : Option Nat) : Prop :=
  ∃ v, w.heap[tp]? = some (.cells #[v, .int .i64 (sy : Int)] 52 (0, 0)) ∧ B ≤ tp ∧ Row B w v l ∧ v.ownBlock = r ∧ r ≠ some tp ∧ sy ≤ l.length ∧ l.length ≤ 1048576

/-- What a call may turn: the tape's box and its row; the row behind it is the old one, or a new one. -/
structure Turns (tp : Nat) (r r' : Option Nat) (w w' : World) : Prop where
  os : w'.os = w.os
  tape : w'.tape = w.tape
  output : w'.output = w.output
  size : w.heap.size ≤ w'.heap.size
  block : ∀ k, k < w.heap.size → k ≠ tp → some k ≠ r → w'.heap[k]? = w.heap[k]?
  row : r' = r ∨ ∃ k, r' = some k ∧ w.heap.size ≤ k

theorem Turns.refl (tp : Nat) (r : Option Nat) (w : World) : Turns tp r r w w := ⟨rfl, rfl, rfl, Nat.le_refl _, fun _ _ _ _ => rfl, .inl rfl⟩

theorem Turns.trans {tp : Nat} {r r1 r2 : Option Nat} {w w1 w2 : World} (h : Turns tp r r1 w w1) (k : Turns tp r1 r2 w1 w2) : Turns tp r r2 w w2 := by
  refine ⟨k.os.trans h.os, k.tape.trans h.tape, k.output.trans h.output, Nat.le_trans h.size k.size, fun i hi ht hr => ?_, ?_⟩
  · refine (k.block i (Nat.lt_of_lt_of_le hi h.size) ht ?_).trans (h.block i hi ht hr)
    rcases h.row with e | ⟨j, e, hj⟩
    · rw [e]; exact hr
    · rw [e]; intro e2; simp only [Option.some.injEq] at e2; omega
  · rcases k.row with e | ⟨j, e, hj⟩
    · rw [e]; exact h.row
    · exact .inr ⟨j, e, Nat.le_trans h.size hj⟩

theorem Turns.below {B C tp : Nat} {r r' : Option Nat} {w w' : World} {l : List UInt8} {sy : Nat} (h : Turns tp r r' w w') (ht : TapeAt B w tp l sy r) (hC : C ≤ B) (hB : B ≤ w.heap.size) : Below C w w' := by
  obtain ⟨v, _, htp, hr, hv, _⟩ := ht
  refine ⟨h.os, h.tape, h.output, h.size, fun k hk => h.block k (by omega) (by omega) ?_⟩
  intro e
  have := (hr.lt k (by rw [hv]; exact e.symm)).1
  omega

/-- The tape's cells, as a walk reads them. -/
theorem TapeAt.open {B : Nat} {w : World} {tp : Nat} {l : List UInt8} {sy : Nat} {r : Option Nat} (h : TapeAt B w tp l sy r) :
    ∃ a k cap, w.cell? ⟨tp, 0, none⟩ = some (.slice a k cap) ∧ w.cell? ⟨tp, 1, none⟩ = some (.int .i64 (sy : Int)) ∧ w.frozen? ⟨tp, 0, none⟩ = false ∧ w.frozen? ⟨tp, 1, none⟩ = false ∧
      Hid (k = l.length) ∧ k ≤ cap ∧ cap ≤ maxLen ∧ Lies w a l ∧ (a = none → k = 0 ∧ cap = 0) ∧ Row B w (.slice a k cap) l ∧ (Value.slice a k cap).ownBlock = r ∧ w.heap[tp]? = some (.cells #[.slice a k cap, .int .i64 (sy : Int)] 52 (0, 0)) ∧ tp < w.heap.size ∧ sy ≤ k ∧ k ≤ 1048576 := by
  obtain ⟨v, hh, htp, hr, hv, hne, hs, hl⟩ := h
  obtain ⟨a, k, cap, rfl, hk, hkc, hcm, hlies, hnil, _⟩ := hr.form
  refine ⟨a, k, cap, ?_, ?_, frozen_of_row w tp 0 _ 52 hh, frozen_of_row w tp 1 _ 52 hh, hk, hkc, hcm, hlies, hnil, hr, hv, hh, (Array.getElem?_eq_some_iff.1 hh).1, by rw [hk.out]; exact hs, by rw [hk.out]; exact hl⟩
  · rw [cell_of_row w tp 0 _ 52 (0, 0) hh]; rfl
  · rw [cell_of_row w tp 1 _ 52 (0, 0) hh]; rfl

theorem TapeAt.below {B C : Nat} {w w' : World} {tp : Nat} {l : List UInt8} {sy : Nat} {r : Option Nat} (h : TapeAt B w tp l sy r) (hb : Below C w w') (hC : w.heap.size ≤ C) : TapeAt B w' tp l sy r := by
  obtain ⟨v, hh, htp, hr, hv, hne, hs⟩ := h
  have hlt : tp < w.heap.size := (Array.getElem?_eq_some_iff.1 hh).1
  exact ⟨v, by rw [hb.block tp (by omega)]; exact hh, htp, hr.below hb hC, hv, hne, hs⟩

/-- Where something else turned, the tape is as it was. -/
theorem TapeAt.far {B : Nat} {w w' : World} {tp : Nat} {l : List UInt8} {sy : Nat} {r : Option Nat} (h : TapeAt B w tp l sy r) (hk : w'.heap[tp]? = w.heap[tp]?) (hr : ∀ g, r = some g → w'.heap[g]? = w.heap[g]?) : TapeAt B w' tp l sy r := by
  obtain ⟨v, hh, htp, ho, hv, hne, hs⟩ := h
  exact ⟨v, by rw [hk]; exact hh, htp, ho.keep fun g hg => hr g (by rw [← hv]; exact hg), hv, hne, hs⟩

/-- A row beside the tape. -/
def Apart (v : Value) (tp : Nat) (r : Option Nat) : Prop := ∀ k, v.ownBlock = some k → k ≠ tp ∧ some k ≠ r

theorem Turns.row_kept {B tp : Nat} {r r' : Option Nat} {w w' : World} {v : Value} {l : List UInt8} (h : Turns tp r r' w w') (ho : Row B w v l) (ha : Apart v tp r) : Row B w' v l ∧ Apart v tp r' := by
  refine ⟨ho.keep fun g hg => h.block g (ho.lt g hg).2 (ha g hg).1 (ha g hg).2, fun k hk => ⟨(ha k hk).1, ?_⟩⟩
  rcases h.row with e | ⟨j, e, hj⟩
  · rw [e]; exact (ha k hk).2
  · rw [e]; intro e2; simp only [Option.some.injEq] at e2; have := (ho.lt k hk).2; omega

/-- keep's two stores. -/
theorem TapeAt.cut {B : Nat} {w : World} {tp : Nat} {l : List UInt8} {sy n : Nat} {r : Option Nat} {a : Option Addr} {k cap : Nat} (h : TapeAt B w tp l sy r) (hh : w.heap[tp]? = some (.cells #[.slice a k cap, .int .i64 (sy : Int)] 52 (0, 0))) (hn : n ≤ l.length) :
    TapeAt B ((w.setCell ⟨tp, 0, none⟩ (.slice a n cap)).setCell ⟨tp, 1, none⟩ (.int .i64 (n : Int))) tp (l.take n) n r ∧ Turns tp r r w ((w.setCell ⟨tp, 0, none⟩ (.slice a n cap)).setCell ⟨tp, 1, none⟩ (.int .i64 (n : Int))) := by
  obtain ⟨v, hv0, htp, hr, hv, hne, hs, hl⟩ := h
  rw [hh] at hv0
  simp only [Option.some.injEq, Obj.cells.injEq] at hv0
  obtain ⟨hv1, _⟩ := hv0
  obtain rfl : v = .slice a k cap := by simpa using hv1.symm
  have hst := heap_setCell_same _ tp 1 _ 52 (.int .i64 (n : Int)) (heap_setCell_same w tp 0 _ 52 (.slice a n cap) hh)
  have hoth : ∀ g, g ≠ tp → ((w.setCell ⟨tp, 0, none⟩ (.slice a n cap)).setCell ⟨tp, 1, none⟩ (.int .i64 (n : Int))).heap[g]? = w.heap[g]? := fun g hg => (heap_setCell_other _ ⟨tp, 1, none⟩ g _ hg).trans (heap_setCell_other w ⟨tp, 0, none⟩ g _ hg)
  have hblk : (Value.slice a n cap).ownBlock = r := by rw [← hv]; cases a <;> rfl
  refine ⟨⟨.slice a n cap, hst, htp, (hr.take hn).keep fun g hg => hoth g ?_, hblk, hne, by rw [List.length_take]; omega, by rw [List.length_take]; omega⟩, ⟨rfl, rfl, rfl, by simp [World.setCell], fun g _ hg _ => hoth g hg, .inl rfl⟩⟩
  rintro rfl
  exact hne (by rw [← hblk, hg])

/-- Append's store. -/
theorem TapeAt.put {B : Nat} {w w1 : World} {tp : Nat} {l l' : List UInt8} {sy : Nat} {r : Option Nat} {v' : Value} (h : TapeAt B w tp l sy r) (hr' : Row B w1 v' l') (hg : w.grownBy w1 r) (hb : v'.ownBlock = r ∨ v'.ownBlock = some w.heap.size) (hl : l.length ≤ l'.length) (hm : l'.length ≤ 1048576) :
    TapeAt B (w1.setCell ⟨tp, 0, none⟩ v') tp l' sy v'.ownBlock ∧ Turns tp r v'.ownBlock w (w1.setCell ⟨tp, 0, none⟩ v') := by
  obtain ⟨v, hh, htp, hr, hv, hne, hs, _⟩ := h
  have hlt : tp < w.heap.size := (Array.getElem?_eq_some_iff.1 hh).1
  have hh1 : w1.heap[tp]? = some (.cells #[v, .int .i64 (sy : Int)] 52 (0, 0)) := by rw [hg.block tp hlt (fun e => hne e.symm)]; exact hh
  have hne' : v'.ownBlock ≠ some tp := by
    rcases hb with e | e
    · rw [e]; exact hne
    · rw [e]; intro e2; simp only [Option.some.injEq] at e2; omega
  have hst := heap_setCell_same w1 tp 0 _ 52 v' hh1
  refine ⟨⟨v', hst, htp, hr'.keep fun g hg => heap_setCell_other w1 ⟨tp, 0, none⟩ g _ ?_, rfl, hne', by omega, hm⟩, ⟨hg.os, hg.tape, hg.output, by have := hg.size; simpa [World.setCell] using this, fun k hk ht hkr => (heap_setCell_other w1 ⟨tp, 0, none⟩ k _ ht).trans (hg.block k hk hkr), ?_⟩⟩
  · rintro rfl; exact hne' hg
  · rcases hb with e | e
    · exact .inl e
    · exact .inr ⟨_, e, Nat.le_refl _⟩

/-- 'append(s, x...)': s owned, x bytes that lie somewhere, or nil. -/
theorem wpList_grow {ops : Array Oper} {rest : List Oper} {o : Oper} {a : Act} {Q : Exit → Act → World → Prop} {w : World} (hgd : o.guard = none) (sl x : Operand)
    (ho : o.op = .call { callee := .builtin .append, args := #[sl, x], argTypes := #[31, 31] })
    (B : Nat) (v : Value) (l : List UInt8) (hs : a.eval sl = v) (hb : Row B w v l) (hB : B ≤ w.heap.size) (r : List UInt8) (ad : Option Addr) (k c : Nat) (hx : a.eval x = .slice ad k c) (hk : Hid (k = r.length)) (hr : Lies w ad r) (hnil : ad = none → k = 0 ∧ c = 0) (hlen : l.length + k ≤ 140737488355328)
    (h : ∀ v' w', Row B w' v' (l ++ r) → w.grownBy w' v.ownBlock → (v'.ownBlock = v.ownBlock ∨ v'.ownBlock = some w.heap.size) → wpList Try.prog ops Q rest (a.put o.dst v') w') : wpList Try.prog ops Q (o :: rest) a w := by
  obtain ⟨i0, hi, hz0, hz1, hz2⟩ := info_parts info5
  have hk' : k = r.length := hk
  subst hk'
  cases ad with
  | none =>
    obtain ⟨h0, rfl⟩ := hnil rfl
    have hr0 : r = [] := List.eq_nil_of_length_eq_zero h0
    subst hr0
    refine wpList_append_own_none hgd sl x 31 ho B 5 i0 1 Try.underlying31 hi v l.length (bv l) hs hb hx ?_
    exact h v w (by rw [List.append_nil]; exact hb) ⟨rfl, rfl, rfl, Nat.le_refl _, fun _ _ _ => rfl⟩ (.inl rfl)
  | some ad =>
    refine wpList_append_own_at w hgd sl x 31 ho B 5 i0 (.int .u8 0) 1 1 Try.underlying31 hi hz0 hz1 hz2 rfl (by decide) v l.length (bv l) hs hb ad r.length c (bv r) hx (by simp [bv]) ?_ (bv_one r) (by unfold maxLen; omega) (by omega) hB ?_
    · intro j u hj
      rcases hr with rfl | ⟨y, hy, h⟩
      · simp [bv] at hj
      · simp only [Option.some.injEq] at hy
        subst hy
        exact h j u hj
    · intro v' w' ho' hg _ hat
      refine h v' w' ?_ hg hat
      show World.ownsRow _ _ _ _ _ _ _
      rw [bv_app, List.length_append]
      exact ho'
end Go.Proofs.Ytfcnbdnmnmihjaa
