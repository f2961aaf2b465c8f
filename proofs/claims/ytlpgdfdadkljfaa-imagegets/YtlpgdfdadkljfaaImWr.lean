/-
  The image's writer: its box and its bytes; numbers, texts, entries, snapshots written behind them; Put.
-/
import Derived.Test.YtlpgdfdadkljfaaImMath
import Derived.Test.YtlpgdfdadkljfaaPut
import Derived.Maps.AppendAt
import Derived.Deep.RegionLaw
import Derived.Deep.RegionHeld3
namespace Go.Proofs.Ytlpgdfdadkljfaa.Img
open Go.RowKit Route Tree Order Cat

/-- A writer's box in block p holds a slice that owns the bytes l, in a block from B on; below B the world is as W0 was. -/
structure Wt (B p : Nat) (a : Option Addr) (m c : Nat) (l : List UInt8) (W0 w : World) : Prop where
  box : w.heap[p]? = some (.cells #[.slice a m c] 83 (0, 0))
  len : m = l.length
  own : w.ownsRow B 5 1 (.slice a m c) l.length (bv l)
  bel : Below B W0 w
  low : B ≤ p
  fit : B ≤ w.heap.size

theorem Wt.lt {B p : Nat} {a : Option Addr} {m c : Nat} {l : List UInt8} {W0 w : World} (h : Wt B p a m c l W0 w) : p < w.heap.size := (Array.getElem?_eq_some_iff.1 h.box).1
theorem Wt.below {B p : Nat} {a : Option Addr} {m c : Nat} {l : List UInt8} {W0 w w' : World} (h : Wt B p a m c l W0 w) (hb : Below w.heap.size w w') : Wt B p a m c l W0 w' :=
  ⟨(hb.block p h.lt).trans h.box, h.len, own30_later h.own hb, h.bel.trans (hb.mono h.fit), h.low, Nat.le_trans h.fit hb.size⟩

/-- What writing may turn: the writer's box in block p, and the block that its row lies in. -/
structure Tw (p : Nat) (o : Option Nat) (w : World) (o' : Option Nat) (w' : World) : Prop where
  size : w.heap.size ≤ w'.heap.size
  block : ∀ k, k < w.heap.size → k ≠ p → some k ≠ o → w'.heap[k]? = w.heap[k]?
  own : o' = o ∨ ∀ k, o' = some k → w.heap.size ≤ k
theorem Tw.refl (p : Nat) (o : Option Nat) (w : World) : Tw p o w o w := ⟨Nat.le_refl _, fun _ _ _ _ => rfl, .inl rfl⟩
theorem Tw.of {p : Nat} {o : Option Nat} {w w' : World} (h : Below w.heap.size w w') : Tw p o w o w' := ⟨h.size, fun k hk _ _ => h.block k hk, .inl rfl⟩
theorem Tw.trans {p : Nat} {o1 o2 o3 : Option Nat} {u v w : World} (h : Tw p o1 u o2 v) (k : Tw p o2 v o3 w) : Tw p o1 u o3 w := by
  refine ⟨Nat.le_trans h.size k.size, fun i hi h1 h2 => (k.block i (Nat.lt_of_lt_of_le hi h.size) h1 ?_).trans (h.block i hi h1 h2), ?_⟩
  · rcases h.own with e | e
    · rw [e]; exact h2
    · intro e2; have := e i e2.symm; omega
  · rcases k.own with e | e
    · rcases h.own with e1 | e1
      · exact .inl (e.trans e1)
      · exact .inr fun i hi => e1 i (e ▸ hi)
    · exact .inr fun i hi => Nat.le_trans h.size (e i hi)

/-- Bytes appended to the box's slice, and stored. -/
theorem Wt.push {B p : Nat} {a : Option Addr} {m c : Nat} {l : List UInt8} {W0 w : World} (h : Wt B p a m c l W0 w) {xs : List UInt8} {ad : Addr} {k c2 : Nat} (hk : k = xs.length) (hl : Go.Proofs.Ytlpgdfdadkljfaa.Lies w (some ad) xs) (hlen : l.length + k ≤ 100000000) (ty : TypeId) :
    ∃ a5 m5 c5 w5, (Builtin.append_ #[30, 30] ty #[.slice a m c, .slice (some ad) k c2]).run Try.prog w = .ok (.slice a5 m5 c5) w5 ∧ w5.cell? ⟨p, 0, none⟩ = some (.slice a m c) ∧ w5.frozen? ⟨p, 0, none⟩ = false ∧ Hid (Wt B p a5 m5 c5 (l ++ xs) W0 (w5.setCell ⟨p, 0, none⟩ (.slice a5 m5 c5)) ∧ Tw p (Value.slice a m c).ownBlock w (Value.slice a5 m5 c5).ownBlock (w5.setCell ⟨p, 0, none⟩ (.slice a5 m5 c5))) := by
  obtain ⟨i0, hi, hz0, hz1, hz2⟩ := info_parts info5
  subst hk
  have hnews : ∀ j u, (bv xs)[j]? = some u → w.cell? (ad.add j) = some u := by
    intro j u hj
    rcases hl with rfl | ⟨x, hx, hx2⟩
    · simp [bv] at hj
    · cases hx; exact hx2 j u hj
  obtain ⟨v5, w5, hrun, hown, hg, _, hob⟩ := run_append_own_at (P := Try.prog) w B 30 ty 5 i0 (.int .u8 0) 1 1 Try.underlying30 hi hz0 hz1 hz2 rfl (by decide) (.slice a m c) l.length (bv l) h.own ad xs.length c2 (bv xs) (by rw [bv_len, Nat.mul_one]) hnews (bv_one xs) (by unfold maxLen; omega) (by omega) h.fit
  rw [← bv_app, ← List.length_append] at hown
  have hp := h.lt
  have hne : some p ≠ (Value.slice a m c).ownBlock := by
    rcases h.own.2 with ⟨e, _⟩ | ⟨g, cap, cur, e, _, e2, _⟩
    · rw [e]; simp [Value.ownBlock]
    · rw [e]
      simp only [Value.ownBlock, ne_eq, Option.some.injEq]
      rintro rfl
      rw [h.box] at e2
      simp at e2
  have hb5 : w5.heap[p]? = some (.cells #[.slice a m c] 83 (0, 0)) := (hg.block p hp hne).trans h.box
  have hne5 : some p ≠ v5.ownBlock := by
    rcases hob with e | e
    · rw [e]; exact hne
    · rw [e]; intro e2; have := Option.some.inj e2; omega
  have hbel : Below B W0 w5 := h.bel.grown hg h.fit (fun k hk => (h.own.lt k hk).1)
  have hfit : B ≤ w5.heap.size := Nat.le_trans h.fit hg.size
  have hlow := h.low
  have ho : ∀ k, k ≠ p → ∀ u, (w5.setCell ⟨p, 0, none⟩ u).heap[k]? = w5.heap[k]? := fun k hk u => Below.heap_setCell _ _ _ _ hk
  obtain ⟨a5, c5, rfl, _⟩ := Buf.form (W0 := w5) (w := w5) ⟨hown, Below.refl _ _, hfit⟩
  refine ⟨a5, _, c5, w5, hrun, by simp [World.cell?, hb5], by simp [World.frozen?, hb5], ⟨?_, rfl, ?_, ?_, hlow, by simpa using hfit⟩, by simpa using hg.size, fun k hk h1 h2 => (ho k h1 _).trans (hg.block k hk h2), hob.imp id fun e k hk => by rw [e] at hk; have := Option.some.inj hk; omega⟩
  · simp [World.setCell, Array.getElem?_modify, hb5]
  · refine ⟨hown.1, hown.2.imp id fun ⟨g, cap, cur, h1, h2, h3, h4⟩ => ⟨g, cap, cur, h1, h2, ?_, h4⟩⟩
    rw [ho g (fun e => hne5 (by rw [h1, e]; rfl))]
    exact h3
  · exact ⟨hbel.os, hbel.tape, hbel.output, by simpa using hbel.size, fun k hk => (ho k (by omega) _).trans (hbel.block k hk)⟩

/-- 'append' at a step of a region that draws, its run being known. -/
theorem step_run {ops : Array Oper} {o : Oper} {a : Act} {K : Act → World → Prop} {Q : Exit → Act → World → Prop} {E : Prop} {w w' : World} (hgd : o.guard = none) (s x : Operand) (t : TypeId)
    (ho : o.op = .call { callee := .builtin .append, args := #[s, x], argTypes := #[t, t] }) (vs vx v' : Value) (hs : a.eval s = vs) (hx : a.eval x = vx)
    (hrun : (Builtin.append_ #[t, t] o.type #[vs, vx]).run Try.prog w = .ok v' w') (h : K (a.put o.dst v') w') :
    if Region.wanted o (yielded ops a.tmps) = true then o.wp Try.prog a w K Q else E := by
  have hw : Region.wanted o (yielded ops a.tmps) = true := by simp [Region.wanted, hgd]
  rw [if_pos hw]
  unfold Oper.wp execOp
  simp only [ho, resolve, invoke, builtin, Sem.run_bind, Sem.run_pure, Result.andThen_ok, List.map_toArray, List.map_cons, List.map_nil, hs, hx, hrun]
  exact h

/-- A writer, wherever its slice lies. -/
def Wx (B p : Nat) (l : List UInt8) (W0 w : World) (o : Option Nat) : Prop := ∃ a m c, Wt B p a m c l W0 w ∧ o = (Value.slice a m c).ownBlock
/-- .. and it has written xs. -/
def Wrote (B p : Nat) (l : List UInt8) (W0 w : World) (o : Option Nat) (w' : World) : Prop := ∃ o', Wx B p l W0 w' o' ∧ Tw p o w o' w'

/-- A callee that makes bytes of its own, and what is done with them. -/
theorem push_call {B p : Nat} {a : Option Addr} {m c : Nat} {l : List UInt8} {W0 w : World} (h : Wt B p a m c l W0 w) {F : FuncId} {args : Array Value} {xs : List UInt8} (hx : 0 < xs.length) (hlen : l.length + xs.length ≤ 100000000) {w1 : World} (hb : Below w.heap.size w w1)
    (hcall : Calls Try.prog F args w1 fun e w' => ∃ v', e = .returned v' ∧ Buf w1.heap.size v' xs w1 w') :
    Calls Try.prog F args w1 fun e w' => ∃ a1 m1 c1, e = .returned (.slice a1 m1 c1) ∧ w'.cell? ⟨p, 0, none⟩ = some (.slice a m c) ∧ ∃ a5 m5 c5 w5, (Builtin.append_ #[30, 30] 30 #[.slice a m c, .slice a1 m1 c1]).run Try.prog w' = .ok (.slice a5 m5 c5) w5 ∧ w5.cell? ⟨p, 0, none⟩ = some (.slice a m c) ∧ w5.frozen? ⟨p, 0, none⟩ = false ∧ Hid (Wt B p a5 m5 c5 (l ++ xs) W0 (w5.setCell ⟨p, 0, none⟩ (.slice a5 m5 c5)) ∧ Tw p (Value.slice a m c).ownBlock w (Value.slice a5 m5 c5).ownBlock (w5.setCell ⟨p, 0, none⟩ (.slice a5 m5 c5))) := by
  refine hcall.mono ?_
  rintro e w' ⟨v', rfl, hv⟩
  have h1 := (h.below hb).below hv.2.1
  obtain ⟨a1, c1, rfl, _, _, hl, hno, _⟩ := hv.form
  cases a1 with
  | none => have := (hno rfl).1; rw [this] at hx; simp at hx
  | some ad =>
    refine ⟨_, _, _, rfl, by simp [World.cell?, h1.box], ?_⟩
    obtain ⟨a5, m5, c5, w5, g1, g2, g3, g4⟩ := h1.push (c2 := c1) rfl hl hlen 30
    exact ⟨a5, m5, c5, w5, g1, g2, g3, g4.out.1, ((Tw.of hb).trans (Tw.of hv.2.1)).trans g4.out.2⟩

set_option maxHeartbeats 1000000 in
set_option maxRecDepth 100000 in
theorem wnum_any {B p : Nat} {l : List UInt8} {W0 w : World} {o : Option Nat} (h : Wx B p l W0 w o) (n : Nat) (hn : n ≤ 1000000) (hlen : l.length ≤ 50000000) :
    Calls Try.prog 44 #[.pointer (some ⟨p, 0, none⟩), .int .i64 (n : Int)] w fun e w' => e = .returned (.tuple #[]) ∧ Hid (Wrote B p (l ++ digs n) W0 w o w') := by
  obtain ⟨a, m, c, h, rfl⟩ := h
  have hd := digs_len10 (n := n) (by omega)
  have HC : Hid (∀ w1, Below w.heap.size w w1 → _) := fun w1 hb => push_call h (digs_pos n) (by omega) hb (by
    have := num_any none [] 0 n w1 (.inl rfl) (by simp) (by omega)
    simpa using this)
  have c0 : w.cell? ⟨p, 0, none⟩ = some (.slice a m c) := by simp [World.cell?, h.box]
  have HWr : Hid (IntKind.u64.wrap (n : Int) = (n : Int)) := by show _ = _; rw [IntKind.wrap_u64]; omega
  clear hd h
  go_enter Try.func44, Try.ntmps44
  go_wp2_with fail
  go_region_law
    (first
      | (go_simp; rw [HWr.out]; go_at_call 60; refine (HC.out _ (by first | exact Below.refl _ _ | exact (Below.refl _ _).drew)).mono ?_; rintro e w4 ⟨a1, m1, c1, rfl, c4, a5, m5, c5, w5, hrun5, c5', f5, hF5⟩)
      | (refine step_run (by rfl) _ _ _ (by rfl) _ _ _ (by rfl) (by rfl) hrun5 ?_))
  all_goals
    go_wp2
    go_end0
    exact ⟨rfl, _, ⟨_, _, _, hF5.out.1, rfl⟩, hF5.out.2⟩

set_option maxHeartbeats 1000000 in
set_option maxRecDepth 100000 in
theorem wtext_any {B p : Nat} {l : List UInt8} {W0 w : World} {o : Option Nat} (h : Wx B p l W0 w o) (s : ByteArray) (hs : s.size ≤ 100000) (hlen : l.length ≤ 50000000) :
    Calls Try.prog 61 #[.pointer (some ⟨p, 0, none⟩), .string s] w fun e w' => e = .returned (.tuple #[]) ∧ Hid (Wrote B p (l ++ txt s) W0 w o w') := by
  obtain ⟨a, m, c, h, rfl⟩ := h
  have hd := txt_len hs (Nat.le_refl _)
  have hd2 : 0 < (txt s).length := by have := digs_pos s.size; unfold txt; rw [List.length_append]; omega
  have HC : Hid (∀ w1, Below w.heap.size w w1 → _) := fun w1 hb => push_call h hd2 (by omega) hb (by
    have := text_any none [] 0 s w1 (.inl rfl) (by simp) (by omega)
    simpa [txt] using this)
  have c0 : w.cell? ⟨p, 0, none⟩ = some (.slice a m c) := by simp [World.cell?, h.box]
  clear hd hd2 h
  go_enter Try.func61, Try.ntmps61
  go_wp2_with fail
  go_region_law
    (first
      | (go_simp; go_at_call 74; refine (HC.out _ (by first | exact Below.refl _ _ | exact (Below.refl _ _).drew)).mono ?_; rintro e w4 ⟨a1, m1, c1, rfl, c4, a5, m5, c5, w5, hrun5, c5', f5, hF5⟩)
      | (refine step_run (by rfl) _ _ _ (by rfl) _ _ _ (by rfl) (by rfl) hrun5 ?_))
  all_goals
    go_wp2
    go_end0
    exact ⟨rfl, _, ⟨_, _, _, hF5.out.1, rfl⟩, hF5.out.2⟩
end Go.Proofs.Ytlpgdfdadkljfaa.Img
