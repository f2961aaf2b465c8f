/-
  The message's writer: its box and its bytes; numbers and texts written behind them.
-/
import Derived.Test.YtbcemghkmmbmdaaMsMay3
import Derived.Test.YtbcemghkmmbmdaaPut
import Derived.Test.YtbcemghkmmbmdaaOrMath
import Derived.Maps.AppendAt
import Derived.Deep.RegionLaw
import Derived.Deep.RegionHeld3
namespace Go.Proofs.Ytbcemghkmmbmdaa.Msg
open Go.RowKit Route Order

theorem bytes_later {w w' : World} {B : Nat} {v : Value} {n : Nat} {xs : List Value} (h : w.ownsRow B 5 1 v n xs) (hb : Below w.heap.size w w') : w'.ownsRow B 5 1 v n xs :=
  ⟨h.1, h.2.imp id fun ⟨g, cap, cur, h1, h2, h3, h4⟩ => ⟨g, cap, cur, h1, h2, (hb.block g (Array.getElem?_eq_some_iff.1 h3).1).trans h3, h4⟩⟩

/-- A writer's box in block p holds a slice that owns the bytes l, in a block from B on, and has room for r more of R; below B the world is as W0 was. -/
structure Wt (B p R : Nat) (a : Option Addr) (m c r : Nat) (l : List UInt8) (W0 w : World) : Prop where
  box : w.heap[p]? = some (.cells #[.slice a m c, .int .i64 (r : Int), .bool false] 63 (0, 0))
  room : r + l.length = R
  top : R ≤ 9223372036854775807
  own : w.ownsRow B 5 1 (.slice a m c) l.length (bv l)
  bel : Below B W0 w
  low : B ≤ p
  fit : B ≤ w.heap.size

theorem Wt.lt {B p R : Nat} {a : Option Addr} {m c r : Nat} {l : List UInt8} {W0 w : World} (h : Wt B p R a m c r l W0 w) : p < w.heap.size := (Array.getElem?_eq_some_iff.1 h.box).1
theorem Wt.below {B p R : Nat} {a : Option Addr} {m c r : Nat} {l : List UInt8} {W0 w w' : World} (h : Wt B p R a m c r l W0 w) (hb : Below w.heap.size w w') : Wt B p R a m c r l W0 w' :=
  ⟨(hb.block p h.lt).trans h.box, h.room, h.top, bytes_later h.own hb, h.bel.trans (hb.mono h.fit), h.low, Nat.le_trans h.fit hb.size⟩

/-- What writing may turn: the writer's box in block p, and the block that its row lies in. -/
structure Tw (p : Nat) (o : Option Nat) (w : World) (o' : Option Nat) (w' : World) : Prop where
  size : w.heap.size ≤ w'.heap.size
  block : ∀ k, k < w.heap.size → k ≠ p → some k ≠ o → w'.heap[k]? = w.heap[k]?
  own : o' = o ∨ ∀ k, o' = some k → w.heap.size ≤ k
theorem Tw.refl (p : Nat) (o : Option Nat) (w : World) : Tw p o w o w := ⟨Nat.le_refl _, fun _ _ _ _ => rfl, .inl rfl⟩
theorem Tw.of {p : Nat} {o : Option Nat} {w w' : World} (h : Below w.heap.size w w') : Tw p o w o w' := ⟨h.size, fun k hk _ _ => h.block k hk, .inl rfl⟩
theorem Tw.trans {p : Nat} {o1 o2 o3 : Option Nat} {u v w : World} (h : Tw p o1 u o2 v) (k : Tw p o2 v o3 w) : Tw p o1 u o3 w := by
  refine ⟨Nat.le_trans h.size k.size, fun i hi h1 h2 => (k.block i (Nat.lt_of_lt_of_le hi h.size) h1 ?_).trans (h.block i hi h1 h2), ?_⟩
  · rcases h.own with e | e
    · rw [e]; exact h2
    · intro e2; have := e i e2.symm; omega
  · rcases k.own with e | e
    · rcases h.own with e1 | e1
      · exact .inl (e.trans e1)
      · exact .inr fun i hi => e1 i (e ▸ hi)
    · exact .inr fun i hi => Nat.le_trans h.size (e i hi)

/-- A writer, wherever its slice lies. -/
def Wx (B p R : Nat) (l : List UInt8) (W0 w : World) (o : Option Nat) : Prop := ∃ a m c r, Wt B p R a m c r l W0 w ∧ o = (Value.slice a m c).ownBlock
/-- .. and it has written xs. -/
def Wrote (B p R : Nat) (l : List UInt8) (W0 w : World) (o : Option Nat) (w' : World) : Prop := ∃ o', Wx B p R l W0 w' o' ∧ Tw p o w o' w'
theorem Wx.below {B p R : Nat} {l : List UInt8} {W0 w w' : World} {o : Option Nat} (h : Wx B p R l W0 w o) (hb : Below w.heap.size w w') : Wx B p R l W0 w' o := by
  obtain ⟨a, m, c, r, h, rfl⟩ := h; exact ⟨a, m, c, r, h.below hb, rfl⟩
theorem Wx.lt {B p R : Nat} {l : List UInt8} {W0 w : World} {o : Option Nat} (h : Wx B p R l W0 w o) : p < w.heap.size := by
  obtain ⟨a, m, c, r, h, rfl⟩ := h; exact h.lt
theorem Wx.bel {B p R : Nat} {l : List UInt8} {W0 w : World} {o : Option Nat} (h : Wx B p R l W0 w o) : Below B W0 w := by
  obtain ⟨a, m, c, r, h, rfl⟩ := h; exact h.bel
theorem Wx.olt {B p R : Nat} {l : List UInt8} {W0 w : World} {o : Option Nat} (h : Wx B p R l W0 w o) : ∀ k, o = some k → k < w.heap.size := by
  obtain ⟨a, m, c, r, h, rfl⟩ := h
  intro k hk
  exact (h.own.lt k hk).2
theorem Wx.app {B p R : Nat} {l : List UInt8} {W0 w : World} {o : Option Nat} (h : Wx B p R l W0 w o) {r : List UInt8} (e : l = r) : Wx B p R r W0 w o := e ▸ h
theorem Wx.good {B p R : Nat} {l : List UInt8} {W0 w : World} {o : Option Nat} (h : Wx B p R l W0 w o) : w.cell? ⟨p, 2, none⟩ = some (.bool false) := by
  obtain ⟨a, m, c, r, h, rfl⟩ := h; simp [World.cell?, h.box]
theorem Wrote.then {B p R : Nat} {l l2 : List UInt8} {W0 w w1 w2 : World} {o o1 : Option Nat} (ht : Tw p o w o1 w1) (h : Wrote B p R l2 W0 w1 o1 w2) (e : l2 = l) : Wrote B p R l W0 w o w2 := by
  subst e
  obtain ⟨o2, h1, h2⟩ := h
  exact ⟨o2, h1, ht.trans h2⟩

/-- A box laid while a writer writes stays. -/
theorem box_stay {B p R : Nat} {l : List UInt8} {W0 w w' : World} {o o' : Option Nat} {ob : Obj} (h : Wx B p R l W0 w o) (ht : Tw p o (w.alloc ob) o' w') : w'.heap[w.heap.size]? = some ob := by
  rw [ht.block w.heap.size (by simp) (by have := h.lt; omega) (fun e => by have := h.olt _ e.symm; omega)]
  exact heap_alloc_new w ob

theorem wpList_known {ops : Array Oper} {rest : List Oper} {o : Oper} {a : Act} {Q : Exit → Act → World → Prop} {w w' : World} (hgd : o.guard = none) (s x : Operand) (t : TypeId)
    (ho : o.op = .call { callee := .builtin .append, args := #[s, x], argTypes := #[t, t] }) (vs vx v' : Value) (hs : a.eval s = vs) (hx : a.eval x = vx)
    (hrun : (Builtin.append_ #[t, t] o.type #[vs, vx]).run Try.prog w = .ok v' w') (h : wpList Try.prog ops Q rest (a.put o.dst v') w') : wpList Try.prog ops Q (o :: rest) a w := by
  refine wpList_plain hgd fun K hK => ?_
  unfold Oper.wp execOp
  simp only [ho, resolve, invoke, builtin, Sem.run_bind, Sem.run_pure, Result.andThen_ok, List.map_toArray, List.map_cons, List.map_nil, hs, hx, hrun]
  exact hK _ _ h

/-- Bytes appended to the box's slice, and stored; the room is less. -/
theorem Wt.push {B p R : Nat} {a : Option Addr} {m c r : Nat} {l : List UInt8} {W0 w : World} (h : Wt B p R a m c r l W0 w) {xs : List UInt8} {ad : Addr} {k c2 : Nat} (hk : k = xs.length) (hl : Go.Proofs.Ytbcemghkmmbmdaa.Lies w (some ad) xs) (hlen : l.length + k ≤ 100000000) (hr : k ≤ r) (ty : TypeId) :
    ∃ a5 m5 c5 w5, (Builtin.append_ #[31, 31] ty #[.slice a m c, .slice (some ad) k c2]).run Try.prog w = .ok (.slice a5 m5 c5) w5 ∧ w5.cell? ⟨p, 0, none⟩ = some (.slice a m c) ∧ w5.frozen? ⟨p, 0, none⟩ = false ∧
      (w5.setCell ⟨p, 0, none⟩ (.slice a5 m5 c5)).cell? ⟨p, 1, none⟩ = some (.int .i64 (r : Int)) ∧ (w5.setCell ⟨p, 0, none⟩ (.slice a5 m5 c5)).frozen? ⟨p, 1, none⟩ = false ∧
      Hid (Wt B p R a5 m5 c5 (r - k) (l ++ xs) W0 ((w5.setCell ⟨p, 0, none⟩ (.slice a5 m5 c5)).setCell ⟨p, 1, none⟩ (.int .i64 ((r : Int) - (k : Int)))) ∧ Tw p (Value.slice a m c).ownBlock w (Value.slice a5 m5 c5).ownBlock ((w5.setCell ⟨p, 0, none⟩ (.slice a5 m5 c5)).setCell ⟨p, 1, none⟩ (.int .i64 ((r : Int) - (k : Int))))) := by
  obtain ⟨i0, hi, hz0, hz1, hz2⟩ := info_parts info5
  subst hk
  have hnews : ∀ j u, (bv xs)[j]? = some u → w.cell? (ad.add j) = some u := by
    intro j u hj
    rcases hl with rfl | ⟨x, hx, hx2⟩
    · simp [bv] at hj
    · cases hx; exact hx2 j u hj
  obtain ⟨v5, w5, hrun, hown, hg, _, hob⟩ := run_append_own_at (P := Try.prog) w B 31 ty 5 i0 (.int .u8 0) 1 1 Try.underlying31 hi hz0 hz1 hz2 rfl (by decide) (.slice a m c) l.length (bv l) h.own ad xs.length c2 (bv xs) (by rw [bv_len, Nat.mul_one]) hnews (bv_one xs) (by unfold maxLen; omega) (by omega) h.fit
  rw [← bv_app, ← List.length_append] at hown
  have hp := h.lt
  have hne : some p ≠ (Value.slice a m c).ownBlock := by
    rcases h.own.2 with ⟨e, _⟩ | ⟨g, cap, cur, e, _, e2, _⟩
    · rw [e]; simp [Value.ownBlock]
    · rw [e]
      simp only [Value.ownBlock, ne_eq, Option.some.injEq]
      rintro rfl
      rw [h.box] at e2
      simp at e2
  have hb5 : w5.heap[p]? = some (.cells #[.slice a m c, .int .i64 (r : Int), .bool false] 63 (0, 0)) := (hg.block p hp hne).trans h.box
  have hne5 : some p ≠ v5.ownBlock := by
    rcases hob with e | e
    · rw [e]; exact hne
    · rw [e]; intro e2; have := Option.some.inj e2; omega
  have hbel : Below B W0 w5 := h.bel.grown hg h.fit (fun k hk => (h.own.lt k hk).1)
  have hfit : B ≤ w5.heap.size := Nat.le_trans h.fit hg.size
  have hlow := h.low
  have hroom := h.room
  obtain ⟨a5, c5, rfl, _⟩ := Buf.form (W0 := w5) (w := w5) ⟨hown, Below.refl _ _, hfit⟩
  have ho : ∀ k, k ≠ p → ∀ u u', ((w5.setCell ⟨p, 0, none⟩ u).setCell ⟨p, 1, none⟩ u').heap[k]? = w5.heap[k]? := fun k hk u u' => (Below.heap_setCell _ _ _ _ hk).trans (Below.heap_setCell _ _ _ _ hk)
  have er : ((r - xs.length : Nat) : Int) = (r : Int) - (xs.length : Int) := by omega
  refine ⟨a5, _, c5, w5, hrun, by simp [World.cell?, hb5], by simp [World.frozen?, hb5], by simp [World.cell?, World.setCell, Array.getElem?_modify, hb5], by simp [World.frozen?, World.setCell, Array.getElem?_modify, hb5], ⟨?_, by rw [List.length_append]; omega, h.top, ?_, ?_, hlow, by simpa using hfit⟩, by simpa using hg.size, fun k hk h1 h2 => (ho k h1 _ _).trans (hg.block k hk h2), hob.imp id fun e k hk => by rw [e] at hk; have := Option.some.inj hk; omega⟩
  · rw [er]; simp [World.setCell, Array.getElem?_modify, hb5]
  · refine ⟨hown.1, hown.2.imp id fun ⟨g, cap, cur, h1, h2, h3, h4⟩ => ⟨g, cap, cur, h1, h2, ?_, h4⟩⟩
    rw [ho g (fun e => hne5 (by rw [h1, e]; rfl))]
    exact h3
  · exact ⟨hbel.os, hbel.tape, hbel.output, by simpa using hbel.size, fun k hk => (ho k (by omega) _ _).trans (hbel.block k hk)⟩

set_option maxHeartbeats 1000000 in
set_option maxRecDepth 100000 in
theorem wput_any {B p R : Nat} {l : List UInt8} {W0 w : World} {o : Option Nat} (h : Wx B p R l W0 w o) {xs : List UInt8} {ad : Addr} {k c2 : Nat} (hk : k = xs.length) (hl : Go.Proofs.Ytbcemghkmmbmdaa.Lies w (some ad) xs) (hlen : l.length + k ≤ 100000000) (hR : l.length + k ≤ R) :
    Calls Try.prog 83 #[.pointer (some ⟨p, 0, none⟩), .slice (some ad) k c2] w fun e w' => e = .returned (.tuple #[]) ∧ Hid (Wrote B p R (l ++ xs) W0 w o w') := by
  obtain ⟨a, m, c, r, h, rfl⟩ := h
  have hroom := h.room
  have htop := h.top
  have hkr : k ≤ r := by omega
  obtain ⟨a5, m5, c5, w5, hrun5, q0, q1, q2, q3, hF⟩ := h.push (c2 := c2) hk hl hlen hkr 31
  obtain ⟨c0, c1, c3⟩ := three3 h.box
  have hr : r ≤ 9223372036854775807 := by omega
  have hk9 : k ≤ 100000000 := by omega
  clear h hl hk hlen hR hroom htop
  go_enter Try.func83, Try.ntmps83
  go_wp2_with (at_builtin; refine wpList_known rfl (.tmp 24) (.tmp 25) _ rfl _ _ _ rfl rfl hrun5 ?_)
  go_end0
  exact ⟨rfl, _, ⟨_, _, _, _, hF.out.1, rfl⟩, hF.out.2⟩

/-- A callee that makes bytes of its own, and what is done with them. -/
theorem put_new {B p R : Nat} {l : List UInt8} {W0 w : World} {o : Option Nat} (h : Wx B p R l W0 w o) {v' : Value} {xs : List UInt8} (hx : 0 < xs.length) (hlen : l.length + xs.length ≤ 100000000) (hR : l.length + xs.length ≤ R) {w1 w' : World} (hb : Below w.heap.size w w1) (hv : Buf w1.heap.size v' xs w1 w') :
    ∃ ad k c, v' = .slice (some ad) k c ∧ Calls Try.prog 83 #[.pointer (some ⟨p, 0, none⟩), .slice (some ad) k c] w' fun e w2 => e = .returned (.tuple #[]) ∧ Hid (Wrote B p R (l ++ xs) W0 w o w2) := by
  have hb2 : Below w.heap.size w w' := hb.trans (hv.2.1.mono hb.size)
  obtain ⟨a1, c1, rfl, _, _, hl, hno, _⟩ := hv.form
  cases a1 with
  | none => have := (hno rfl).1; rw [this] at hx; simp at hx
  | some ad =>
    refine ⟨ad, _, c1, rfl, (wput_any (h.below hb2) rfl hl hlen hR).mono ?_⟩
    rintro e w2 ⟨rfl, hw⟩
    exact ⟨rfl, Wrote.then (Tw.of hb2) hw.out rfl⟩

set_option maxHeartbeats 1000000 in
set_option maxRecDepth 100000 in
theorem wnum_any {B p R : Nat} {l : List UInt8} {W0 w : World} {o : Option Nat} (h : Wx B p R l W0 w o) (n : Nat) (hn : n ≤ 9223372036854775807) (hlen : l.length ≤ 50000000) (hR : 60000000 ≤ R) :
    Calls Try.prog 58 #[.pointer (some ⟨p, 0, none⟩), .int .i64 (n : Int)] w fun e w' => e = .returned (.tuple #[]) ∧ Hid (Wrote B p R (l ++ digs n) W0 w o w') := by
  have hd := digs_len10 (n := n) (by omega)
  have hp := digs_pos n
  have HC : Hid (Calls _ _ _ _ _) := num_any none [] 0 n w (.inl rfl) (by simp) (by omega)
  have HP : Hid (∀ v' w', Buf w.heap.size v' (digs n) w w' → _) := fun v' w' hv => put_new h (by omega) (by omega) (by omega) (Below.refl _ _) hv
  clear hd hp h
  go_enter Try.func58, Try.ntmps58
  go_wp2_with fail
  refine HC.out.mono ?_
  rintro e w1 ⟨v', rfl, hv⟩
  obtain ⟨ad, k, c, rfl, hc⟩ := HP.out v' w1 (by simpa using hv)
  have HC2 : Hid (Calls _ _ _ _ _) := hc
  clear hv hc HC HP
  go_wp2_with fail
  refine HC2.out.mono ?_
  rintro e w2 ⟨rfl, hw⟩
  go_wp2
  go_end0
  exact ⟨rfl, hw.out⟩

set_option maxHeartbeats 1000000 in
set_option maxRecDepth 100000 in
theorem wtext_any {B p R : Nat} {l : List UInt8} {W0 w : World} {o : Option Nat} (h : Wx B p R l W0 w o) (s : ByteArray) (hs : s.size ≤ 4096) (hlen : l.length ≤ 50000000) (hR : 60000000 ≤ R) :
    Calls Try.prog 59 #[.pointer (some ⟨p, 0, none⟩), .string s] w fun e w' => e = .returned (.tuple #[]) ∧ Hid (Wrote B p R (l ++ txt s) W0 w o w') := by
  have hd := digs_len10 (n := s.size) (by omega)
  have hp := digs_pos s.size
  have hq : (txt s).length = (digs s.size).length + s.size := by unfold txt; rw [List.length_append]; simp
  have HC : Hid (Calls _ _ _ _ _) := text_any none [] 0 s w (.inl rfl) (by simp) (by omega)
  have HP : Hid (∀ v' w', Buf w.heap.size v' (txt s) w w' → _) := fun v' w' hv => put_new h (by omega) (by omega) (by omega) (Below.refl _ _) hv
  obtain ⟨z, hz⟩ : ∃ z, z = s.size := ⟨_, rfl⟩
  have l1 := len_text s z hz
  have hz2 : z ≤ 4096 := by omega
  clear hd hp h hq hs hz
  go_enter Try.func59, Try.ntmps59
  go_wp2_with fail
  refine HC.out.mono ?_
  rintro e w1 ⟨v', rfl, hv⟩
  obtain ⟨ad, k, c, rfl, hc⟩ := HP.out v' w1 (by simpa [txt] using hv)
  have HC2 : Hid (Calls _ _ _ _ _) := hc
  clear hv hc HC HP
  go_wp2_with fail
  refine HC2.out.mono ?_
  rintro e w2 ⟨rfl, hw⟩
  go_wp2
  go_end0
  exact ⟨rfl, hw.out⟩
end Go.Proofs.Ytbcemghkmmbmdaa.Msg
