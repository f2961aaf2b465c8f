/-
  A request that is being read: the reader's box, the request's, the result's, and the row of its keys.
-/
import Derived.Test.YtanlanolblbckaaOrRead
import Derived.Maps.AppendAt
import Derived.Deep.RegionLaw
namespace Go.Proofs.Ytanlanolblbckaa.Order
open Go.RowKit Route

/-- Where the boxes lie: the reader's in p, the result's in rb, the request's in qb, rows from B on. -/
structure Lay (w : World) (p rb qb B : Nat) : Prop where
  r1 : w.heap.size ≤ rb
  q1 : w.heap.size ≤ qb
  pr : p ≠ rb
  pq : p < qb
  rq : rb ≠ qb
  pB : p < B
  rB : rb < B
  qB : qb < B
  wB : w.heap.size ≤ B

abbrev zero7 : Array Value := #[.int .i64 0, .int .i64 0, .int .i64 0, .string ⟨#[]⟩, .string ⟨#[]⟩, .slice none 0 0, .int .i64 0]

structure Sq (T : TypeId) (w W : World) (p rb qb B : Nat) (a : Option Addr) (n cap : Nat) (l : List UInt8) (x : Nat) (f : Bool) (cs : Array Value) (kv : Value) (ks : List ByteArray) : Prop where
  lay : Lay w p rb qb B
  rd : Rd T W p a n cap l x f
  tn : Tn p w W
  res : W.heap[rb]? = some (.cells zero7 26 (0, 0))
  box : W.heap[qb]? = some (.cells cs 26 (0, 0))
  row : W.ownsRow B 9 1 kv ks.length (sv ks)
  big : B ≤ W.heap.size

theorem row_keep {B : Nat} {w w' : World} {v : Value} {n : Nat} {xs : List Value} (h : w.ownsRow B 9 1 v n xs) (hk : ∀ g, B ≤ g → g < w.heap.size → w'.heap[g]? = w.heap[g]?) : w'.ownsRow B 9 1 v n xs :=
  ⟨h.1, h.2.imp id fun ⟨g, cap, cur, h1, h2, h3, h4⟩ => ⟨g, cap, cur, h1, h2, (hk g h2 (Array.getElem?_eq_some_iff.1 h3).1).trans h3, h4⟩⟩

/-- The reader has read. -/
theorem Sq.step {T : TypeId} {w W : World} {p rb qb B : Nat} {a : Option Addr} {n cap : Nat} {l : List UInt8} {x : Nat} {f : Bool} {cs : Array Value} {kv : Value} {ks : List ByteArray} {W' : World} {x' : Nat} {f' : Bool} (h : Sq T w W p rb qb B a n cap l x f cs kv ks) (hr : Rd T W' p a n cap l x' f' ∧ Tn p W W') : Sq T w W' p rb qb B a n cap l x' f' cs kv ks := by
  have hb := h.big
  have L := h.lay
  have hrB := L.rB
  have hqB := L.qB
  have hpr := L.pr
  have hpq := L.pq
  have hpB := L.pB
  exact ⟨h.lay, hr.1, h.tn.trans hr.2, (hr.2.block rb (by omega) (by omega)).trans h.res, (hr.2.block qb (by omega) (by omega)).trans h.box, row_keep h.row fun g h1 h2 => hr.2.block g h2 (by omega), Nat.le_trans hb hr.2.size⟩

/-- A field is stored. -/
theorem Sq.set {T : TypeId} {w W : World} {p rb qb B : Nat} {a : Option Addr} {n cap : Nat} {l : List UInt8} {x : Nat} {f : Bool} {cs : Array Value} {kv : Value} {ks : List ByteArray} {cs' : Array Value} (h : Sq T w W p rb qb B a n cap l x f cs kv ks) (i : Nat) (u : Value) (hc : cs.setIfInBounds i u = cs') : Sq T w (W.setCell ⟨qb, i, none⟩ u) p rb qb B a n cap l x f cs' kv ks := by
  have L := h.lay
  have hpq := L.pq
  have hq1 := L.q1
  have hqB := L.qB
  have hrq := L.rq
  have ho : ∀ k, k ≠ qb → (W.setCell ⟨qb, i, none⟩ u).heap[k]? = W.heap[k]? := fun k hk => Below.heap_setCell _ _ _ _ hk
  refine ⟨h.lay, h.rd.keep fun k hk => ho k (by omega), ⟨h.tn.os, h.tn.tape, h.tn.output, by simpa using h.tn.size, fun k hk h1 => (ho k (by omega)).trans (h.tn.block k hk h1)⟩, (ho rb hrq).trans h.res, ?_, row_keep h.row fun g h1 _ => ho g (by omega), by simpa using h.big⟩
  subst hc
  simp [World.setCell, Array.getElem?_modify, h.box]

/-- A key is appended. -/
theorem Sq.push {T : TypeId} {w W : World} {p rb qb B : Nat} {a : Option Addr} {n cap : Nat} {l : List UInt8} {x : Nat} {f : Bool} {cs : Array Value} {kv : Value} {ks : List ByteArray} (h : Sq T w W p rb qb B a n cap l x f cs kv ks) (s : ByteArray) (hlen : ks.length + 1 ≤ 1000000000000) (ty : TypeId) :
    ∃ a5 k5 c5 w5, (Builtin.append_ #[22, 22] ty #[kv, .slice (some ⟨W.heap.size, 0, none⟩) 1 1]).run Try.prog (W.alloc (.cells #[.string s] 9)) = .ok (.slice a5 k5 c5) w5 ∧ w5.heap[qb]? = W.heap[qb]? ∧ Hid (Sq T w w5 p rb qb B a n cap l x f cs (.slice a5 k5 c5) (ks ++ [s])) := by
  obtain ⟨i0, hi, hz0, hz1, hz2⟩ := info_parts info9
  have L := h.lay
  have hb := h.big
  have hpq := L.pq
  have hrB := L.rB
  have hqB := L.qB
  have hpB := L.pB
  have hwB := L.wB
  obtain ⟨v5, w5, hrun, hown, hg, _, _⟩ := run_append_own_at (P := Try.prog) (W.alloc (.cells #[.string s] 9)) B 22 ty 9 i0 (.string ByteArray.empty) 1 16 Try.underlying22 hi hz0 hz1 hz2 rfl (by decide) kv ks.length (sv ks) (h.row.alloc _) ⟨W.heap.size, 0, none⟩ 1 1 [.string s] rfl (cell_one_new W (.string s) 9) (fun u hu => by simp at hu; subst hu; rfl) (by unfold maxLen; omega) (by omega) (by simp; omega)
  have hown' : w5.ownsRow B 9 1 v5 (ks ++ [s]).length (sv (ks ++ [s])) := by
    have e : sv (ks ++ [s]) = sv ks ++ [.string s] := by simp [sv]
    rw [e]; simpa using hown
  have hst : Strs B v5 (ks ++ [s]) w5 w5 ∨ ¬ B ≤ w5.heap.size := by
    by_cases hB : B ≤ w5.heap.size
    · exact .inl ⟨hown', Below.refl _ _, hB⟩
    · exact .inr hB
  have hsz : W.heap.size + 1 ≤ w5.heap.size := by have := hg.size; simpa using this
  rcases hst with hst | hst
  · obtain ⟨a5, c5, rfl, _⟩ := hst.lies
    have hk : ∀ k, k < B → w5.heap[k]? = W.heap[k]? := fun k hk => by
      have hkW : k < W.heap.size := by omega
      refine (hg.block k (by simp; omega) fun e => ?_).trans (Below.heap_alloc _ _ _ hkW)
      have := (h.row.lt k e.symm).1
      omega
    refine ⟨a5, _, c5, w5, hrun, hk qb hqB, h.lay, h.rd.keep fun k hk' => hk k (by omega), ⟨hg.os.trans h.tn.os, hg.tape.trans h.tn.tape, hg.output.trans h.tn.output, by have := h.tn.size; omega, fun k h1 h2 => (hk k (by omega)).trans (h.tn.block k h1 h2)⟩, (hk rb hrB).trans h.res, (hk qb hqB).trans h.box, hown', by omega⟩
  · omega
theorem Sq.drewN {T : TypeId} {w W : World} {p rb qb B : Nat} {a : Option Addr} {n cap : Nat} {l : List UInt8} {x : Nat} {f : Bool} {cs : Array Value} {kv : Value} {ks : List ByteArray} (h : Sq T w W p rb qb B a n cap l x f cs kv ks) (q : Nat) : Sq T w (W.drewN q) p rb qb B a n cap l x f cs kv ks :=
  h.step ⟨h.rd.keep fun _ _ => rfl, (Tn.refl p W).drewN q⟩

/-- The cells of a block of seven, and that they may be written. -/
theorem seven' {w : World} {b : Nat} {x0 x1 x2 x3 x4 x5 x6 : Value} {T : TypeId} (h : w.heap[b]? = some (.cells #[x0, x1, x2, x3, x4, x5, x6] T (0, 0))) :
    (w.cell? ⟨b, 0, none⟩ = some x0 ∧ w.cell? ⟨b, 1, none⟩ = some x1 ∧ w.cell? ⟨b, 2, none⟩ = some x2 ∧ w.cell? ⟨b, 3, none⟩ = some x3 ∧ w.cell? ⟨b, 4, none⟩ = some x4 ∧ w.cell? ⟨b, 5, none⟩ = some x5 ∧ w.cell? ⟨b, 6, none⟩ = some x6) ∧
    (∀ i, w.frozen? ⟨b, i, none⟩ = false) := by
  simp [World.cell?, World.frozen?, h]

/-- The seven cells of a block are written. -/
theorem put7_box {W : World} {b : Nat} {x0 x1 x2 x3 x4 x5 x6 : Value} {T : TypeId} (h : W.heap[b]? = some (.cells #[x0, x1, x2, x3, x4, x5, x6] T (0, 0))) (u0 u1 u2 u3 u4 u5 u6 : Value) :
    (((((((W.setCell ⟨b, 0, none⟩ u0).setCell ⟨b, 1, none⟩ u1).setCell ⟨b, 2, none⟩ u2).setCell ⟨b, 3, none⟩ u3).setCell ⟨b, 4, none⟩ u4).setCell ⟨b, 5, none⟩ u5).setCell ⟨b, 6, none⟩ u6).heap[b]? = some (.cells #[u0, u1, u2, u3, u4, u5, u6] T (0, 0)) := by
  simp [World.setCell, Array.getElem?_modify, h]
theorem put7_tn (W : World) (b : Nat) (u0 u1 u2 u3 u4 u5 u6 : Value) :
    Tn b W (((((((W.setCell ⟨b, 0, none⟩ u0).setCell ⟨b, 1, none⟩ u1).setCell ⟨b, 2, none⟩ u2).setCell ⟨b, 3, none⟩ u3).setCell ⟨b, 4, none⟩ u4).setCell ⟨b, 5, none⟩ u5).setCell ⟨b, 6, none⟩ u6) :=
  (((((((Tn.refl b W).setCell 0 u0).setCell 1 u1).setCell 2 u2).setCell 3 u3).setCell 4 u4).setCell 5 u5).setCell 6 u6

/-- What a row of keys is to a reader. -/
theorem row_keys {W : World} {B : Nat} {ka : Option Addr} {kn kc : Nat} {ks : List ByteArray} (h : W.ownsRow B 9 1 (.slice ka kn kc) ks.length (sv ks)) (hB : B ≤ W.heap.size) (hm : ks.length ≤ 140737488355328) : KeysAt W ka kn kc ks := by
  have hs : Strs B (.slice ka kn kc) ks W W := ⟨h, Below.refl _ _, hB⟩
  obtain ⟨a1, c1, e, h1, _, h3⟩ := hs.lies
  injection e with e1 e2 e3
  subst e1; subst e2; subst e3
  exact ⟨rfl, h3, hm, h1⟩

theorem row_new {W : World} {B : Nat} {ka : Option Addr} {kn kc n : Nat} {xs : List Value} (h : W.ownsRow B 9 1 (.slice ka kn kc) n xs) : ∀ y, ka = some y → B ≤ y.block := by
  intro y hy
  subst hy
  rcases h.2 with ⟨e, _⟩ | ⟨g, cap, cur, e, hb, _⟩
  · cases e
  · injection e with e1 _ _
    injection e1 with e2
    subst e2
    exact hb

theorem Sq.tn_res {T : TypeId} {w W W' : World} {p rb qb B : Nat} {a : Option Addr} {n cap : Nat} {l : List UInt8} {x : Nat} {f : Bool} {cs : Array Value} {ka : Option Addr} {kn kc : Nat} {ks : List ByteArray} (h : Sq T w W p rb qb B a n cap l x f cs (.slice ka kn kc) ks) (ht : Tn rb W W') (hm : ks.length ≤ 140737488355328) :
    Tn p w W' ∧ KeysAt W' ka kn kc ks := by
  have L := h.lay
  have hr1 := L.r1
  have hrB := L.rB
  have hts := h.tn.size
  refine ⟨⟨ht.os.trans h.tn.os, ht.tape.trans h.tn.tape, ht.output.trans h.tn.output, Nat.le_trans h.tn.size ht.size, fun k h1 h2 => (ht.block k (by omega) (by omega)).trans (h.tn.block k h1 h2)⟩, row_keys (row_keep h.row fun g h1 h2 => ht.block g h2 (by omega)) (Nat.le_trans h.big ht.size) hm⟩

/-- 'append' at a step of a region that draws, its run being known. -/
theorem step_run {ops : Array Oper} {o : Oper} {a : Act} {K : Act → World → Prop} {Q : Exit → Act → World → Prop} {E : Prop} {w w' : World} (hgd : o.guard = none) (s x : Operand) (t : TypeId)
    (ho : o.op = .call { callee := .builtin .append, args := #[s, x], argTypes := #[t, t] }) (vs vx v' : Value) (hs : a.eval s = vs) (hx : a.eval x = vx)
    (hrun : (Builtin.append_ #[t, t] o.type #[vs, vx]).run Try.prog w = .ok v' w') (h : K (a.put o.dst v') w') :
    if Region.wanted o (yielded ops a.tmps) = true then o.wp Try.prog a w K Q else E := by
  have hw : Region.wanted o (yielded ops a.tmps) = true := by simp [Region.wanted, hgd]
  rw [if_pos hw]
  unfold Oper.wp execOp
  simp only [ho, resolve, invoke, builtin, Sem.run_bind, Sem.run_pure, Result.andThen_ok, List.map_toArray, List.map_cons, List.map_nil, hs, hx, hrun]
  exact h
end Go.Proofs.Ytanlanolblbckaa.Order
