/-
  Deeds in memory: what a script's element is, and how it is read; an append at a step of a region that draws.
-/
import Derived.Test.YtjoidfigdgpedaaTpKeeps
import Derived.Deep.RegionHeld3
namespace Go.Proofs.Ytjoidfigdgpedaa
open Go.RowKit

/-- A deed's bytes, as its slice has them. -/
def BytesIn (w : World) (a : Option Addr) (k cap : Nat) (l : List UInt8) : Prop := Hid (k = l.length) ∧ Lies w a l ∧ (a = none → k = 0 ∧ cap = 0)

/-- At the address a deed lies. -/
def DeedAt (w : World) (p : Addr) : Prop :=
  ∃ (c n : Int) (a : Option Addr) (k cap : Nat) (l : List UInt8), w.cell? p = some (.int .i64 c) ∧ w.cell? ⟨p.block, p.off + 1, none⟩ = some (.int .i64 n) ∧ w.cell? ⟨p.block, p.off + 2, none⟩ = some (.slice a k cap) ∧
    (-9223372036854775808 ≤ c ∧ c ≤ 9223372036854775807) ∧ (-9223372036854775808 ≤ n ∧ n ≤ 9223372036854775807) ∧ BytesIn w a k cap l

/-- At the address n deeds lie. -/
def DeedsIn (w : World) (a : Option Addr) (n : Nat) : Prop := n = 0 ∨ ∃ x, a = some x ∧ ∀ j, j < n → DeedAt w (x.add (j * 3))

theorem cell_below {B : Nat} {w w' : World} {x : Addr} {v : Value} (hb : Below B w w') (hB : w.heap.size ≤ B) (h : w.cell? x = some v) : w'.cell? x = some v := by
  rw [hb.cell (by have := World.block_lt_of_cell? w _ h; omega)]; exact h

theorem BytesIn.below {B : Nat} {w w' : World} {a : Option Addr} {k cap : Nat} {l : List UInt8} (h : BytesIn w a k cap l) (hb : Below B w w') (hB : w.heap.size ≤ B) : BytesIn w' a k cap l := ⟨h.1, h.2.1.below hb hB, h.2.2⟩

theorem DeedAt.below {B : Nat} {w w' : World} {p : Addr} (h : DeedAt w p) (hb : Below B w w') (hB : w.heap.size ≤ B) : DeedAt w' p := by
  obtain ⟨c, n, a, k, cap, l, h0, h1, h2, hc, hn, hl⟩ := h
  exact ⟨c, n, a, k, cap, l, cell_below hb hB h0, cell_below hb hB h1, cell_below hb hB h2, hc, hn, hl.below hb hB⟩

set_option maxRecDepth 100000 in
theorem index_deed (x : Addr) (n cap i : Nat) (hi : i < n) (w : World) : (Instr.indexAt 22 (.slice (some x) n cap) (.int .i64 (i : Int))).run Try.prog w = .ok (.pointer (some (x.add (i * 3)))) w := by
  rw [run_indexAt_slice w 22 x n cap .i64 i (by kernel_rfl), if_pos (by omega)]
  rfl
theorem size28 (w : World) : (sizeOf 28).run Try.prog w = .ok 3 w := by kernel_rfl
theorem agg28 (w : World) : (isAgg 28).run Try.prog w = .ok true w := by kernel_rfl

/-- 'append(s, x...)' at the operation. -/
theorem wp_grow {o : Oper} {a : Act} {K : Act → World → Prop} {Q : Exit → Act → World → Prop} {w : World} (sl x : Operand)
    (ho : o.op = .call { callee := .builtin .append, args := #[sl, x], argTypes := #[26, 26] })
    (B : Nat) (v : Value) (l : List UInt8) (hs : a.eval sl = v) (hb : Row B w v l) (hB : B ≤ w.heap.size) (r : List UInt8) (ad : Option Addr) (k c : Nat) (hx : a.eval x = .slice ad k c) (hr : BytesIn w ad k c r) (hlen : l.length + k ≤ 140737488355328)
    (h : ∀ v' w', Row B w' v' (l ++ r) → w.grownBy w' v.ownBlock → (v'.ownBlock = v.ownBlock ∨ v'.ownBlock = some w.heap.size) → K (a.put o.dst v') w') : o.wp Try.prog a w K Q := by
  obtain ⟨i0, hi, hz0, hz1, hz2⟩ := info_parts info5
  obtain ⟨hk, hr, hnil⟩ := hr
  have hk' : k = r.length := hk
  subst hk'
  cases ad with
  | none =>
    obtain ⟨h0, rfl⟩ := hnil rfl
    have hr0 : r = [] := List.eq_nil_of_length_eq_zero h0
    subst hr0
    have hrun := run_append_owned_none (P := Try.prog) (w := w) B 26 o.type 5 i0 1 Try.underlying26 hi v l.length (bv l) hb
    unfold Oper.wp execOp
    simp only [List.length_nil] at hx
    simp [ho, resolve, invoke, builtin, hs, hx, hrun, Result.andThen]
    exact h v w (by rw [List.append_nil]; exact hb) ⟨rfl, rfl, rfl, Nat.le_refl _, fun _ _ _ => rfl⟩ (.inl rfl)
  | some ad =>
    have hnews : ∀ j u, (bv r)[j]? = some u → w.cell? (ad.add j) = some u := by
      intro j u hj
      rcases hr with rfl | ⟨y, hy, h⟩
      · simp [bv] at hj
      · simp only [Option.some.injEq] at hy
        subst hy
        exact h j u hj
    obtain ⟨v', w', hrun, h2, h3, _, h5⟩ := run_append_own_at (P := Try.prog) w B 26 o.type 5 i0 (.int .u8 0) 1 1 Try.underlying26 hi hz0 hz1 hz2 rfl (by decide) v l.length (bv l) hb ad r.length c (bv r) (by simp [bv]) hnews (bv_one r) (by unfold maxLen; omega) (by omega) hB
    unfold Oper.wp execOp
    simp only [ho, resolve, invoke, builtin, Sem.run_bind, Sem.run_pure, Result.andThen_ok, List.map_toArray, List.map_cons, List.map_nil, hs, hx, hrun]
    refine h v' w' ?_ h3 h5
    show World.ownsRow _ _ _ _ _ _ _
    rw [bv_app, List.length_append]
    exact h2

theorem step_grow {ops : Array Oper} {o : Oper} {a : Act} {K : Act → World → Prop} {Q : Exit → Act → World → Prop} {E : Prop} {w : World} (hgd : o.guard = none) (sl x : Operand)
    (ho : o.op = .call { callee := .builtin .append, args := #[sl, x], argTypes := #[26, 26] })
    (B : Nat) (v : Value) (l : List UInt8) (hs : a.eval sl = v) (hb : Row B w v l) (hB : B ≤ w.heap.size) (r : List UInt8) (ad : Option Addr) (k c : Nat) (hx : a.eval x = .slice ad k c) (hr : BytesIn w ad k c r) (hlen : l.length + k ≤ 140737488355328)
    (h : ∀ v' w', Row B w' v' (l ++ r) → w.grownBy w' v.ownBlock → (v'.ownBlock = v.ownBlock ∨ v'.ownBlock = some w.heap.size) → K (a.put o.dst v') w') :
    if Region.wanted o (yielded ops a.tmps) = true then o.wp Try.prog a w K Q else E := by
  have hw : Region.wanted o (yielded ops a.tmps) = true := by simp [Region.wanted, hgd]
  rw [if_pos hw]
  exact wp_grow sl x ho B v l hs hb hB r ad k c hx hr hlen h
end Go.Proofs.Ytjoidfigdgpedaa
