/-
  What all laws of catalog stand on: a catalog of the law's own, Snaps and Same as the laws call them, a deed called in a drawn region.
-/
import Derived.Test.YtlpgdfdadkljfaaGreatCtDeed
namespace Go.Proofs.YtlpgdfdadkljfaaGreat.Cat
open Go.RowKit Route Tree Order

/-- What stands while a script is played: a catalog of the law's own. -/
structure Lw (w0 : World) (B p : Nat) (v : Value) (Z : List SZ) (w : World) : Prop where
  cat : Cat B p v Z w
  inv : Inv (Z.map snapOf)
  bel : Below w0.heap.size w0 w
  low : w0.heap.size ≤ B
  fit : B ≤ w.heap.size

theorem Lw.below {w0 w w' : World} {B p : Nat} {v : Value} {Z : List SZ} (h : Lw w0 B p v Z w) (hb : Below w.heap.size w w') : Lw w0 B p v Z w' :=
  ⟨h.cat.below hb, h.inv, h.bel.trans (hb.mono h.bel.size), h.low, Nat.le_trans h.fit hb.size⟩
theorem Lw.did {w0 w w' : World} {B p : Nat} {v v' : Value} {Z Z' : List SZ} {r : Rq} {y : An} (h : Lw w0 B p v Z w) (hd : Did B p v Z r w y v' Z' w') : Lw w0 B p v' Z' w' :=
  ⟨hd.next.cat, hd.inv, h.bel.trans ((hd.next.under h.cat h.fit).mono h.low), h.low, Nat.le_trans h.fit hd.next.turn.size⟩

theorem snaps_law {w0 w : World} {B p : Nat} {v : Value} {Z : List SZ} (h : Lw w0 B p v Z w) : Calls Tryz.prog 13 #[.pointer (some ⟨p, 0, none⟩)] w fun e w' => ∃ a n cap Z0, e = .returned (.slice a n cap) ∧ n = Z0.length ∧ n ≤ 64 ∧ Hid (Z0.map snapOf = Z.map snapOf ∧ SRow w.heap.size (.slice a n cap) Z0 w' ∧ Below w.heap.size w w') := by
  obtain ⟨a, n, cap, _, hs⟩ := h.cat.see
  have hl := inv_len h.inv
  refine (snaps_any p a n cap _ w hs (by have := hs.len; omega) h.inv.short).mono ?_
  rintro e w' ⟨v0, Z0, rfl, hZ, hR, hb⟩
  obtain ⟨a0, c0, rfl, _⟩ := hR.sees
  have e0 : Z0.length = (Z.map snapOf).length := by rw [← hZ]; simp
  exact ⟨a0, _, c0, Z0, rfl, rfl, by rw [e0]; exact hl, hZ, hR, hb⟩

theorem same_law {B1 B2 : Nat} {a1 a2 : Option Addr} {n c1 c2 : Nat} {Z1 Z2 : List SZ} {w : World} {S : List Snap} (h1 : SRow B1 (.slice a1 n c1) Z1 w) (h2 : SRow B2 (.slice a2 n c2) Z2 w) (e1 : Z1.map snapOf = S) (e2 : Z2.map snapOf = S) (hI : Inv S) (hn : n = S.length) :
    Calls Tryz.prog 12 #[.slice a1 n c1, .slice a2 n c2] w fun e w' => e = .returned (.bool true) ∧ Below w.heap.size w w' := by
  obtain ⟨x1, y1, q1, l1⟩ := h1.sees
  obtain ⟨x2, y2, q2, l2⟩ := h2.sees
  simp only [Value.slice.injEq] at q1 q2
  obtain ⟨rfl, _, rfl⟩ := q1
  obtain ⟨rfl, _, rfl⟩ := q2
  rw [e1] at l1
  rw [e2] at l2
  exact sameS_yes a1 a2 n c1 c2 S w hn l1 l2 (by have := inv_len hI; omega) hI.few

/-- A deed of a script that came in: what a drawn region reads of it, and what the call comes to. -/
theorem deed_call {w0 w : World} {B p : Nat} {v : Value} {Z : List SZ} (h : Lw w0 B p v Z w) {q : Addr} {c k m : Int} {nm pt : ByteArray} {ks : List ByteArray} {t : Int} (hd : DeedAt w0 q ⟨c, t, k, m, nm, pt, ks⟩) (hs : ShortR ⟨c, t, k, m, nm, pt, ks⟩) :
    ∃ ka kn kc, (w.cell? q = some (.int .i64 c) ∧ w.cell? ⟨q.block, q.off + 1, none⟩ = some (.int .i64 k) ∧ w.cell? ⟨q.block, q.off + 1 + 1, none⟩ = some (.string nm) ∧ w.cell? ⟨q.block, q.off + 1 + 2, none⟩ = some (.string pt) ∧ w.cell? ⟨q.block, q.off + 1 + 3, none⟩ = some (.slice ka kn kc) ∧ w.cell? ⟨q.block, q.off + 1 + 4, none⟩ = some (.int .i64 m)) ∧ q.block < w.heap.size ∧
      Hid (∀ W, Below w.heap.size w W → Calls Tryz.prog 9 #[.pointer (some ⟨p, 0, none⟩), .int .i64 c, .agg #[.int .i64 k, .string nm, .string pt, .slice ka kn kc, .int .i64 m]] W fun e w' => ∃ (y : An) (v' : Value) (Z' : List SZ), e = .returned (.agg #[.int .i64 y.a, .int .i64 y.b, .slice y.s2 y.n2 y.c2, .slice y.s3 y.n3 y.c3, .slice y.s4 y.n4 y.c4]) ∧
        (w'.cell? q = some (.int .i64 c) ∧ w'.cell? ⟨q.block, q.off + 1, none⟩ = some (.int .i64 k) ∧ w'.cell? ⟨q.block, q.off + 1 + 1, none⟩ = some (.string nm) ∧ w'.cell? ⟨q.block, q.off + 1 + 2, none⟩ = some (.string pt) ∧ w'.cell? ⟨q.block, q.off + 1 + 3, none⟩ = some (.slice ka kn kc) ∧ w'.cell? ⟨q.block, q.off + 1 + 4, none⟩ = some (.int .i64 m)) ∧
        q.block < w'.heap.size ∧ Hid (∀ x0 x1 x2 x3 x4, W.heap[w.heap.size]? = some (.cells #[x0, x1, x2, x3, x4] 31 (0, 0)) → w'.heap[w.heap.size]? = some (.cells #[x0, x1, x2, x3, x4] 31 (0, 0))) ∧ Hid (Did B p v Z ⟨c, 1, k, m, nm, pt, ks⟩ w y v' Z' w')) := by
  obtain ⟨ka, kc, g0, g1, g2, g3, g4, g5, hr, ht⟩ := hd
  simp only at g0 g1 g2 g3 g4 g5 ht
  subst ht
  have l := Nat.le_refl w0.heap.size
  have hb := h.bel
  have hqb : q.block < w0.heap.size := World.block_lt_of_cell? w0 _ g0
  obtain ⟨f1, f2, f3⟩ := req_fits (hr.below hb) hs
  refine ⟨ka, ks.length, kc, ⟨cell_low hb l g0, cell_low hb l g1, cell_low hb l g2, cell_low hb l g3, cell_low hb l g4, cell_low hb l g5⟩, Nat.lt_of_lt_of_le hqb hb.size, fun W hW => ?_⟩
  refine (did_any h.cat h.fit h.inv f1 f2 f3 hW).mono ?_
  rintro e w' ⟨y, v', Z', rfl, hN, hD⟩
  have hb' : Below w0.heap.size w0 w' := (hb.trans (hW.mono hb.size)).trans ((hN.out.under (h.cat.below hW) (Nat.le_trans h.fit hW.size)).mono h.low)
  refine ⟨y, v', Z', rfl, ⟨cell_low hb' l g0, cell_low hb' l g1, cell_low hb' l g2, cell_low hb' l g3, cell_low hb' l g4, cell_low hb' l g5⟩, Nat.lt_of_lt_of_le hqb hb'.size, fun x0 x1 x2 x3 x4 hx => ?_, hD⟩
  exact Next.cellAt (h.cat.below hW) hN.out hx (by decide) (by decide) (by decide)

end Go.Proofs.YtlpgdfdadkljfaaGreat.Cat
