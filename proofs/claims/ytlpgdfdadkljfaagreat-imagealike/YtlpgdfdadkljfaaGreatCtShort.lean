/-
  Scripts of deeds in memory; the laws' Short.
-/
import Derived.Test.YtlpgdfdadkljfaaGreatMgD
import Derived.Test.YtlpgdfdadkljfaaGreatCtFull
namespace Go.Proofs.YtlpgdfdadkljfaaGreat.Cat
open Go.RowKit Route Tree Order

def noRq : Rq := ⟨0, 1, 0, 0, ByteArray.empty, ByteArray.empty, []⟩
def rqAt (L : List Rq) (j : Nat) : Rq := L.getD j noRq

/-- At the place p a deed lies. -/
def DeedAt (w : World) (p : Addr) (r : Rq) : Prop :=
  ∃ ka kc, w.cell? p = some (.int .i64 r.c) ∧ w.cell? ⟨p.block, p.off + 1, none⟩ = some (.int .i64 r.k) ∧ w.cell? ⟨p.block, p.off + 1 + 1, none⟩ = some (.string r.nm) ∧ w.cell? ⟨p.block, p.off + 1 + 2, none⟩ = some (.string r.pt) ∧ w.cell? ⟨p.block, p.off + 1 + 3, none⟩ = some (.slice ka r.ks.length kc) ∧ w.cell? ⟨p.block, p.off + 1 + 4, none⟩ = some (.int .i64 r.n) ∧ ReqAt w ka r.ks.length kc r ∧ r.t = 1
/-- At the address deeds lie. -/
def DeedsIn (w : World) (a : Option Addr) (L : List Rq) : Prop := L = [] ∨ ∃ x, a = some x ∧ ∀ j, j < L.length → DeedAt w (x.add (j * 6)) (rqAt L j)

theorem cell_low {B : Nat} {w w' : World} {x : Addr} {v : Value} (hb : Below B w w') (hB : w.heap.size ≤ B) (h : w.cell? x = some v) : w'.cell? x = some v := by
  rw [hb.cell (by have := World.block_lt_of_cell? w _ h; omega)]; exact h

theorem DeedAt.below {w w' : World} {p : Addr} {r : Rq} (h : DeedAt w p r) (hb : Below w.heap.size w w') : DeedAt w' p r := by
  obtain ⟨ka, kc, h0, h1, h2, h3, h4, h5, h6, h7⟩ := h
  have l := Nat.le_refl w.heap.size
  exact ⟨ka, kc, cell_low hb l h0, cell_low hb l h1, cell_low hb l h2, cell_low hb l h3, cell_low hb l h4, cell_low hb l h5, h6.below hb, h7⟩

theorem DeedsIn.below {w w' : World} {a : Option Addr} {L : List Rq} (h : DeedsIn w a L) (hb : Below w.heap.size w w') : DeedsIn w' a L := by
  rcases h with h | ⟨x, rfl, h⟩
  · exact .inl h
  · exact .inr ⟨x, rfl, fun j hj => (h j hj).below hb⟩

theorem DeedsIn.at {w : World} {a : Option Addr} {L : List Rq} (h : DeedsIn w a L) {j : Nat} (hj : j < L.length) : ∃ x, a = some x ∧ DeedAt w (x.add (j * 6)) (rqAt L j) := by
  rcases h with rfl | ⟨x, rfl, h⟩
  · simp at hj
  · exact ⟨x, rfl, h j hj⟩

set_option maxRecDepth 100000 in
theorem index_deed (x : Addr) (n cap i : Nat) (hi : i < n) (w : World) : (Instr.indexAt 22 (.slice (some x) n cap) (.int .i64 (i : Int))).run Tryz.prog w = .ok (.pointer (some (x.add (i * 6)))) w := by
  rw [run_indexAt_slice w 22 x n cap .i64 i (by kernel_rfl), if_pos (by omega)]
  rfl

/-- What Short tells. -/
def ShD (n : Nat) (L : List Rq) (w : World) (e : Ending) (w' : World) : Prop := ∃ b, e = .returned (.bool b) ∧ Hid ((b = true → ∀ j, j < n → j < 80 → ShortR (rqAt L j)) ∧ Below w.heap.size w w')

set_option maxHeartbeats 4000000 in
set_option maxRecDepth 100000 in
theorem shortD_any (a : Option Addr) (n cap : Nat) (L : List Rq) (w : World) (hn : n = L.length) (hl : DeedsIn w a L) (_ : n ≤ 9223372036854775807) :
    Calls Tryz.prog 7 #[.slice a n cap] w (ShD n L w) := by
  have HN : Hid (n = L.length) := hn
  have HL : Hid (DeedsIn w a L) := hl
  clear hn hl
  go_enter Tryz.func7, Tryz.ntmps7
  go_wp2
  go_loopw [2, 3, 4] (fun t2 t3 _ wr => ∃ i : Nat, t2 = .bool false ∧ t3 = .int .i64 (i : Int) ∧ i ≤ n ∧ Hid (∀ j, j < i → ShortR (rqAt L j)) ∧ Hid (Below w.heap.size w wr)) (fun _ t3 _ _ => n - (intOf t3).toNat)
  case atStart => exact ⟨0, rfl, rfl, Nat.zero_le _, fun j hj => by omega, Below.refl _ _⟩
  case round =>
    obtain ⟨i, rfl, rfl, hi, HI, HB⟩ := hrel
    by_cases hin : i < n
    · by_cases hi80 : i < 80
      · obtain ⟨x, hx, ka, kc, g0, g1, g2, g3, g4, g5, hr, ht⟩ := (HL.out.below HB.out).at (j := i) (by rw [← HN.out]; exact hin)
        subst hx
        have HS : Hid (Calls _ _ _ _ _) := Order.short_any (rqAt L i) ka _ kc wr hr
        have HE : Hid (∀ j, j < i → ShortR (rqAt L j)) := HI
        generalize hq : rqAt L i = r at *
        obtain ⟨c, t, k, m, nm, pt, ks⟩ := r
        have HQ : Hid (rqAt L i = _) := hq
        have hix := index_deed x n cap i hin
        simp only at g0 g1 g2 g3 g4 g5 HS
        generalize ks.length = kn at g4 HS
        generalize x.add (i * 6) = q at g0 g1 g2 g3 g4 g5 hix
        clear hq hr ht
        go_wp2_with fail
        refine HS.out.mono ?_
        rintro e w1 ⟨b, rfl, H1⟩
        have HB1 : Hid (Below w.heap.size w w1) := HB.out.trans (H1.out.2.mono HB.out.size)
        clear HS g0 g1 g2 g3 g4 g5
        cases b
        · go_wp2
          go_ret
          exact ⟨_, rfl, fun e => (by cases e), HB1.out⟩
        · go_wp2
          go_roundw
          case rel => exact ⟨i + 1, rfl, by go_num, by omega, (by
            intro j hj
            by_cases e : j = i
            · subst e; rw [HQ.out]; exact H1.out.1 (by simp)
            · exact HE.out j (by omega)), HB1.out⟩
          case measure => simp [intOf]; omega
      · go_wp2
        go_ret
        exact ⟨_, rfl, fun _ j _ hj => HI.out j (by omega), HB.out⟩
    · go_wp2
      go_ret
      exact ⟨_, rfl, fun _ j hj _ => HI.out j (by omega), HB.out⟩

end Go.Proofs.YtlpgdfdadkljfaaGreat.Cat
