/-
  A snapshot in new memory.
-/
import Derived.Test.YtlpgdfdadkljfaaMgF
import Derived.Deep.RegionHeld
namespace Go.Proofs.Ytlpgdfdadkljfaa.Cat
open Go.RowKit Route Tree

/-- Entries that are owned, the world aside. -/
def EOwn (B : Nat) (v : Value) (Y : List (Ent × Value)) (w : World) : Prop := w.ownsRow B 57 3 v Y.length (cellsOf Y) ∧ ∀ y ∈ Y, KeyRow B w y
theorem EOwn.far {B : Nat} {v : Value} {Y : List (Ent × Value)} {w : World} (h : EOwn B v Y w) {g i : Nat} (hg : g < B) (x : Value) : EOwn B v Y (w.setCell ⟨g, i, none⟩ x) :=
  ⟨ownsRow_setCell_below h.1 (a := ⟨g, i, none⟩) hg x, fun y hy => ownsRow_setCell_below (h.2 y hy) (a := ⟨g, i, none⟩) hg x⟩

set_option maxHeartbeats 8000000 in
set_option maxRecDepth 100000 in
theorem copySnap_any (c : Int) (nm : ByteArray) (d : Bool) (ea : Option Addr) (en ec : Nat) (E : List Ent) (w : World) (hs : SShort (c, nm, d, E)) (hen : en = E.length) (hl : LiesE w ea E) :
    Calls Try.prog 24 #[.agg #[.int .i64 c, .string nm, .bool d, .slice ea en ec]] w fun e w' => ∃ v Y, e = .returned (.agg #[.int .i64 c, .string nm, .bool d, v]) ∧ Y.map (·.1) = E ∧ Ents w.heap.size v Y w w' := by
  obtain ⟨hps, hkm, hks⟩ := hs
  simp only at hps hkm hks
  obtain ⟨W2, hW2⟩ : ∃ W2, W2 = (w.alloc (.cells #[.int .i64 c, .string nm, .bool d, .slice ea en ec] 52)).alloc (.cells #[.int .i64 0, .string ⟨#[]⟩, .bool false, .slice none 0 0] 52) := ⟨_, rfl⟩
  have HW : Hid (W2 = (w.alloc (.cells #[.int .i64 c, .string nm, .bool d, .slice ea en ec] 52)).alloc (.cells #[.int .i64 0, .string ⟨#[]⟩, .bool false, .slice none 0 0] 52)) := hW2
  have HB0 : Hid (Below w.heap.size w W2) := by rw [hW2]; exact ((Below.refl _ _).alloc (Nat.le_refl _) _).alloc (by simp) _
  have HS : Hid (W2.heap.size = w.heap.size + 2) := by rw [hW2]; show _ = _; simp
  have HC : Hid (∀ wr, Below W2.heap.size W2 wr →
      (wr.cell? ⟨w.heap.size + 1, 0, none⟩ = some (.int .i64 0) ∧ wr.cell? ⟨w.heap.size + 1, 1, none⟩ = some (.string ⟨#[]⟩) ∧ wr.cell? ⟨w.heap.size + 1, 2, none⟩ = some (.bool false) ∧ wr.cell? ⟨w.heap.size + 1, 3, none⟩ = some (.slice none 0 0)) ∧
      wr.frozen? ⟨w.heap.size + 1, 0, none⟩ = false ∧ wr.frozen? ⟨w.heap.size + 1, 1, none⟩ = false ∧ wr.frozen? ⟨w.heap.size + 1, 2, none⟩ = false ∧ wr.frozen? ⟨w.heap.size + 1, 3, none⟩ = false) := by
    intro wr hb
    refine ⟨⟨cell_kept hb ?_, cell_kept hb ?_, cell_kept hb ?_, cell_kept hb ?_⟩, ?_, ?_, ?_, ?_⟩
    · rw [hW2]; simp
    · rw [hW2]; simp
    · rw [hW2]; simp
    · rw [hW2]; simp
    all_goals
      rw [hb.frozen (show w.heap.size + 1 < _ by have := HS.out; omega), hW2]
      exact World.frozen?_alloc_at _ _ _ _ (by simp)
  have h20 : W2.cell? ⟨w.heap.size, 0, none⟩ = some (.int .i64 c) := by rw [hW2]; simp
  have h21 : W2.cell? ⟨w.heap.size, 1, none⟩ = some (.string nm) := by rw [hW2]; simp
  have h22 : W2.cell? ⟨w.heap.size, 2, none⟩ = some (.bool d) := by rw [hW2]; simp
  have h23 : W2.cell? ⟨w.heap.size, 3, none⟩ = some (.slice ea en ec) := by rw [hW2]; simp
  have HSS : Hid (∀ W, Below W2.heap.size W2 W → (W.cell? ⟨w.heap.size, 0, none⟩ = some (.int .i64 c) ∧ W.cell? ⟨w.heap.size, 1, none⟩ = some (.string nm) ∧ W.cell? ⟨w.heap.size, 2, none⟩ = some (.bool d) ∧ W.cell? ⟨w.heap.size, 3, none⟩ = some (.slice ea en ec))) := fun W hb => ⟨cell_kept hb h20, cell_kept hb h21, cell_kept hb h22, cell_kept hb h23⟩
  have HQ : Hid (∀ W, Below W2.heap.size W2 W → Calls Try.prog 43 #[.slice ea en ec] W fun e w' => ∃ a3 cap3 Y, e = .returned (.slice a3 en cap3) ∧ (w'.cell? ⟨w.heap.size, 0, none⟩ = some (.int .i64 c) ∧ w'.cell? ⟨w.heap.size, 1, none⟩ = some (.string nm) ∧ w'.cell? ⟨w.heap.size, 2, none⟩ = some (.bool d) ∧ w'.cell? ⟨w.heap.size, 3, none⟩ = some (.slice ea en ec)) ∧ Hid (Y.map (·.1) = E) ∧ Hid (Ents W2.heap.size (.slice a3 en cap3) Y W2 w')) := by
    intro W hb
    have hbw := HB0.out.trans (hb.mono (by have := HS.out; omega))
    refine (copyEntries_any ea en ec E W hen (hl.below hbw (Nat.le_refl _)) (by omega) hks).mono ?_
    rintro e w' ⟨v, Y, rfl, hY, hst⟩
    have hyn : en = Y.length := by rw [hen, ← hY, List.length_map]
    obtain ⟨a3, cap3, rfl, _, _⟩ := hst.liesN hyn
    exact ⟨a3, cap3, Y, rfl, HSS.out w' (hb.trans (hst.2.1.mono hb.size)), hY, own_any hst.1 hb.size, hb.trans (hst.2.1.mono hb.size), Nat.le_trans hb.size hst.2.2.1, fun y hy => own_any (hst.2.2.2 y hy) hb.size⟩
  have HP : Hid (∀ W, Below W2.heap.size W2 W → Calls Try.prog 42 #[.string nm] W fun e w' => e = .returned (.string nm) ∧ (w'.cell? ⟨w.heap.size, 0, none⟩ = some (.int .i64 c) ∧ w'.cell? ⟨w.heap.size, 1, none⟩ = some (.string nm) ∧ w'.cell? ⟨w.heap.size, 2, none⟩ = some (.bool d) ∧ w'.cell? ⟨w.heap.size, 3, none⟩ = some (.slice ea en ec)) ∧ Hid (Below W.heap.size W w') ∧ Hid (Below W2.heap.size W2 w')) := by
    intro W hb
    refine (Route.clone_any nm W (by omega)).mono ?_
    rintro e w' ⟨rfl, h⟩
    exact ⟨rfl, HSS.out w' (hb.trans (h.mono hb.size)), h, hb.trans (h.mono hb.size)⟩
  clear hps hkm hks hen hl hW2 h20 h21 h22 h23
  have hne : w.heap.size + 1 ≠ w.heap.size := by omega
  go_enter Try.func24, Try.ntmps24
  go_wp2_with fail
  rw [← HW.out]
  obtain ⟨p0, p1, p2, p3⟩ := HSS.out W2 (Below.refl _ _)
  go_region_held (fun W => (W.cell? ⟨w.heap.size, 0, none⟩ = some (.int .i64 c) ∧ W.cell? ⟨w.heap.size, 1, none⟩ = some (.string nm) ∧ W.cell? ⟨w.heap.size, 2, none⟩ = some (.bool d) ∧ W.cell? ⟨w.heap.size, 3, none⟩ = some (.slice ea en ec)))
    (first | assumption | exact ⟨p0, p1, p2, p3⟩ | (refine ⟨?_, ?_, ?_, ?_⟩ <;> (rw [World.cell?_setCell_far _ _ _ _ hne, World.cell?_setCell_far _ _ _ _ hne, World.cell?_setCell_far _ _ _ _ hne, World.cell?_setCell_far _ _ _ _ hne]; first | exact hb3.1 | exact hb3.2.1 | exact hb3.2.2.1 | exact hb3.2.2.2 | exact hb4.1 | exact hb4.2.1 | exact hb4.2.2.1 | exact hb4.2.2.2)))
    (first
      | (go_at_call 42; refine (HP.out _ (by first | exact hs3.out.2.1 | exact (Below.refl _ _).drew)).mono ?_; rintro e w4 ⟨rfl, hb4, hc4, hB4⟩; obtain ⟨⟨e0, e1, e2, e3⟩, r0, r1, r2, r3⟩ := HC.out w4 hB4.out)
      | (go_at_call 43; refine (HQ.out _ (by first | exact hB4.out | exact (Below.refl _ _).drew)).mono ?_; rintro e w3 ⟨a3, cap3, Y, rfl, hb3, hY, hs3⟩; obtain ⟨⟨z0, z1, z2, z3⟩, v0, v1, v2, v3⟩ := HC.out w3 hs3.out.2.1))
  all_goals first
    | (have HO : Hid (Ents W2.heap.size (.slice a3 en cap3) Y W2 w4) := hs3.out.later hc4.out
       obtain ⟨⟨d0, d1, d2, d3⟩, f0, f1, f2, f3⟩ := HC.out _ HO.out.2.1
       have hsz := HS.out
       have HYY : Hid (Y.map (·.1) = E) := hY
       clear hb3 hb4 hc4 hs3 hY
       go_wp2
       refine bodyPost_ret (v := .agg #[.int .i64 c, .string nm, .bool d, .slice a3 en cap3]) (by simp [results, Try.results24, go_sem, d0, d1, d2, d3]) rfl ?_
       refine ⟨_, Y, rfl, HYY.out, ?_⟩
       have hown := ((((show EOwn W2.heap.size (.slice a3 en cap3) Y _ from ⟨HO.out.1, HO.out.2.2.2⟩).far (g := w.heap.size + 1) (i := 0) (by omega) (.int .i64 c)).far (g := w.heap.size + 1) (i := 1) (by omega) (.string nm)).far (g := w.heap.size + 1) (i := 2) (by omega) (.bool d)).far (g := w.heap.size + 1) (i := 3) (by omega) (.slice a3 en cap3)
       refine ⟨own_any hown.1 (by omega), ?_, ?_, fun y hy => own_any (hown.2 y hy) (by omega)⟩
       · exact ((((HB0.out.trans (HO.out.2.1.mono (by omega))).setCell (show w.heap.size ≤ w.heap.size + 1 by omega) _).setCell (show w.heap.size ≤ w.heap.size + 1 by omega) _).setCell (show w.heap.size ≤ w.heap.size + 1 by omega) _).setCell (show w.heap.size ≤ w.heap.size + 1 by omega) _
       · have := HO.out.2.1.size
         simp
         omega)
    | (have HO : Hid (Ents W2.heap.size (.slice a3 en cap3) Y W2 w3) := hs3.out
       obtain ⟨⟨d0, d1, d2, d3⟩, f0, f1, f2, f3⟩ := HC.out _ HO.out.2.1
       have hsz := HS.out
       have HYY : Hid (Y.map (·.1) = E) := hY
       clear hb3 hb4 hc4 hs3 hY
       go_wp2
       refine bodyPost_ret (v := .agg #[.int .i64 c, .string nm, .bool d, .slice a3 en cap3]) (by simp [results, Try.results24, go_sem, d0, d1, d2, d3]) rfl ?_
       refine ⟨_, Y, rfl, HYY.out, ?_⟩
       have hown := ((((show EOwn W2.heap.size (.slice a3 en cap3) Y _ from ⟨HO.out.1, HO.out.2.2.2⟩).far (g := w.heap.size + 1) (i := 0) (by omega) (.int .i64 c)).far (g := w.heap.size + 1) (i := 1) (by omega) (.string nm)).far (g := w.heap.size + 1) (i := 2) (by omega) (.bool d)).far (g := w.heap.size + 1) (i := 3) (by omega) (.slice a3 en cap3)
       refine ⟨own_any hown.1 (by omega), ?_, ?_, fun y hy => own_any (hown.2 y hy) (by omega)⟩
       · exact ((((HB0.out.trans (HO.out.2.1.mono (by omega))).setCell (show w.heap.size ≤ w.heap.size + 1 by omega) _).setCell (show w.heap.size ≤ w.heap.size + 1 by omega) _).setCell (show w.heap.size ≤ w.heap.size + 1 by omega) _).setCell (show w.heap.size ≤ w.heap.size + 1 by omega) _
       · have := HO.out.2.1.size
         simp
         omega)
end Go.Proofs.Ytlpgdfdadkljfaa.Cat
