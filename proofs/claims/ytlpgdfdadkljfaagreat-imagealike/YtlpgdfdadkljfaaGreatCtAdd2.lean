/-
  Add, walked: up to its fault, or to what it leaves behind.
-/
import Derived.Test.YtlpgdfdadkljfaaGreatCtAdd
import Derived.Test.YtlpgdfdadkljfaaGreatCtIns3
import Derived.Deep.RegionHeld
import Derived.Deep.RegionLaw
namespace Go.Proofs.YtlpgdfdadkljfaaGreat.Cat
open Go.RowKit Route Tree Order

/-- A world behind the two boxes that holds what stands there. -/
abbrev W2of (w : World) (k : Int) (nm pt : ByteArray) (ka : Option Addr) (kn kc : Nat) (m : Int) : World := (w.alloc (opBox k nm pt ka kn kc m)).alloc zero30

abbrev res0 (W : World) (r : Nat) : World := ((((W.setCell ⟨r, 0, none⟩ (.int .i64 0)).setCell ⟨r, 1, none⟩ (.int .i64 0)).setCell ⟨r, 2, none⟩ (.slice none 0 0)).setCell ⟨r, 3, none⟩ (.slice none 0 0)).setCell ⟨r, 4, none⟩ (.slice none 0 0)

def ResAt (W : World) (r : Nat) : Prop := (W.cell? ⟨r, 0, none⟩ = some (.int .i64 0) ∧ W.cell? ⟨r, 1, none⟩ = some (.int .i64 0) ∧ W.cell? ⟨r, 2, none⟩ = some (.slice none 0 0) ∧ W.cell? ⟨r, 3, none⟩ = some (.slice none 0 0) ∧ W.cell? ⟨r, 4, none⟩ = some (.slice none 0 0)) ∧ ∀ i, W.frozen? ⟨r, i, none⟩ = false

/-- The entry copied, put in, and stored: what stands then. -/
theorem add_pack {B p g cap i : Nat} {Z : List SZ} {w W : World} {pt : ByteArray} {sz : Int} {ka : Option Addr} {kn kc : Nat} {ks : List ByteArray} {ea : Option Addr} {ec at0 r : Nat} (h : Cat B p (.slice (some ⟨g, 0, none⟩) Z.length cap) Z w) (hB : B ≤ w.heap.size) (hi : i < Z.length) (hev : (szAt Z i).2.2.2.1 = .slice ea (szAt Z i).2.2.2.2.length ec) (hl : (szAt Z i).2.2.2.2.length + 1 ≤ 1000) (hat : at0 ≤ (szAt Z i).2.2.2.2.length)
    (hs : EShort (pt, sz, ks)) (hkn : kn = ks.length) (hk : Lies w ka ks) (hb : Below w.heap.size w W) (hr : w.heap.size ≤ r) (hrl : r < W.heap.size) (hres : ResAt W r) (hrT : ∃ cs, W.heap[r]? = some (.cells cs 31 (0, 0))) :
    Calls Tryz.prog 46 #[.agg #[.string pt, .int .i64 sz, .slice ka kn kc]] W fun e w' => ∃ a3 cap3, e = .returned (.agg #[.string pt, .int .i64 sz, .slice a3 kn cap3]) ∧ w'.cell? ⟨g, i * 4 + 3, none⟩ = some (.slice ea (szAt Z i).2.2.2.2.length ec) ∧ (w'.alloc (.cells #[.string pt, .int .i64 sz, .slice a3 kn cap3] 84)).cell? ⟨g, i * 4 + 3, none⟩ = some (.slice ea (szAt Z i).2.2.2.2.length ec) ∧
      Hid (Calls Tryz.prog 45 #[.slice ea (szAt Z i).2.2.2.2.length ec, .int .i64 (at0 : Int), .slice (some ⟨w'.heap.size, 0, none⟩) 1 1] (w'.alloc (.cells #[.string pt, .int .i64 sz, .slice a3 kn cap3] 84)) fun e w7 => ∃ a7 n7 cap7 o, e = .returned (.slice a7 n7 cap7) ∧ w7.cell? ⟨g, i * 4 + 3, none⟩ = some o ∧ w7.frozen? ⟨g, i * 4 + 3, none⟩ = false ∧
        Hid (Next B p (.slice (some ⟨g, 0, none⟩) Z.length cap) Z w (.slice (some ⟨g, 0, none⟩) Z.length cap) (Z.set i ((szAt Z i).1, (szAt Z i).2.1, (szAt Z i).2.2.1, .slice a7 n7 cap7, insY (szAt Z i).2.2.2.2 at0 ((pt, sz, ks), .slice a3 kn cap3))) (res0 (w7.setCell ⟨g, i * 4 + 3, none⟩ (.slice a7 n7 cap7)) r)) ∧
        Hid (ResAt (w7.setCell ⟨g, i * 4 + 3, none⟩ (.slice a7 n7 cap7)) r)) := by
  refine (copyEntry_any pt sz ka kn kc ks W hs hkn (hk.below hb (Nat.le_refl _))).mono ?_
  rintro e w' ⟨v3, rfl, hst⟩
  obtain ⟨a3, cap3, rfl, _⟩ := hst.liesN hkn
  have hbw : Below w.heap.size w w' := hb.trans (hst.2.1.mono hb.size)
  have hba : Below w'.heap.size w' (w'.alloc (.cells #[.string pt, .int .i64 sz, .slice a3 kn cap3] 84)) := (Below.refl _ _).alloc (Nat.le_refl _) _
  have hbw6 : Below w.heap.size w (w'.alloc (.cells #[.string pt, .int .i64 sz, .slice a3 kn cap3] 84)) := hbw.trans (hba.mono hbw.size)
  have hcell : w.cell? ⟨g, i * 4 + 3, none⟩ = some (.slice ea (szAt Z i).2.2.2.2.length ec) := by
    have h3 := (h.row.cellAt (i * 4 + 3) (by omega)).trans (scells_at Z i 3 hi (by decide))
    have e3 : (encS (szAt Z i))[3]? = some (szAt Z i).2.2.2.1 := by simp [encS, fix_own (h.ents _ (sz_mem hi)).1]
    rw [e3, hev] at h3
    exact h3
  refine ⟨a3, cap3, rfl, cell_kept hbw hcell, cell_kept hbw6 hcell, ?_⟩
  have hc6 := h.below hbw6
  have hei := (hc6.ents _ (sz_mem hi))
  have hvb : (szAt Z i).2.2.2.1.ownBlock ≠ some w'.heap.size := fun e => by
    have h1 := ((h.below hbw).ents _ (sz_mem hi)).1.lt _ e
    omega
  have hins := insert_any (vb := w'.heap.size) (i := at0) (y := ((pt, sz, ks), .slice a3 kn cap3)) hei.1 (Nat.le_trans hB hbw6.size) hat (by omega) rfl (by exact heap_alloc_new w' _) hvb
  rw [hev] at hins
  refine hins.mono ?_
  rintro e w7 ⟨v7, rfl, ho7, hg7, hat7⟩
  have hinl : (insY (szAt Z i).2.2.2.2 at0 ((pt, sz, ks), Value.slice a3 kn cap3)).length = (szAt Z i).2.2.2.2.length + 1 := by simp [insY]; omega
  rw [← hinl] at ho7
  rw [← hev] at hg7 hat7
  have hkk : ∀ y ∈ insY (szAt Z i).2.2.2.2 at0 ((pt, sz, ks), Value.slice a3 kn cap3), KeyRow B w7 y := fun y hy => by
    have hk6 : KeyRow B (w'.alloc (.cells #[.string pt, .int .i64 sz, .slice a3 kn cap3] 84)) y := by
      unfold insY at hy
      rcases List.mem_append.1 hy with hy | hy
      · exact hei.2 y (List.mem_of_mem_take hy)
      · rcases List.mem_cons.1 hy with rfl | hy
        · exact own_any (own30_later hst.1 hba) (Nat.le_trans hB hb.size)
        · exact hei.2 y (List.mem_of_mem_drop hy)
    exact World.ownsRow.kept hk6 hg7 (kinds hei.1 hk6 (by decide))
  obtain ⟨a7, cap7, e7, _⟩ := erow_lies ho7 hkk
  generalize hn7 : (insY (szAt Z i).2.2.2.2 at0 ((pt, sz, ks), Value.slice a3 kn cap3)).length = n7 at e7
  subst e7
  obtain ⟨hnx, hgg⟩ := next_ins h hi hbw6 ho7 hkk hg7 (fun k hk => by
    rcases hat7 with e | e
    · exact .inl (by rw [← e]; exact hk)
    · rw [e] at hk; simp at hk; have := hbw.size; exact .inr (by omega)) (fun y hy k hk => by
    unfold insY at hy
    rcases List.mem_append.1 hy with hy | hy
    · exact .inl ⟨y, List.mem_of_mem_take hy, hk⟩
    · rcases List.mem_cons.1 hy with rfl | hy
      · have := (hst.1.lt k hk).1; have := hb.size; exact .inr (by omega)
      · exact .inl ⟨y, List.mem_of_mem_drop hy, hk⟩)
  obtain ⟨cur, hgc⟩ := own_block h.row (rfl : (Value.slice (some ⟨g, 0, none⟩) Z.length cap).ownBlock = some g)
  have hg7c := hgg.trans hgc
  have hgn : g ≠ r := fun e => by
    have : g < w.heap.size := (Array.getElem?_eq_some_iff.1 hgc).1
    omega
  have hrw : w7.heap[r]? = W.heap[r]? := by
    refine (hg7.block r (Nat.lt_of_lt_of_le hrl (Nat.le_trans hst.2.1.size hba.size)) fun e => ?_).trans ((hba.block r (Nat.lt_of_lt_of_le hrl hst.2.1.size)).trans (hst.2.1.block r hrl))
    have := ((h.ents _ (sz_mem hi)).1.lt _ e.symm).2
    omega
  have hrs : (w7.setCell ⟨g, i * 4 + 3, none⟩ (.slice a7 n7 cap7)).heap[r]? = W.heap[r]? := (heap_setCell.1 _ (Ne.symm hgn)).trans hrw
  have hc5 : ∀ j, (w7.setCell ⟨g, i * 4 + 3, none⟩ (.slice a7 n7 cap7)).cell? ⟨r, j, none⟩ = W.cell? ⟨r, j, none⟩ := fun j => World.cell?_of_block (w := W) (a := ⟨r, j, none⟩) hrs
  have hf5 : ∀ j, (w7.setCell ⟨g, i * 4 + 3, none⟩ (.slice a7 n7 cap7)).frozen? ⟨r, j, none⟩ = W.frozen? ⟨r, j, none⟩ := fun j => World.frozen?_of_block (w := W) (a := ⟨r, j, none⟩) hrs
  obtain ⟨cs, hcs⟩ := hrT
  refine ⟨a7, n7, cap7, _, rfl, (World.cell?_of_block (w := w) (a := ⟨g, i * 4 + 3, none⟩) hgg).trans hcell, frozen_of_row w7 g _ _ _ hg7c, hnx.res5 (hrs.trans hcs) hr, ⟨by rw [hc5]; exact hres.1.1, by rw [hc5]; exact hres.1.2.1, by rw [hc5]; exact hres.1.2.2.1, by rw [hc5]; exact hres.1.2.2.2.1, by rw [hc5]; exact hres.1.2.2.2.2⟩, fun j => by rw [hf5]; exact hres.2 j⟩
end Go.Proofs.YtlpgdfdadkljfaaGreat.Cat
