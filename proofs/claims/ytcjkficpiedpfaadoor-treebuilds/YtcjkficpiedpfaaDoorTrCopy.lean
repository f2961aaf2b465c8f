/-
  An entry in new memory: the program's 'copyOf'.
-/
import Derived.Test.YtcjkficpiedpfaaDoorTrCheck2
import Derived.Deep.RegionWith
namespace Go.Proofs.YtcjkficpiedpfaaDoor.Tree
open Go.RowKit Route Chunk

theorem own_far {w : World} {B g i : Nat} {x v : Value} {n : Nat} {xs : List Value} (h : w.ownsRow B 9 1 v n xs) (hg : g < B) : (w.setCell ⟨g, i, none⟩ x).ownsRow B 9 1 v n xs := by
  refine ⟨h.1, h.2.imp id fun ⟨g', cap, cur, h1, h2, h3, h4⟩ => ⟨g', cap, cur, h1, h2, ?_, h4⟩⟩
  rw [← h3, World.setCell]
  simp [Array.getElem?_modify, show g ≠ g' by omega]

/-- What lies ahead of a world stays in it where nothing below has turned. -/
theorem cell_kept {W wr : World} (hb : Below W.heap.size W wr) {x : Addr} {v : Value} (h : W.cell? x = some v) : wr.cell? x = some v := cell_below hb (Nat.le_refl _) h

set_option maxHeartbeats 4000000 in
set_option maxRecDepth 100000 in
theorem copyOf_any (p : ByteArray) (sz : Int) (ka : Option Addr) (kn kc : Nat) (ks : List ByteArray) (w : World) (hps : p.size ≤ 100000) (hkn : kn = ks.length) (hk : Lies w ka ks) (hkm : kn ≤ 1000000) (hks : ∀ j, j < kn → (ks.getD j ByteArray.empty).size ≤ 1000000) :
    Calls Tryd.prog 28 #[.agg #[.string p, .int .i64 sz, .slice ka kn kc]] w fun e w' => ∃ v, e = .returned (.agg #[.string p, .int .i64 sz, v]) ∧ Strs w.heap.size v ks w w' := by
  have HK : Hid (Lies w ka ks) := hk
  have HN : Hid (kn = ks.length) := hkn
  have hcl : Hid (∀ j, j < kn → ∀ W, Calls Tryd.prog 30 #[.string (ks.getD j ByteArray.empty)] W fun e w' => e = .returned (.string (ks.getD j ByteArray.empty)) ∧ Below W.heap.size W w') := fun j hj W => Chunk.clone_any _ W (by have := hks j hj; omega)
  have hcp : Hid (∀ W, Calls Tryd.prog 30 #[.string p] W fun e w' => e = .returned (.string p) ∧ Below W.heap.size W w') := fun W => Chunk.clone_any p W (by omega)
  obtain ⟨W2, hW2⟩ : ∃ W2, W2 = (w.alloc (.cells #[.string p, .int .i64 sz, .slice ka kn kc] 30)).alloc (.cells #[.string ⟨#[]⟩, .int .i64 0, .slice none 0 0] 30) := ⟨_, rfl⟩
  have HW : Hid (W2 = (w.alloc (.cells #[.string p, .int .i64 sz, .slice ka kn kc] 30)).alloc (.cells #[.string ⟨#[]⟩, .int .i64 0, .slice none 0 0] 30)) := hW2
  have HB0 : Hid (Below w.heap.size w W2) := by rw [hW2]; exact ((Below.refl _ _).alloc (Nat.le_refl _) _).alloc (by simp) _
  have HS : Hid (W2.heap.size = w.heap.size + 2) := by rw [hW2]; show _ = _; simp
  have HC : Hid (∀ wr, Below W2.heap.size W2 wr → (wr.cell? ⟨w.heap.size, 0, none⟩ = some (.string p) ∧ wr.cell? ⟨w.heap.size, 1, none⟩ = some (.int .i64 sz) ∧ wr.cell? ⟨w.heap.size, 2, none⟩ = some (.slice ka kn kc)) ∧
      (wr.cell? ⟨w.heap.size + 1, 0, none⟩ = some (.string ⟨#[]⟩) ∧ wr.cell? ⟨w.heap.size + 1, 1, none⟩ = some (.int .i64 0) ∧ wr.cell? ⟨w.heap.size + 1, 2, none⟩ = some (.slice none 0 0)) ∧
      wr.frozen? ⟨w.heap.size + 1, 0, none⟩ = false ∧ wr.frozen? ⟨w.heap.size + 1, 1, none⟩ = false ∧ wr.frozen? ⟨w.heap.size + 1, 2, none⟩ = false) := by
    intro wr hb
    refine ⟨⟨cell_kept hb ?_, cell_kept hb ?_, cell_kept hb ?_⟩, ⟨cell_kept hb ?_, cell_kept hb ?_, cell_kept hb ?_⟩, ?_, ?_, ?_⟩
    · rw [hW2]; simp
    · rw [hW2]; simp
    · rw [hW2]; simp
    · rw [hW2]; simp
    · rw [hW2]; simp
    · rw [hW2]; simp
    all_goals
      rw [hb.frozen (show w.heap.size + 1 < _ by have := HS.out; omega), hW2]
      exact World.frozen?_alloc_at _ _ _ _ (by simp)
  clear hps hkn hk hks hW2
  go_enter Tryd.func28, Tryd.ntmps28
  go_wp2
  rw [← HW.out]
  go_loopw [3, 5, 9] (fun t3 _ t9 wr => ∃ i : Nat, t9 = .int .i64 (i : Int) ∧ i ≤ kn ∧ Strs W2.heap.size t3 (ks.take i) W2 wr) (fun _ _ t9 _ => kn - (intOf t9).toNat)
  case atStart => exact ⟨0, rfl, Nat.zero_le _, by rw [List.take_zero]; exact Strs.nil W2⟩
  case round =>
    obtain ⟨i, rfl, hi, hst⟩ := hrel
    by_cases hin : i < kn
    · obtain ⟨x, hx, hc⟩ := (HK.out.below (HB0.out.trans (hst.2.1.mono (by have := HS.out; omega))) (Nat.le_refl _)).cellAt (j := i) (by rw [← HN.out]; exact hin)
      subst hx
      have hcc := hcl.out i hin
      have HT : Hid (ks.take (i + 1) = ks.take i ++ [ks.getD i ByteArray.empty]) := by
        show _ = _
        rw [List.take_succ_eq_append_getElem (by rw [← HN.out]; exact hin)]
        simp [List.getD_eq_getElem?_getD, show i < ks.length by rw [← HN.out]; exact hin]
      have HTL : Hid ((ks.take i).length ≤ 1000000) := by show _ ≤ _; rw [List.length_take]; omega
      generalize ks.getD i ByteArray.empty = k at hc hcc HT
      generalize ks.take i = d at hst HT HTL
      go_wp2_with (first
        | (go_at_call 30; refine (hcc _).mono ?_; rintro e w3 ⟨rfl, hb3⟩)
        | (at_builtin; refine wpList_str rfl (.tmp 13) (.tmp 16) rfl W2.heap.size _ d rfl W2 w3 k (hst.later hb3) rfl (by have := HTL.out; omega) ?_; intro v' w4 hb4))
      go_roundw
      case rel => exact ⟨i + 1, by go_num, by omega, by rw [HT.out]; exact hb4⟩
      case measure => simp [intOf]; omega
    · have hst' : Strs W2.heap.size u3 ks W2 wr := by rw [List.take_of_length_le (by rw [← HN.out]; omega)] at hst; exact hst
      obtain ⟨⟨c0, c1, c2⟩, ⟨d0, d1, d2⟩, f0, f1, f2⟩ := HC.out wr hst.2.1
      clear hst
      obtain ⟨a3, cap3, rfl, _, _, _⟩ := hst'.liesN HN.out
      have HQ : Hid (Calls Tryd.prog 30 #[.string p] wr.drew fun e w' => e = .returned (.string p) ∧ Strs W2.heap.size (.slice a3 kn cap3) ks W2 w') := by
        refine (hcp.out wr.drew).mono ?_
        rintro e w' ⟨rfl, hb⟩
        exact ⟨rfl, (hst'.later ((Below.refl _ _).drew)).later hb⟩
      clear hst'
      go_wp2_with fail
      go_region_with (first | (go_at_call 30; refine HQ.out.mono ?_; rintro e w3 ⟨rfl, hs3⟩; obtain ⟨⟨c0', c1', c2'⟩, ⟨d0', d1', d2'⟩, f0', f1', f2'⟩ := HC.out w3 hs3.2.1))
      all_goals
        have HO : Hid (Strs W2.heap.size (.slice a3 kn cap3) ks W2 w3) := hs3
        have hsz := HS.out
        go_wp2
        refine bodyPost_ret (v := .agg #[.string p, .int .i64 sz, .slice a3 kn cap3]) (by simp [results, Tryd.results28, go_sem, d0', d1', d2']) rfl ?_
        refine ⟨_, rfl, ?_⟩
        have hown := own_far (i := 2) (x := .slice a3 kn cap3) (own_far (i := 1) (x := .int .i64 sz) (own_far (i := 0) (x := .string p) HO.out.1 (show w.heap.size + 1 < _ by omega)) (show w.heap.size + 1 < _ by omega)) (show w.heap.size + 1 < _ by omega)
        refine ⟨own_mono hown (by omega), ?_, ?_⟩
        · exact (((HB0.out.trans (HO.out.2.1.mono (by omega))).setCell (show w.heap.size ≤ w.heap.size + 1 by omega) _).setCell (show w.heap.size ≤ w.heap.size + 1 by omega) _).setCell (show w.heap.size ≤ w.heap.size + 1 by omega) _
        · have := HO.out.2.1.size
          simp
          omega
end Go.Proofs.YtcjkficpiedpfaaDoor.Tree
