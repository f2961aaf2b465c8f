/-
  Commit, where it commits; what a look and a plan tell.
-/
import Derived.Test.YtlpgdfdadkljfaaGreatCtOps2
namespace Go.Proofs.YtlpgdfdadkljfaaGreat.Cat
open Go.RowKit Route Tree

/-- One snapshot's cell turned, in memory. -/
theorem next_cell {B p g cap i c : Nat} {Z : List SZ} {w : World} {z' : SZ} {u : Value} (h : Cat B p (.slice (some ⟨g, 0, none⟩) Z.length cap) Z w) (hi : i < Z.length) (hc : c < 4) (he : encS z' = (encS (szAt Z i)).set c u) (hz : ERow B w z') (ha : ∀ y ∈ Z, y ≠ szAt Z i → Apart y z' ∧ Apart z' y) (hz2 : z'.2.2.2.1.ownBlock = (szAt Z i).2.2.2.1.ownBlock) (hz3 : z'.2.2.2.2 = (szAt Z i).2.2.2.2) :
    Next B p (.slice (some ⟨g, 0, none⟩) Z.length cap) Z w (.slice (some ⟨g, 0, none⟩) Z.length cap) (Z.set i z') (w.setCell ⟨g, i * 4 + c, none⟩ u) := by
  obtain ⟨hst, hgr⟩ := h.row.stored (i * 4 + c) u
  obtain ⟨s1, s2, s3, s4, s5⟩ := heap_setCell (w := w) (r := g) (i := i * 4 + c) (x := u)
  have hgt : w.heap[g]? = w.heap[g]? := rfl
  have hgc : ∃ cur, w.heap[g]? = some (.cells cur 71 (0, 0)) := by
    rcases h.row.2 with ⟨e, _⟩ | ⟨g', cap', cur, e, _, hgg, _⟩
    · simp at e
    · simp at e; rw [e.1]; exact ⟨cur, hgg⟩
  obtain ⟨cur, hgc⟩ := hgc
  have hother : ∀ {e : TypeId} {s n : Nat} {v : Value} {us : List Value}, w.ownsRow B e s v n us → e ≠ 71 → (w.setCell ⟨g, i * 4 + c, none⟩ u).ownsRow B e s v n us := fun {e s n v us} h1 hte => by
    refine own_keep h1 fun k hk => s1 k fun e1 => ?_
    subst e1
    rcases h1.2 with ⟨rfl, _⟩ | ⟨g', cap', cur', rfl, _, hgg, _⟩
    · simp [Value.ownBlock] at hk
    · simp [Value.ownBlock] at hk
      subst hk
      rw [hgc] at hgg
      simp at hgg
      exact hte hgg.2.symm
  have hpg : p ≠ g := fun e => by
    have := h.box
    rw [e, hgc] at this
    simp at this
  have hmem : ∀ z ∈ Z.set i z', z = z' ∨ z ∈ Z := fun z hz => (List.mem_or_eq_of_mem_set hz).symm
  refine ⟨⟨by rw [s1 p hpg]; exact h.box, h.low, ?_, fun z hz' => ?_, ?_⟩, ⟨s3, s4, s5, by rw [s2]; exact Nat.le_refl _, fun k _ hn => s1 k fun e => hn (.inr (.inl (by rw [e]; rfl)))⟩, fun k hk => ?_, fun k ⟨z, hz', y, hy, hk⟩ => .inl (by
    rcases hmem z hz' with rfl | hz'
    · exact ⟨szAt Z i, sz_mem hi, y, by rw [← hz3]; exact hy, hk⟩
    · exact ⟨z, hz', y, hy, hk⟩)⟩
  · rw [List.length_set, scells_set Z i c z' u hi hc he]
    exact hst
  · rcases hmem z hz' with rfl | hz'
    · exact ⟨hother hz.1 (by decide), fun y hy => hother (hz.2 y hy) (by decide)⟩
    · exact ⟨hother (h.ents z hz').1 (by decide), fun y hy => hother ((h.ents z hz').2 y hy) (by decide)⟩
  · refine List.pairwise_iff_getElem.2 fun x y hx hy hxy => ?_
    have hxy' := List.pairwise_iff_getElem.1 h.apart x y (by simpa using hx) (by simpa using hy) hxy
    have hzi : szAt Z i = Z[i] := sz_at hi
    simp only [List.getElem_set]
    by_cases hx' : i = x
    · subst hx'
      rw [if_pos rfl, if_neg (by omega)]
      unfold Apart at *
      rw [hz2, hzi]; exact hxy'
    · rw [if_neg hx']
      by_cases hy' : i = y
      · subst hy'
        rw [if_pos rfl]
        unfold Apart at *
        rw [hz2, hzi]; exact hxy'
      · rw [if_neg hy']; exact hxy'
  · rcases hk with rfl | hk | ⟨z, hz', hk⟩
    · exact .inl (.inl rfl)
    · exact .inl (.inr (.inl hk))
    · rcases hmem z hz' with rfl | hz'
      · exact .inl (.inr (.inr ⟨szAt Z i, sz_mem hi, by rw [← hz2]; exact hk⟩))
      · exact .inl (.inr (.inr ⟨z, hz', hk⟩))

/-- Of a catalog with a snapshot: the block that its row lies in. -/
theorem Cat.form {B p : Nat} {v : Value} {Z : List SZ} {w : World} (h : Cat B p v Z w) (h0 : 0 < Z.length) : ∃ g cap, v = .slice (some ⟨g, 0, none⟩) Z.length cap ∧ Z.length ≤ cap ∧ cap ≤ maxLen ∧ g < w.heap.size := by
  rcases h.row.2 with ⟨_, e⟩ | ⟨g, cap, cur, e, _, hgg, h1, h2, _⟩
  · omega
  · exact ⟨g, cap, e, h1, h2, (Array.getElem?_eq_some_iff.1 hgg).1⟩

set_option maxHeartbeats 8000000 in
set_option maxRecDepth 100000 in
theorem commit_ok (B p : Nat) (v : Value) (Z : List SZ) (c : Int) (nm : ByteArray) (w : World) (h : Cat B p v Z w) (hp : (found c nm false (Z.map snapOf)).2 = 0) :
    Calls Tryz.prog 22 #[.pointer (some ⟨p, 0, none⟩), .int .i64 c, .string nm] w fun e w' => ∃ v' z', e = .returned (bareV 0 0) ∧ snapOf z' = (c, nm, true, (snapAt (Z.map snapOf) (found c nm false (Z.map snapOf)).1).2.2.2) ∧ Next B p v Z w v' (Z.set (found c nm false (Z.map snapOf)).1 z') w' := by
  obtain ⟨hpl, hdn⟩ := found_ok hp
  obtain ⟨hi, e1, e2, _⟩ := place_some hpl
  have HP : Hid (∀ a n cap, v = .slice a n cap → See p a n cap (Z.map snapOf) w → Calls Tryz.prog 39 #[.pointer (some ⟨p, 0, none⟩), .int .i64 c, .string nm, .bool false] (w.alloc zero30) fun e w' => e = .returned (.tuple #[.int .i64 ((found c nm false (Z.map snapOf)).1 : Nat), .int .i64 ((found c nm false (Z.map snapOf)).2 : Nat)]) ∧ Below (w.alloc zero30).heap.size (w.alloc zero30) w') := fun a n cap _ hs => find_any p a n cap _ c nm false (w.alloc zero30) (hs.below (Below.alloc (Below.refl _ _) (Nat.le_refl w.heap.size) zero30) (Nat.le_refl _))
  rw [hp] at HP
  generalize (found c nm false (Z.map snapOf)).1 = i at HP hi e1 e2 hdn ⊢
  rw [List.length_map] at hi
  have hsn := sz_snap (Z := Z) hi
  rw [hsn] at e1 e2 hdn ⊢
  obtain ⟨g, cap, rfl, hcap, hcm, hgw⟩ := h.form (by omega)
  obtain ⟨a, n, cap', ev, hs⟩ := h.see
  simp at ev
  obtain ⟨rfl, rfl, rfl⟩ := ev
  have HF : Hid (Calls _ _ _ _ _) := HP.out _ _ _ rfl hs
  have HH : Hid (Cat B p (.slice (some ⟨g, 0, none⟩) Z.length cap) Z w) := h
  have HI : Hid (i < Z.length) := hi
  have HZ : Hid (encS (c, nm, true, (szAt Z i).2.2.2.1, (szAt Z i).2.2.2.2) = (encS (szAt Z i)).set 2 (.bool true)) := by
    have a1 : (szAt Z i).1 = c := e1
    have a2 : (szAt Z i).2.1 = nm := e2
    show _ = _
    simp [encS, a1, a2]
  have HD : Hid (∀ W, Below (w.alloc zero30).heap.size (w.alloc zero30) W → (W.cell? ⟨p, 0, none⟩ = some (.slice (some ⟨g, 0, none⟩) Z.length cap) ∧ (∃ o, W.cell? ⟨g, i * 4 + 2, none⟩ = some o) ∧ W.frozen? ⟨g, i * 4 + 2, none⟩ = false) ∧
        Hid (Next B p (.slice (some ⟨g, 0, none⟩) Z.length cap) Z w (.slice (some ⟨g, 0, none⟩) Z.length cap) (Z.set i (c, nm, true, (szAt Z i).2.2.2.1, (szAt Z i).2.2.2.2)) (W.setCell ⟨g, i * 4 + 2, none⟩ (.bool true))) ∧
        Hid (((W.setCell ⟨g, i * 4 + 2, none⟩ (.bool true)).cell? ⟨w.heap.size, 0, none⟩ = some (.int .i64 0) ∧ (W.setCell ⟨g, i * 4 + 2, none⟩ (.bool true)).cell? ⟨w.heap.size, 1, none⟩ = some (.int .i64 0) ∧ (W.setCell ⟨g, i * 4 + 2, none⟩ (.bool true)).cell? ⟨w.heap.size, 2, none⟩ = some (.slice none 0 0) ∧ (W.setCell ⟨g, i * 4 + 2, none⟩ (.bool true)).cell? ⟨w.heap.size, 3, none⟩ = some (.slice none 0 0) ∧ (W.setCell ⟨g, i * 4 + 2, none⟩ (.bool true)).cell? ⟨w.heap.size, 4, none⟩ = some (.slice none 0 0)) ∧
          (∀ j, (W.setCell ⟨g, i * 4 + 2, none⟩ (.bool true)).frozen? ⟨w.heap.size, j, none⟩ = false) ∧ ∃ cs, (W.setCell ⟨g, i * 4 + 2, none⟩ (.bool true)).heap[w.heap.size]? = some (.cells cs 31 (0, 0)))) := by
    intro W hb'
    obtain ⟨hd, hf, hbw, hlt, hcs⟩ := res_box hb'
    have hcW := HH.out.below hbw
    have hcell := hcW.row.cellAt (i * 4 + 2) (by have := HI.out; omega)
    rw [scells_at Z i 2 HI.out (by decide)] at hcell
    have hgn : g ≠ w.heap.size := by
      have := (HH.out.row.lt g rfl).2
      omega
    have hrs : (W.setCell ⟨g, i * 4 + 2, none⟩ (.bool true)).heap[w.heap.size]? = W.heap[w.heap.size]? := heap_setCell.1 _ (Ne.symm hgn)
    have hc5 : ∀ j, (W.setCell ⟨g, i * 4 + 2, none⟩ (.bool true)).cell? ⟨w.heap.size, j, none⟩ = W.cell? ⟨w.heap.size, j, none⟩ := fun j => World.cell?_of_block (w := W) (a := ⟨w.heap.size, j, none⟩) hrs
    have hf5 : ∀ j, (W.setCell ⟨g, i * 4 + 2, none⟩ (.bool true)).frozen? ⟨w.heap.size, j, none⟩ = W.frozen? ⟨w.heap.size, j, none⟩ := fun j => World.frozen?_of_block (w := W) (a := ⟨w.heap.size, j, none⟩) hrs
    have hz := hcW.ents _ (sz_mem HI.out)
    refine ⟨⟨by rw [cell_of_row W p 0 _ _ (0, 0) hcW.box]; rfl, ⟨_, hcell⟩, hcW.row.frozenAt _⟩, (next_cell hcW HI.out (by decide) HZ.out hz (fun y hy hne => ?_) rfl rfl).ahead hbw, ⟨by rw [hc5]; exact hd.1, by rw [hc5]; exact hd.2.1, by rw [hc5]; exact hd.2.2.1, by rw [hc5]; exact hd.2.2.2.1, by rw [hc5]; exact hd.2.2.2.2⟩, fun j => by rw [hf5]; exact hf j, by rw [hrs]; exact hcs⟩
    obtain ⟨j, hj, rfl⟩ := List.mem_iff_getElem.1 hy
    have hzi : szAt Z i = Z[i]'(HI.out) := sz_at HI.out
    have hij : j ≠ i := fun e => hne (by subst e; exact hzi.symm)
    unfold Apart
    rw [hzi]
    rcases Nat.lt_or_gt_of_ne hij with h1 | h1
    · have := List.pairwise_iff_getElem.1 hcW.apart j i hj HI.out h1
      refine ⟨this, ?_⟩
      rcases this with h2 | h2
      · by_cases h3 : (Z[i]'(HI.out)).2.2.2.1.ownBlock = none
        · exact .inl h3
        · exact .inr (by rw [h2]; exact h3)
      · exact .inr (Ne.symm h2)
    · have := List.pairwise_iff_getElem.1 hcW.apart i j HI.out hj h1
      refine ⟨?_, this⟩
      rcases this with h2 | h2
      · by_cases h3 : (Z[j]'hj).2.2.2.1.ownBlock = none
        · exact .inl h3
        · exact .inr (by rw [h2]; exact h3)
      · exact .inr (Ne.symm h2)
  have HS : Hid (snapOf (c, nm, true, (szAt Z i).2.2.2.1, (szAt Z i).2.2.2.2) = (c, nm, true, (snapOf (szAt Z i)).2.2.2)) := rfl
  have hix := fun w => index_snap ⟨g, 0, none⟩ Z.length cap i hi w
  have had : (⟨g, 0, none⟩ : Addr).add (i * 4) = ⟨g, i * 4, none⟩ := by rw [Addr.add_lit, Nat.zero_add]
  rw [had] at hix
  unfold maxLen at hcm
  generalize (szAt Z i).2.2.2.1 = ev at *
  generalize (szAt Z i).2.2.2.2 = ey at *
  clear h hp hs HH HI hpl hdn e1 e2 HZ HP hsn had hgw
  go_enter Tryz.func22, Tryz.ntmps22
  go_wp2_with fail
  refine HF.out.mono ?_
  rintro e w1 ⟨rfl, hb1⟩
  obtain ⟨⟨c0, ⟨o, co⟩, fo⟩, hN, hR⟩ := HD.out w1 hb1
  obtain ⟨⟨d0, d1, d2, d3, d4⟩, hf, cs, hcs⟩ := hR.out
  have f0 := hf 0
  have f1 := hf 1
  have f2 := hf 2
  have f3 := hf 3
  have f4 := hf 4
  have HRS : Hid (∃ cs, (w1.setCell ⟨g, i * 4 + 2, none⟩ (.bool true)).heap[w.heap.size]? = some (.cells cs 31 (0, 0))) := ⟨cs, hcs⟩
  clear hb1 HF HD hR hcs hf
  go_wp2
  obtain ⟨cs, hcs⟩ := HRS.out
  refine bodyPost_ret (v := bareV 0 0) (by simp [results, Tryz.results22, go_sem, d0, d1, d2, d3, d4]) rfl ⟨.slice (some ⟨g, 0, none⟩) Z.length cap, (c, nm, true, ev, ey), rfl, HS.out, ?_⟩
  exact hN.out.res5 hcs (Nat.le_refl _)
end Go.Proofs.YtlpgdfdadkljfaaGreat.Cat
