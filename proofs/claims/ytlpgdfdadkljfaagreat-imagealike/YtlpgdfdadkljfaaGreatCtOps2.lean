/-
  Commit and abort: what they tell, and what they leave behind.
-/
import Derived.Test.YtlpgdfdadkljfaaGreatCtNext
import Derived.Test.YtlpgdfdadkljfaaGreatMgF
namespace Go.Proofs.YtlpgdfdadkljfaaGreat.Cat
open Go.RowKit Route Tree

theorem szAt_own {Z : List SZ} {i : Nat} (h : i < Z.length) : szAt Z i ∈ Z := sz_mem h

theorem found_code {c : Int} {nm : ByteArray} {d : Bool} {S : List Snap} (h : (found c nm d S).2 ≠ 0) : (found c nm d S).1 = 0 := by
  unfold found at *
  cases hp : place c nm S with
  | none => rfl
  | some i =>
    rw [hp] at h
    simp only at h ⊢
    split at h
    · exact absurd rfl h
    · rename_i h1
      rw [if_neg h1]

set_option maxHeartbeats 4000000 in
set_option maxRecDepth 100000 in
theorem commit_no (p : Nat) (a : Option Addr) (n cap : Nat) (S : List Snap) (c : Int) (nm : ByteArray) (w : World) (h : See p a n cap S w) (hp : (found c nm false S).2 ≠ 0) :
    Calls Tryz.prog 22 #[.pointer (some ⟨p, 0, none⟩), .int .i64 c, .string nm] w fun e w' => e = .returned (bareV ((found c nm false S).2 : Nat) 0) ∧ Below w.heap.size w w' := by
  have HP : Hid (Calls _ _ _ _ _) := find_any p a n cap S c nm false (w.alloc zero30) (h.below (Below.alloc (Below.refl _ _) (Nat.le_refl w.heap.size) zero30) (Nat.le_refl _))
  generalize (found c nm false S).1 = f1 at HP
  generalize (found c nm false S).2 = f2 at HP hp
  have hd : ((f2 : Int) == 0) = false := by simp; omega
  clear h hp
  go_enter Tryz.func22, Tryz.ntmps22
  go_wp2_with fail
  refine HP.out.mono ?_
  rintro e w1 ⟨rfl, hb1⟩
  have HB1 : Hid (Below (w.alloc zero30).heap.size (w.alloc zero30) w1) := hb1
  clear hb1 HP
  go_wp2_with fail
  refine (refusal_any (f2 : Int) w1).mono ?_
  rintro e w2 ⟨rfl, hb2⟩
  obtain ⟨⟨d0, d1, d2, d3, d4⟩, hf, hbw, _, _⟩ := res_box (HB1.out.trans (hb2.mono HB1.out.size))
  have f0 := hf 0
  have f1' := hf 1
  have f2' := hf 2
  have f3 := hf 3
  have f4 := hf 4
  have HBW : Hid (Below w.heap.size w w2) := hbw
  clear hb2 hf hbw HB1 hd
  go_wp2
  refine bodyPost_ret (v := bareV (f2 : Int) 0) (by simp [results, Tryz.results22, go_sem, d0, d1, d2, d3, d4]) rfl ⟨rfl, ?_⟩
  exact below_set5 HBW.out

set_option maxHeartbeats 4000000 in
set_option maxRecDepth 100000 in
theorem abort_no (p : Nat) (a : Option Addr) (n cap : Nat) (S : List Snap) (c : Int) (nm : ByteArray) (w : World) (h : See p a n cap S w) (hp : (found c nm false S).2 ≠ 0) :
    Calls Tryz.prog 23 #[.pointer (some ⟨p, 0, none⟩), .int .i64 c, .string nm] w fun e w' => e = .returned (bareV ((found c nm false S).2 : Nat) 0) ∧ Below w.heap.size w w' := by
  have HP : Hid (Calls _ _ _ _ _) := find_any p a n cap S c nm false (w.alloc zero30) (h.below (Below.alloc (Below.refl _ _) (Nat.le_refl w.heap.size) zero30) (Nat.le_refl _))
  generalize (found c nm false S).1 = f1 at HP
  generalize (found c nm false S).2 = f2 at HP hp
  have hd : ((f2 : Int) == 0) = false := by simp; omega
  clear h hp
  go_enter Tryz.func23, Tryz.ntmps23
  go_wp2_with fail
  refine HP.out.mono ?_
  rintro e w1 ⟨rfl, hb1⟩
  have HB1 : Hid (Below (w.alloc zero30).heap.size (w.alloc zero30) w1) := hb1
  clear hb1 HP
  go_wp2_with fail
  refine (refusal_any (f2 : Int) w1).mono ?_
  rintro e w2 ⟨rfl, hb2⟩
  obtain ⟨⟨d0, d1, d2, d3, d4⟩, hf, hbw, _, _⟩ := res_box (HB1.out.trans (hb2.mono HB1.out.size))
  have f0 := hf 0
  have f1' := hf 1
  have f2' := hf 2
  have f3 := hf 3
  have f4 := hf 4
  have HBW : Hid (Below w.heap.size w w2) := hbw
  clear hb2 hf hbw HB1 hd
  go_wp2
  refine bodyPost_ret (v := bareV (f2 : Int) 0) (by simp [results, Tryz.results23, go_sem, d0, d1, d2, d3, d4]) rfl ⟨rfl, ?_⟩
  exact below_set5 HBW.out

/-- A catalog's row is turned, or its box: what it has then. -/
theorem next_row {B p : Nat} {v : Value} {Z : List SZ} {w w1 : World} {v1 : Value} {Z1 : List SZ} (h : Cat B p v Z w) (h1 : SRow B v1 Z1 w1) (hg : w.grownBy w1 v.ownBlock) (hat : ∀ k, v1.ownBlock = some k → v.ownBlock = some k ∨ w.heap.size ≤ k) (hz : ∀ z ∈ Z1, z ∈ Z) :
    Next B p v Z w v1 Z1 (w1.setCell ⟨p, 0, none⟩ v1) ∧ w1.heap[p]? = w.heap[p]? := by
  have hp := (h.owns (.inl rfl : Owns p v Z p)).2
  have hvp : v.ownBlock ≠ some p := fun e => by
    rcases h.row.2 with ⟨rfl, _⟩ | ⟨g, cap, cur, rfl, _, hgg, _⟩
    · simp [Value.ownBlock] at e
    · simp [Value.ownBlock] at e
      subst e
      rw [h.box] at hgg
      simp at hgg
  have hwp : w1.heap[p]? = w.heap[p]? := hg.block p hp fun e => hvp e.symm
  obtain ⟨s1, s2, s3, s4, s5⟩ := heap_setCell (w := w1) (r := p) (i := 0) (x := v1)
  have hbox : (w1.setCell ⟨p, 0, none⟩ v1).heap[p]? = some (.cells #[v1] 56 (0, 0)) := by
    have := heap_setCell_same w1 p 0 _ 56 v1 (hwp.trans h.box)
    simpa using this
  have hne : ∀ {e : TypeId} {s n : Nat} {u : Value} {us : List Value}, w1.ownsRow B e s u n us → e ≠ 56 → (w1.setCell ⟨p, 0, none⟩ v1).ownsRow B e s u n us := fun {e s n u us} h1 hte => by
    refine own_keep h1 fun g hg => s1 g fun e1 => ?_
    subst e1
    rcases h1.2 with ⟨rfl, _⟩ | ⟨g', cap, cur, rfl, _, hgg, _⟩
    · simp [Value.ownBlock] at hg
    · simp [Value.ownBlock] at hg
      subst hg
      rw [hwp, h.box] at hgg
      simp at hgg
      exact hte hgg.2.symm
  refine ⟨⟨⟨hbox, h.low, hne h1.own (by decide), fun z hz => ⟨hne (h1.ents z hz).1 (by decide), fun y hy => hne ((h1.ents z hz).2 y hy) (by decide)⟩, h1.apart⟩, ⟨?_, ?_, ?_, by rw [s2]; exact hg.size, fun k hk hn => ?_⟩, fun k hk => ?_, fun k ⟨z, hz', y, hy, hk⟩ => .inl ⟨z, hz z hz', y, hy, hk⟩⟩, hwp⟩
  · exact s3.trans hg.os
  · exact s4.trans hg.tape
  · exact s5.trans hg.output
  · rw [s1 k fun e => hn (.inl e)]
    exact hg.block k hk fun e => hn (.inr (.inl e.symm))
  · rcases hk with rfl | hk | ⟨z, hz', hk⟩
    · exact .inl (.inl rfl)
    · exact (hat k hk).imp (fun h => .inr (.inl h)) id
    · exact .inl (.inr (.inr ⟨z, hz z hz', hk⟩))

set_option maxHeartbeats 8000000 in
set_option maxRecDepth 100000 in
theorem abort_ok (B p : Nat) (v : Value) (Z : List SZ) (c : Int) (nm : ByteArray) (w : World) (h : Cat B p v Z w) (hp : (found c nm false (Z.map snapOf)).2 = 0) :
    Calls Tryz.prog 23 #[.pointer (some ⟨p, 0, none⟩), .int .i64 c, .string nm] w fun e w' => ∃ v', e = .returned (bareV 0 0) ∧ Next B p v Z w v' (Z.eraseIdx (found c nm false (Z.map snapOf)).1) w' := by
  obtain ⟨a, n, cap, rfl, hs⟩ := h.see
  have hi : (found c nm false (Z.map snapOf)).1 < Z.length := by
    have := (place_some (found_ok hp).1).1
    simpa using this
  have HP : Hid (Calls _ _ _ _ _) := find_any p a n cap _ c nm false (w.alloc zero30) (hs.below (Below.alloc (Below.refl _ _) (Nat.le_refl w.heap.size) zero30) (Nat.le_refl _))
  rw [hp] at HP
  generalize (found c nm false (Z.map snapOf)).1 = i at HP hi ⊢
  have hil : i ≤ 9223372036854775806 := by
    have h1 := hs.len
    have h2 := hs.le
    have h3 := hs.max
    rw [List.length_map] at h1
    unfold maxLen at h3
    omega
  have HH : Hid (Cat B p (.slice a n cap) Z w) := h
  have HI : Hid (i < Z.length) := hi
  have HD : Hid (∀ W, Below (w.alloc zero30).heap.size (w.alloc zero30) W → (W.cell? ⟨p, 0, none⟩ = some (.slice a n cap) ∧ W.frozen? ⟨p, 0, none⟩ = false) ∧ Calls Tryz.prog 47 #[.slice a n cap, .int .i64 (i : Int), .int .i64 ((i : Int) + 1)] W fun e w5 => ∃ a5 n5 cap5, e = .returned (.slice a5 n5 cap5) ∧ w5.cell? ⟨p, 0, none⟩ = some (.slice a n cap) ∧ w5.frozen? ⟨p, 0, none⟩ = false ∧
        Hid (Next B p (.slice a n cap) Z w (.slice a5 n5 cap5) (Z.eraseIdx i) (w5.setCell ⟨p, 0, none⟩ (.slice a5 n5 cap5))) ∧
        Hid (((w5.setCell ⟨p, 0, none⟩ (Value.slice a5 n5 cap5)).cell? ⟨w.heap.size, 0, none⟩ = some (.int .i64 0) ∧ (w5.setCell ⟨p, 0, none⟩ (Value.slice a5 n5 cap5)).cell? ⟨w.heap.size, 1, none⟩ = some (.int .i64 0) ∧ (w5.setCell ⟨p, 0, none⟩ (Value.slice a5 n5 cap5)).cell? ⟨w.heap.size, 2, none⟩ = some (.slice none 0 0) ∧ (w5.setCell ⟨p, 0, none⟩ (Value.slice a5 n5 cap5)).cell? ⟨w.heap.size, 3, none⟩ = some (.slice none 0 0) ∧ (w5.setCell ⟨p, 0, none⟩ (Value.slice a5 n5 cap5)).cell? ⟨w.heap.size, 4, none⟩ = some (.slice none 0 0)) ∧
          (∀ i, (w5.setCell ⟨p, 0, none⟩ (Value.slice a5 n5 cap5)).frozen? ⟨w.heap.size, i, none⟩ = false) ∧ ∃ cs, (w5.setCell ⟨p, 0, none⟩ (Value.slice a5 n5 cap5)).heap[w.heap.size]? = some (.cells cs 31 (0, 0)))) := by
    intro W hb'
    obtain ⟨hd, hf, hbw, hlt, hcs⟩ := res_box hb'
    have hcW := HH.out.below hbw
    refine ⟨⟨by rw [cell_of_row W p 0 _ _ (0, 0) hcW.box]; rfl, frozen_of_row W p 0 _ _ hcW.box⟩, ?_⟩
    refine (delete_any hcW.srow HI.out).mono ?_
    rintro e w5 ⟨v5, rfl, h5, hown, hg5⟩
    obtain ⟨a5, cap5, e5, _⟩ := rows_see h5.own h5.ents
    subst e5
    obtain ⟨hnx, hwp⟩ := next_row hcW h5 hg5 (fun k hk => .inl (by rw [← hown]; exact hk)) fun z hz => (List.eraseIdx_sublist _ _).subset hz
    have hpl := (HH.out.owns (.inl rfl : Owns p (.slice a n cap) Z p)).2
    have hrw : w5.heap[w.heap.size]? = W.heap[w.heap.size]? := by
      refine hg5.block _ hlt fun e => ?_
      have := (HH.out.row.lt _ e.symm).2
      omega
    have hne : p ≠ w.heap.size := Nat.ne_of_lt hpl
    have hrs : (w5.setCell ⟨p, 0, none⟩ (Value.slice a5 (Z.eraseIdx i).length cap5)).heap[w.heap.size]? = W.heap[w.heap.size]? := (heap_setCell.1 _ (Ne.symm hne)).trans hrw
    have hc5 : ∀ j, (w5.setCell ⟨p, 0, none⟩ (Value.slice a5 (Z.eraseIdx i).length cap5)).cell? ⟨w.heap.size, j, none⟩ = W.cell? ⟨w.heap.size, j, none⟩ := fun j => World.cell?_of_block (w := W) (a := ⟨w.heap.size, j, none⟩) hrs
    have hf5 : ∀ j, (w5.setCell ⟨p, 0, none⟩ (Value.slice a5 (Z.eraseIdx i).length cap5)).frozen? ⟨w.heap.size, j, none⟩ = W.frozen? ⟨w.heap.size, j, none⟩ := fun j => World.frozen?_of_block (w := W) (a := ⟨w.heap.size, j, none⟩) hrs
    have hb5 : w5.heap[p]? = some (.cells #[.slice a n cap] 56 (0, 0)) := hwp.trans hcW.box
    exact ⟨a5, _, cap5, rfl, by rw [cell_of_row w5 p 0 _ _ (0, 0) hb5]; rfl, frozen_of_row w5 p 0 _ _ hb5, hnx.ahead hbw, ⟨by rw [hc5]; exact hd.1, by rw [hc5]; exact hd.2.1, by rw [hc5]; exact hd.2.2.1, by rw [hc5]; exact hd.2.2.2.1, by rw [hc5]; exact hd.2.2.2.2⟩, fun i => by rw [hf5]; exact hf i, by rw [hrs]; exact hcs⟩
  clear h hp hs hi HH HI
  go_enter Tryz.func23, Tryz.ntmps23
  go_wp2_with fail
  refine HP.out.mono ?_
  rintro e w1 ⟨rfl, hb1⟩
  obtain ⟨⟨c0, cf0⟩, hD⟩ := HD.out w1 hb1
  clear hb1 HP HD
  go_wp2_with fail
  refine hD.mono ?_
  rintro e w5 ⟨a5, n5, cap5, rfl, c5, f5, hN5, hR5⟩
  obtain ⟨⟨d0, d1, d2, d3, d4⟩, hf, cs, hcs⟩ := hR5.out
  have f0 := hf 0
  have f1 := hf 1
  have f2 := hf 2
  have f3 := hf 3
  have f4 := hf 4
  have HRS : Hid (∃ cs, (w5.setCell ⟨p, 0, none⟩ (.slice a5 n5 cap5)).heap[w.heap.size]? = some (.cells cs 31 (0, 0))) := ⟨cs, hcs⟩
  clear hD hR5 hcs hf c0 cf0
  go_wp2
  obtain ⟨cs, hcs⟩ := HRS.out
  refine bodyPost_ret (v := bareV 0 0) (by simp [results, Tryz.results23, go_sem, d0, d1, d2, d3, d4]) rfl ⟨.slice a5 n5 cap5, rfl, ?_⟩
  exact hN5.out.res5 hcs (Nat.le_refl _)
end Go.Proofs.YtlpgdfdadkljfaaGreat.Cat
