/-
  Begin, commit, abort: what they tell, and what they leave behind.
-/
import Derived.Test.YtlpgdfdadkljfaaGreatCtNext
import Derived.Test.YtlpgdfdadkljfaaGreatMgF
import Derived.Deep.RegionLaw
namespace Go.Proofs.YtlpgdfdadkljfaaGreat.Cat
open Go.RowKit Route Tree

/-- 'append' at a step of a region that draws, its run being known. -/
theorem step_run {ops : Array Oper} {o : Oper} {a : Act} {K : Act → World → Prop} {Q : Exit → Act → World → Prop} {E : Prop} {w w' : World} (hgd : o.guard = none) (s x : Operand) (t : TypeId)
    (ho : o.op = .call { callee := .builtin .append, args := #[s, x], argTypes := #[t, t] }) (vs vx v' : Value) (hs : a.eval s = vs) (hx : a.eval x = vx)
    (hrun : (Builtin.append_ #[t, t] o.type #[vs, vx]).run Tryz.prog w = .ok v' w') (h : K (a.put o.dst v') w') :
    if Region.wanted o (yielded ops a.tmps) = true then o.wp Tryz.prog a w K Q else E := by
  have hw : Region.wanted o (yielded ops a.tmps) = true := by simp [Region.wanted, hgd]
  rw [if_pos hw]
  unfold Oper.wp execOp
  simp only [ho, resolve, invoke, builtin, Sem.run_bind, Sem.run_pure, Result.andThen_ok, List.map_toArray, List.map_cons, List.map_nil, hs, hx, hrun]
  exact h

theorem placeI_none {c : Int} {nm : ByteArray} {S : List Snap} (h : place c nm S = none) : placeI c nm S = -1 := by unfold placeI; rw [h]
theorem placeI_some {c : Int} {nm : ByteArray} {S : List Snap} {i : Nat} (h : place c nm S = some i) : placeI c nm S = (i : Int) := by unfold placeI; rw [h]

set_option maxHeartbeats 4000000 in
set_option maxRecDepth 100000 in
theorem begin_twice (p : Nat) (a : Option Addr) (n cap : Nat) (S : List Snap) (c : Int) (nm : ByteArray) (w : World) (h : See p a n cap S w) (hp : (place c nm S).isSome = true) :
    Calls Tryz.prog 20 #[.pointer (some ⟨p, 0, none⟩), .int .i64 c, .string nm] w fun e w' => e = .returned (bareV 4 0) ∧ Below w.heap.size w w' := by
  obtain ⟨i, hi⟩ := Option.isSome_iff_exists.1 hp
  have HP : Hid (Calls Tryz.prog 36 #[.pointer (some ⟨p, 0, none⟩), .int .i64 c, .string nm] (w.alloc zero30) fun e w' => e = .returned (.int .i64 (i : Int)) ∧ Below (w.alloc zero30).heap.size (w.alloc zero30) w') := by
    have := place_any p a n cap S c nm (w.alloc zero30) (h.below ((Below.refl _ _).alloc (Nat.le_refl _) _) (Nat.le_refl _))
    rw [placeI_some hi] at this
    exact this
  clear h hp hi
  go_enter Tryz.func20, Tryz.ntmps20
  go_wp2_with fail
  refine HP.out.mono ?_
  rintro e w1 ⟨rfl, hb1⟩
  have HB1 : Hid (Below (w.alloc zero30).heap.size (w.alloc zero30) w1) := hb1
  clear hb1 HP
  go_wp2_with fail
  refine (refusal_any 4 w1).mono ?_
  rintro e w2 ⟨rfl, hb2⟩
  obtain ⟨⟨d0, d1, d2, d3, d4⟩, hf, hbw, _, _⟩ := res_box (HB1.out.trans (hb2.mono HB1.out.size))
  have f0 := hf 0
  have f1 := hf 1
  have f2 := hf 2
  have f3 := hf 3
  have f4 := hf 4
  have HBW : Hid (Below w.heap.size w w2) := hbw
  clear hb2 hf hbw HB1
  go_wp2
  refine bodyPost_ret (v := bareV 4 0) (by simp [results, Tryz.results20, go_sem, d0, d1, d2, d3, d4]) rfl ⟨rfl, ?_⟩
  exact below_set5 HBW.out

set_option maxHeartbeats 4000000 in
set_option maxRecDepth 100000 in
theorem begin_full (p : Nat) (a : Option Addr) (n cap : Nat) (S : List Snap) (c : Int) (nm : ByteArray) (w : World) (h : See p a n cap S w) (hp : place c nm S = none) (hc : 8 ≤ count c S) :
    Calls Tryz.prog 20 #[.pointer (some ⟨p, 0, none⟩), .int .i64 c, .string nm] w fun e w' => e = .returned (bareV 5 0) ∧ Below w.heap.size w w' := by
  have h1 := h.below (Below.alloc (Below.refl _ _) (Nat.le_refl w.heap.size) zero30) (Nat.le_refl _)
  have HP : Hid (Calls Tryz.prog 36 #[.pointer (some ⟨p, 0, none⟩), .int .i64 c, .string nm] (w.alloc zero30) fun e w' => e = .returned (.int .i64 (-1)) ∧ Below (w.alloc zero30).heap.size (w.alloc zero30) w') := by
    have := place_any p a n cap S c nm (w.alloc zero30) h1
    rw [placeI_none hp] at this
    exact this
  have HC : Hid (∀ W, Below (w.alloc zero30).heap.size (w.alloc zero30) W → Calls Tryz.prog 37 #[.pointer (some ⟨p, 0, none⟩), .int .i64 c] W fun e w' => e = .returned (.int .i64 (count c S : Nat)) ∧ Below W.heap.size W w') := fun W hb => count_any p a n cap S c W (h1.below hb (Nat.le_refl _))
  generalize count c S = m at HC hc
  clear h hp h1
  go_enter Tryz.func20, Tryz.ntmps20
  go_wp2_with fail
  refine HP.out.mono ?_
  rintro e w1 ⟨rfl, hb1⟩
  have HB1 : Hid (Below (w.alloc zero30).heap.size (w.alloc zero30) w1) := hb1
  clear hb1 HP
  go_wp2_with fail
  refine (HC.out _ HB1.out).mono ?_
  rintro e w3 ⟨rfl, hb3⟩
  have HB3 : Hid (Below (w.alloc zero30).heap.size (w.alloc zero30) w3) := HB1.out.trans (hb3.mono HB1.out.size)
  clear hb3 HC HB1
  go_wp2_with fail
  refine (refusal_any 5 w3).mono ?_
  rintro e w2 ⟨rfl, hb2⟩
  obtain ⟨⟨d0, d1, d2, d3, d4⟩, hf, hbw, _, _⟩ := res_box (HB3.out.trans (hb2.mono HB3.out.size))
  have f0 := hf 0
  have f1 := hf 1
  have f2 := hf 2
  have f3 := hf 3
  have f4 := hf 4
  have HBW : Hid (Below w.heap.size w w2) := hbw
  clear hb2 hf hbw HB3
  go_wp2
  refine bodyPost_ret (v := bareV 5 0) (by simp [results, Tryz.results20, go_sem, d0, d1, d2, d3, d4]) rfl ⟨rfl, ?_⟩
  exact below_set5 HBW.out

/-- What 'begin' has done, in memory. -/
theorem begin_done {B p : Nat} {v : Value} {Z : List SZ} {w w4 w5 : World} {c : Int} {nm : ByteArray} {v5 : Value} (h : Cat B p v Z w) (hb : Below w.heap.size w w4)
    (h5 : SRow B v5 (Z ++ [(c, nm, false, .slice none 0 0, [])]) w5) (hg : (w4.alloc (.cells #[.int .i64 c, .string nm, .bool false, .slice none 0 0] 71)).grownBy w5 v.ownBlock) (hat : v5.ownBlock = v.ownBlock ∨ v5.ownBlock = some (w4.heap.size + 1)) :
    Next B p v Z w v5 (Z ++ [(c, nm, false, .slice none 0 0, [])]) (w5.setCell ⟨p, 0, none⟩ v5) ∧ w5.heap[p]? = w.heap[p]? := by
  have hp := (h.owns (.inl rfl : Owns p v Z p)).2
  have hbp : Below w.heap.size w (w4.alloc (.cells #[.int .i64 c, .string nm, .bool false, .slice none 0 0] 71)) := hb.alloc hb.size _
  have hvp : v.ownBlock ≠ some p := fun e => by
    rcases h.row.2 with ⟨rfl, _⟩ | ⟨g, cap, cur, rfl, _, hgg, _⟩
    · simp [Value.ownBlock] at e
    · simp [Value.ownBlock] at e
      subst e
      rw [h.box] at hgg
      simp at hgg
  have hwp : w5.heap[p]? = w.heap[p]? := (hg.block p (Nat.lt_of_lt_of_le hp hbp.size) fun e => hvp e.symm).trans (hbp.block p hp)
  obtain ⟨s1, s2, s3, s4, s5⟩ := heap_setCell (w := w5) (r := p) (i := 0) (x := v5)
  have hbox : (w5.setCell ⟨p, 0, none⟩ v5).heap[p]? = some (.cells #[v5] 56 (0, 0)) := by
    have := heap_setCell_same w5 p 0 _ 56 v5 (hwp.trans h.box)
    simpa using this
  have hne : ∀ {e : TypeId} {s n : Nat} {u : Value} {us : List Value}, w5.ownsRow B e s u n us → e ≠ 56 → (w5.setCell ⟨p, 0, none⟩ v5).ownsRow B e s u n us := fun {e s n u us} h1 hte => by
    refine own_keep h1 fun g hg => s1 g fun e1 => ?_
    subst e1
    rcases h1.2 with ⟨rfl, _⟩ | ⟨g', cap, cur, rfl, _, hgg, _⟩
    · simp [Value.ownBlock] at hg
    · simp [Value.ownBlock] at hg
      subst hg
      rw [hwp, h.box] at hgg
      simp at hgg
      exact hte hgg.2.symm
  have hsz : w.heap.size ≤ w5.heap.size := Nat.le_trans hbp.size hg.size
  refine ⟨⟨⟨hbox, h.low, hne h5.own (by decide), fun z hz => ⟨hne (h5.ents z hz).1 (by decide), fun y hy => hne ((h5.ents z hz).2 y hy) (by decide)⟩, h5.apart⟩, ⟨?_, ?_, ?_, by rw [s2]; exact hsz, fun k hk hn => ?_⟩, fun k hk => ?_, fun k hk => ?_⟩, hwp⟩
  · exact s3.trans (hg.os.trans hbp.os)
  · exact s4.trans (hg.tape.trans hbp.tape)
  · exact s5.trans (hg.output.trans hbp.output)
  · rw [s1 k fun e => hn (.inl e)]
    exact (hg.block k (Nat.lt_of_lt_of_le hk hbp.size) fun e => hn (.inr (.inl e.symm))).trans (hbp.block k hk)
  · rcases hk with rfl | hk | ⟨z, hz, hk⟩
    · exact .inl (.inl rfl)
    · rcases hat with e | e
      · exact .inl (.inr (.inl (by rw [← e]; exact hk)))
      · rw [e] at hk; simp at hk; have := hb.size; exact .inr (by omega)
    · rcases List.mem_append.1 hz with hz | hz
      · exact .inl (.inr (.inr ⟨z, hz, hk⟩))
      · rw [List.mem_singleton.1 hz] at hk; simp [Value.ownBlock] at hk
  · obtain ⟨z, hz, y, hy, hk⟩ := hk
    rcases List.mem_append.1 hz with hz | hz
    · exact .inl ⟨z, hz, y, hy, hk⟩
    · rw [List.mem_singleton.1 hz] at hy; simp at hy

set_option maxHeartbeats 8000000 in
set_option maxRecDepth 100000 in
theorem begin_ok (B p : Nat) (v : Value) (Z : List SZ) (c : Int) (nm : ByteArray) (w : World) (h : Cat B p v Z w) (hB : B ≤ w.heap.size) (hn : Z.length + 1 ≤ 1000000) (hnm : nm.size ≤ 100000) (hp : place c nm (Z.map snapOf) = none) (hc : count c (Z.map snapOf) < 8) :
    Calls Tryz.prog 20 #[.pointer (some ⟨p, 0, none⟩), .int .i64 c, .string nm] w fun e w' => ∃ v', e = .returned (bareV 0 0) ∧ Next B p v Z w v' (Z ++ [(c, nm, false, Value.slice none 0 0, [])]) w' := by
  obtain ⟨a, n, cap, rfl, hs⟩ := h.see
  have h1 := hs.below (Below.alloc (Below.refl _ _) (Nat.le_refl w.heap.size) zero30) (Nat.le_refl _)
  have HP : Hid (Calls Tryz.prog 36 #[.pointer (some ⟨p, 0, none⟩), .int .i64 c, .string nm] (w.alloc zero30) fun e w' => e = .returned (.int .i64 (-1)) ∧ Below (w.alloc zero30).heap.size (w.alloc zero30) w') := by
    have := place_any p a n cap _ c nm (w.alloc zero30) h1
    rw [placeI_none hp] at this
    exact this
  have HC : Hid (∀ W, Below (w.alloc zero30).heap.size (w.alloc zero30) W → Calls Tryz.prog 37 #[.pointer (some ⟨p, 0, none⟩), .int .i64 c] W fun e w' => e = .returned (.int .i64 (count c (Z.map snapOf) : Nat)) ∧ Below W.heap.size W w') := fun W hb => count_any p a n cap _ c W (h1.below hb (Nat.le_refl _))
  have HH : Hid (Cat B p (.slice a n cap) Z w) := h
  have HN : Hid (Z.length + 1 ≤ 1000000) := hn
  have HNM : Hid (nm.size ≤ 140737488355328) := by show _ ≤ _; omega
  have HBB : Hid (B ≤ w.heap.size) := hB
  have HPL : Hid (p < w.heap.size) := (h.owns (.inl rfl : Owns p (.slice a n cap) Z p)).2
  generalize count c (Z.map snapOf) = m at HC hc
  clear h hp h1 hs hn hnm hB
  go_enter Tryz.func20, Tryz.ntmps20
  go_wp2_with fail
  refine HP.out.mono ?_
  rintro e w1 ⟨rfl, hb1⟩
  have HB1 : Hid (Below (w.alloc zero30).heap.size (w.alloc zero30) w1) := hb1
  clear hb1 HP
  go_wp2_with fail
  refine (HC.out _ HB1.out).mono ?_
  rintro e w3 ⟨rfl, hb3⟩
  have HB3 : Hid (Below (w.alloc zero30).heap.size (w.alloc zero30) w3) := HB1.out.trans (hb3.mono HB1.out.size)
  clear hb3 HC HB1
  have HX : Hid (∀ W, Below w3.heap.size w3 W → Below (w.alloc zero30).heap.size (w.alloc zero30) W) := fun W hb => HB3.out.trans (hb.mono HB3.out.size)
  have HBox : Hid (∀ W, Below w.heap.size w W → W.cell? ⟨p, 0, none⟩ = some (.slice a n cap) ∧ W.frozen? ⟨p, 0, none⟩ = false) := fun W hb => by
    have hbp : W.heap[p]? = some (.cells #[.slice a n cap] 56 (0, 0)) := by rw [hb.block p HPL.out]; exact HH.out.box
    exact ⟨by rw [cell_of_row W p 0 _ _ (0, 0) hbp]; rfl, frozen_of_row W p 0 _ _ hbp⟩
  have c0 := (HBox.out w3 (res_box HB3.out).2.2.1).1
  have HCL : Hid (∀ W, Below w3.heap.size w3 W → Calls Tryz.prog 38 #[.string nm] W fun e w' => e = .returned (.string nm) ∧ w'.cell? ⟨p, 0, none⟩ = some (.slice a n cap) ∧ (w'.alloc (.cells #[.int .i64 c, .string nm, .bool false, .slice none 0 0] 71)).cell? ⟨p, 0, none⟩ = some (.slice a n cap) ∧
      ∃ a5 n5 cap5 w5, (Builtin.append_ #[44, 44] 44 #[.slice a n cap, .slice (some ⟨w'.heap.size, 0, none⟩) 1 1]).run Tryz.prog (w'.alloc (.cells #[.int .i64 c, .string nm, .bool false, .slice none 0 0] 71)) = .ok (.slice a5 n5 cap5) w5 ∧ w5.cell? ⟨p, 0, none⟩ = some (.slice a n cap) ∧ w5.frozen? ⟨p, 0, none⟩ = false ∧
        Hid (Next B p (.slice a n cap) Z w (.slice a5 n5 cap5) (Z ++ [(c, nm, false, Value.slice none 0 0, [])]) (w5.setCell ⟨p, 0, none⟩ (Value.slice a5 n5 cap5))) ∧
        Hid (((w5.setCell ⟨p, 0, none⟩ (Value.slice a5 n5 cap5)).cell? ⟨w.heap.size, 0, none⟩ = some (.int .i64 0) ∧ (w5.setCell ⟨p, 0, none⟩ (Value.slice a5 n5 cap5)).cell? ⟨w.heap.size, 1, none⟩ = some (.int .i64 0) ∧ (w5.setCell ⟨p, 0, none⟩ (Value.slice a5 n5 cap5)).cell? ⟨w.heap.size, 2, none⟩ = some (.slice none 0 0) ∧ (w5.setCell ⟨p, 0, none⟩ (Value.slice a5 n5 cap5)).cell? ⟨w.heap.size, 3, none⟩ = some (.slice none 0 0) ∧ (w5.setCell ⟨p, 0, none⟩ (Value.slice a5 n5 cap5)).cell? ⟨w.heap.size, 4, none⟩ = some (.slice none 0 0)) ∧
          (∀ i, (w5.setCell ⟨p, 0, none⟩ (Value.slice a5 n5 cap5)).frozen? ⟨w.heap.size, i, none⟩ = false) ∧ ∃ cs, (w5.setCell ⟨p, 0, none⟩ (Value.slice a5 n5 cap5)).heap[w.heap.size]? = some (.cells cs 31 (0, 0)))) := by
    intro W hW
    refine (Route.clone_any nm W HNM.out).mono ?_
    rintro e w' ⟨rfl, hbc⟩
    have hb' := HX.out w' (hW.trans (hbc.mono hW.size))
    obtain ⟨hd, hf, hbw, hlt, hcs⟩ := res_box hb'
    have hba : Below w'.heap.size w' (w'.alloc (.cells #[.int .i64 c, .string nm, .bool false, .slice none 0 0] 71)) := (Below.refl _ _).alloc (Nat.le_refl _) _
    obtain ⟨v5, w5, hr, h5, hg5, hat⟩ := run_snap (ty := 44) (z := (c, nm, false, Value.slice none 0 0, [])) (HH.out.srow.below hbw) (Nat.le_trans HBB.out hbw.size) ⟨World.ownsRow_nil _ _ _ _, fun y hy => by simp at hy⟩ (fun y _ => by unfold Apart; by_cases h : y.2.2.2.1.ownBlock = none; exact .inl h; exact .inr h) HN.out
    obtain ⟨hnx, hwp⟩ := begin_done HH.out hbw h5 hg5 hat
    obtain ⟨a5, cap5, e5, _⟩ := rows_see h5.own h5.ents
    subst e5
    have hrw : w5.heap[w.heap.size]? = w'.heap[w.heap.size]? := by
      refine (hg5.block _ (Nat.lt_of_lt_of_le hlt hba.size) fun e => ?_).trans (hba.block _ hlt)
      have := (HH.out.row.lt _ e.symm).2
      omega
    have hne : p ≠ w.heap.size := Nat.ne_of_lt HPL.out
    have hrs : (w5.setCell ⟨p, 0, none⟩ (Value.slice a5 (Z ++ [(c, nm, false, Value.slice none 0 0, [])]).length cap5)).heap[w.heap.size]? = w'.heap[w.heap.size]? := (heap_setCell.1 _ (Ne.symm hne)).trans hrw
    have hc5 : ∀ i, (w5.setCell ⟨p, 0, none⟩ (Value.slice a5 (Z ++ [(c, nm, false, Value.slice none 0 0, [])]).length cap5)).cell? ⟨w.heap.size, i, none⟩ = w'.cell? ⟨w.heap.size, i, none⟩ := fun i => World.cell?_of_block (w := w') (a := ⟨w.heap.size, i, none⟩) hrs
    have hf5 : ∀ i, (w5.setCell ⟨p, 0, none⟩ (Value.slice a5 (Z ++ [(c, nm, false, Value.slice none 0 0, [])]).length cap5)).frozen? ⟨w.heap.size, i, none⟩ = w'.frozen? ⟨w.heap.size, i, none⟩ := fun i => World.frozen?_of_block (w := w') (a := ⟨w.heap.size, i, none⟩) hrs
    have hb5 : w5.heap[p]? = some (.cells #[.slice a n cap] 56 (0, 0)) := hwp.trans HH.out.box
    exact ⟨rfl, (HBox.out w' hbw).1, (HBox.out _ (hbw.alloc hbw.size _)).1, a5, _, cap5, w5, hr, by rw [cell_of_row w5 p 0 _ _ (0, 0) hb5]; rfl, frozen_of_row w5 p 0 _ _ hb5, hnx, ⟨by rw [hc5]; exact hd.1, by rw [hc5]; exact hd.2.1, by rw [hc5]; exact hd.2.2.1, by rw [hc5]; exact hd.2.2.2.1, by rw [hc5]; exact hd.2.2.2.2⟩, fun i => by rw [hf5]; exact hf i, by rw [hrs]; exact hcs⟩
  clear HBox HX HB3 HPL HBB HNM HN HH
  go_wp2_with fail
  go_region_law
    (first
      | (go_simp; go_at_call 38; refine (HCL.out _ ?_).mono ?_; first | exact Below.refl _ _ | exact (Below.refl _ _).drew; rintro e w4 ⟨rfl, c4, c4', a5, n5, cap5, w5, hrun5, c5, f5, hN5, hR5⟩)
      | (refine step_run (by rfl) _ _ _ (by rfl) _ _ _ (by rfl) (by rfl) hrun5 ?_))
  all_goals
    obtain ⟨⟨d0, d1, d2, d3, d4⟩, hf, cs, hcs⟩ := hR5.out
    have f0 := hf 0
    have f1 := hf 1
    have f2 := hf 2
    have f3 := hf 3
    have f4 := hf 4
    have HRS : Hid (∃ cs, (w5.setCell ⟨p, 0, none⟩ (Value.slice a5 n5 cap5)).heap[w.heap.size]? = some (.cells cs 31 (0, 0))) := ⟨cs, hcs⟩
    clear HCL hR5 hcs hf c4 c4' hrun5 c0
    go_wp2
    obtain ⟨cs, hcs⟩ := HRS.out
    refine bodyPost_ret (v := bareV 0 0) (by simp [results, Tryz.results20, go_sem, d0, d1, d2, d3, d4]) rfl ⟨.slice a5 n5 cap5, rfl, ?_⟩
    exact hN5.out.res5 hcs (Nat.le_refl _)
end Go.Proofs.YtlpgdfdadkljfaaGreat.Cat
