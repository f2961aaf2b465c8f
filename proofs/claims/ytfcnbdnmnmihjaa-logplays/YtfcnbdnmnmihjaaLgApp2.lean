/-
  The contract of the log's Append where it appends.
-/
import Derived.Test.YtfcnbdnmnmihjaaLgApp
import Derived.Deep.RegionLaw
namespace Go.Proofs.Ytfcnbdnmnmihjaa
open Go.RowKit

/-- 'append' at a step of a region that draws, its run being known. -/
theorem step_run {ops : Array Oper} {o : Oper} {a : Act} {K : Act → World → Prop} {Q : Exit → Act → World → Prop} {E : Prop} {w w' : World} (hgd : o.guard = none) (s x : Operand) (t : TypeId)
    (ho : o.op = .call { callee := .builtin .append, args := #[s, x], argTypes := #[t, t] }) (vs vx v' : Value) (hs : a.eval s = vs) (hx : a.eval x = vx)
    (hrun : (Builtin.append_ #[t, t] o.type #[vs, vx]).run Try.prog w = .ok v' w') (h : K (a.put o.dst v') w') :
    if Region.wanted o (yielded ops a.tmps) = true then o.wp Try.prog a w K Q else E := by
  have hw : Region.wanted o (yielded ops a.tmps) = true := by simp [Region.wanted, hgd]
  rw [if_pos hw]
  unfold Oper.wp execOp
  simp only [ho, resolve, invoke, builtin, Sem.run_bind, Sem.run_pure, Result.andThen_ok, List.map_toArray, List.map_cons, List.map_nil, hs, hx, hrun]
  exact h

/-- The log's records are stored anew: one more. -/
theorem LogSt.more {W0 w w0 w1 : World} {tp sy lg : Nat} {l : List UInt8} {r rv : Option Nat} {rs rs' : List (List UInt8)} {L : Nat → Prop} {v' : Value} (hs : St W0 w tp l sy r) (hl : LogAt L w lg tp rs false rv) (hk : ∀ k, L k → W0.heap.size ≤ k ∧ Off (MT tp r) w k) {X : Nat → Prop} (hx : ∀ k, L k → ¬ X k) (hX : ∀ k, X k → k < w.heap.size)
    (hb : Below w.heap.size w w0) (hr : Rws (fun k => (L k ∧ k ≠ lg ∨ w.heap.size ≤ k ∧ k < w0.heap.size) ∨ w0.heap.size ≤ k) w1 v' rs') (hg : w0.grownBy w1 rv) (hat : v'.ownBlock = rv ∨ v'.ownBlock = some (w0.heap.size + 1)) :
    LogSt W0 (w1.setCell ⟨lg, 1, none⟩ v') tp l sy r lg rs' false v'.ownBlock X ∧ Turn (ML tp r lg rv) (ML tp r lg v'.ownBlock) w (w1.setCell ⟨lg, 1, none⟩ v') := by
  obtain ⟨vo, hh, hL, ⟨us, hown, hinL, _⟩, hvo⟩ := hl
  have hlg := hk lg hL
  have hlt : lg < w.heap.size := hlg.2.1
  have hrv : ∀ g, rv = some g → L g ∧ g ≠ lg := fun g hg => hinL g (by rw [hvo]; exact hg)
  have hkeep : ∀ k, k < w.heap.size → some k ≠ rv → w1.heap[k]? = w.heap[k]? := fun k h1 h2 => (hg.block k (Nat.lt_of_lt_of_le h1 hb.size) h2).trans (hb.block k h1)
  have hsz1 : w.heap.size ≤ w1.heap.size := Nat.le_trans hb.size hg.size
  have hoth : ∀ k, k ≠ lg → (w1.setCell ⟨lg, 1, none⟩ v').heap[k]? = w1.heap[k]? := fun k hk => heap_setCell_other w1 ⟨lg, 1, none⟩ k _ hk
  have hsz : (w1.setCell ⟨lg, 1, none⟩ v').heap.size = w1.heap.size := by simp
  have hh1 : w1.heap[lg]? = some (.cells #[.pointer (some ⟨tp, 0, none⟩), vo, .bool false] 55 (0, 0)) := by
    rw [hkeep lg hlt (fun e => (hrv lg e.symm).2 rfl)]; exact hh
  have hst := heap_setCell_same w1 lg 1 _ 55 v' hh1
  have hturn : Turn (ML tp r lg rv) (ML tp r lg v'.ownBlock) w (w1.setCell ⟨lg, 1, none⟩ v') := by
    refine ⟨hg.os.trans hb.os, hg.tape.trans hb.tape, hg.output.trans hb.output, by rw [hsz]; exact hsz1, fun k h1 hm => (hoth k fun e => hm (.inr (.inl e))).trans (hkeep k h1 fun e => hm (.inr (.inr e))), fun k hm => ?_⟩
    rcases hm with hm | hm | hm
    · exact .inl (.inl hm)
    · exact .inl (.inr (.inl hm))
    · rcases hat with e | e
      · exact .inl (.inr (.inr (by rw [← e]; exact hm)))
      · rw [e] at hm; simp only [Option.some.injEq] at hm; have := hb.size; exact .inr (by omega)
  have hmt : ∀ k, MT tp r k → k < w.heap.size ∧ some k ≠ rv ∧ k ≠ lg := fun k hm => ⟨(hs.made k hm).2, fun e => (hk k (hrv k e.symm).1).2.2 hm, fun e => hlg.2.2 (e ▸ hm)⟩
  have hfar : ∀ k, MT tp r k → (w1.setCell ⟨lg, 1, none⟩ v').heap[k]? = w.heap[k]? := fun k hm => (hoth k (hmt k hm).2.2).trans (hkeep k (hmt k hm).1 (hmt k hm).2.1)
  have hW : W0.heap.size ≤ w.heap.size := hs.2.size
  have hbel : Below W0.heap.size w (w1.setCell ⟨lg, 1, none⟩ v') := by
    refine hturn.below hW fun k hm => ?_
    rcases hm with hm | rfl | hm
    · exact (hs.made k hm).1
    · exact hlg.1
    · exact (hk k (hrv k hm.symm).1).1
  refine ⟨⟨⟨hs.1.far (hfar tp (.inl rfl)) (fun g hg => hfar g (.inr hg.symm)), hs.2.trans hbel⟩, fun k => (L k ∨ w.heap.size ≤ k) ∧ k < w1.heap.size, ⟨v', ?_, ⟨.inl hL, Nat.lt_of_lt_of_le hlt hsz1⟩, (hr.bound.keep fun k hk' => hoth k ?_).mono fun k hk' => ?_, rfl⟩, fun k hk' => ?_, fun k hk' hxk => ?_⟩, hturn⟩
  · exact hst
  · rcases hk'.1 with (h | h) | h
    · exact h.2
    · omega
    · have := hb.size; omega
  · have h2 := hb.size
    rcases hk'.1 with (h | h) | h
    · exact ⟨⟨.inl h.1, hk'.2⟩, h.2⟩
    · exact ⟨⟨.inr h.1, hk'.2⟩, by omega⟩
    · exact ⟨⟨.inr (by omega), hk'.2⟩, by omega⟩
  · rcases hk'.1 with h | h
    · exact ⟨(hk k h).1, by rw [hsz]; exact hk'.2, (hk k h).2.2⟩
    · exact ⟨by omega, by rw [hsz]; exact hk'.2, fun hm => by have := (hs.made k hm).2; omega⟩
  · rcases hk'.1 with h | h
    · exact hx k h hxk
    · have := hX k hxk; omega

set_option maxHeartbeats 2000000 in
theorem append_log {W0 w : World} {tp sy lg k cap : Nat} {a : Option Addr} {l b : List UInt8} {r rv : Option Nat} {rs : List (List UInt8)} {X : Nat → Prop} (h : LogSt W0 w tp l sy r lg rs false rv X) (hk : Hid (k = b.length)) (hb : Lies w a b) (hnil : a = none → k = 0 ∧ cap = 0) (hoff : ∀ x, a = some x → b = [] ∨ Off (ML tp r lg rv) w x.block)
    (h1 : 1 ≤ k) (h2 : k ≤ 65536) (hfit : l.length + (rec1 b).length ≤ 1048576) (hrs : rs.length ≤ 1048576) (hX : ∀ k, X k → k < w.heap.size := by exact fun _ h => h.elim) :
    Calls Try.prog 15 #[.pointer (some ⟨lg, 0, none⟩), .slice a k cap] w fun e w' => e = .returned .nilIface ∧ ∃ r' rv', LogSt W0 w' tp (l ++ rec1 b) (l ++ rec1 b).length r' lg (rs ++ [b]) false rv' X ∧ Turn (ML tp r lg rv) (ML tp r' lg rv') w w' := by
  have HW : Hid (Calls _ _ _ _ _) := write_ok h hk hb hnil h1 h2 hfit
  have HX : Hid (∀ k, X k → k < w.heap.size) := hX
  clear hX
  have HLB : Hid (Lies w a b) := hb
  have HNL : Hid (a = none → k = 0 ∧ cap = 0) := hnil
  have HOF : Hid (∀ x, a = some x → b = [] ∨ Off (ML tp r lg rv) w x.block) := hoff
  have HRS : Hid (rs.length + 1 ≤ 1000000000000) := by show _ ≤ _; omega
  clear h hb hnil hfit hoff hrs
  go_enter Try.func15, Try.ntmps15
  go_wp2_with fail
  refine HW.out.mono ?_
  rintro e w1 ⟨rfl, r1, h1', ht1⟩
  obtain ⟨c0, _, _⟩ := h1'.box
  have HC : Hid (Calls _ _ _ _ _) := sync_st h1'.1
  have HT1 : Hid (Turn _ _ _ _) := ht1
  have HH1 : Hid (LogSt _ _ _ _ _ _ _ _ _ _ X) := h1'
  clear h1' ht1 HW
  go_wp2_with fail
  refine HC.out.mono ?_
  rintro e w2 ⟨rfl, hs2, ht2⟩
  have h2' := HH1.out.tape hs2 ht2.turn
  have HT2 : Hid (Turn (ML tp r lg rv) (ML tp r1 lg rv) w w2) := (HT1.out.trans ht2.turn).withLog
  obtain ⟨hs2, L, hl2, hk2, hx2⟩ := h2'
  have HX2 : Hid (∀ k, L k → ¬ X k) := hx2
  obtain ⟨a1, k1, cap1, _, c1, _, f1, _, _, _, _, _, _, hR1, hv1, _, hlt1, hL1⟩ := hl2.open
  have HL2 : Hid (Lies w2 a b) := HLB.out.keep fun x hx => (HOF.out x hx).imp id fun h => HT2.out.kept h
  have HS2 : Hid (St W0 w2 tp (l ++ rec1 b) (l ++ rec1 b).length r1) := hs2
  have HA2 : Hid (LogAt L w2 lg tp rs false rv) := hl2
  have HK2 : Hid (∀ k, L k → W0.heap.size ≤ k ∧ Off (MT tp r1) w2 k) := hk2
  have HF : Hid (∀ w4 v5 w5, Below w2.heap.size w2 w4 → Rws (fun k => (L k ∧ k ≠ lg ∨ w2.heap.size ≤ k ∧ k < w4.heap.size) ∨ w4.heap.size ≤ k) w5 v5 (rs ++ [b]) → w4.grownBy w5 (Value.slice a1 k1 cap1).ownBlock → (v5.ownBlock = (Value.slice a1 k1 cap1).ownBlock ∨ v5.ownBlock = some (w4.heap.size + 1)) →
      ∃ a5 k5 cap5, v5 = .slice a5 k5 cap5 ∧ (w5.cell? ⟨lg, 1, none⟩ = some (.slice a1 k1 cap1) ∧ w5.frozen? ⟨lg, 1, none⟩ = false) ∧ Hid (∃ r' rv', LogSt W0 (w5.setCell ⟨lg, 1, none⟩ (.slice a5 k5 cap5)) tp (l ++ rec1 b) (l ++ rec1 b).length r' lg (rs ++ [b]) false rv' X ∧ Turn (ML tp r lg rv) (ML tp r' lg rv') w (w5.setCell ⟨lg, 1, none⟩ (.slice a5 k5 cap5)))) := by
    intro w4 v5 w5 hb4 hr5 hg5 hat5
    rw [hv1] at hg5 hat5
    obtain ⟨a5, k5, cap5, rfl, _⟩ := hr5.form
    have hm := LogSt.more HS2.out HA2.out HK2.out HX2.out (fun k hk => Nat.lt_of_lt_of_le (HX.out k hk) HT2.out.size) hb4 hr5 hg5 hat5
    have hblk : w5.heap[lg]? = w2.heap[lg]? := by
      refine (hg5.block lg (Nat.lt_of_lt_of_le hlt1 hb4.size) fun e => ?_).trans (hb4.block lg hlt1)
      obtain ⟨us, _, hin, _⟩ := hR1
      exact (hin lg (by rw [hv1]; exact e.symm)).2 rfl
    exact ⟨a5, k5, cap5, rfl, ⟨by rw [World.cell?_of_block (w := w2) (a := ⟨lg, 1, none⟩) hblk]; exact c1, by rw [World.frozen?_of_block (w := w2) (a := ⟨lg, 1, none⟩) hblk]; exact f1⟩, r1, _, hm.1, HT2.out.trans hm.2⟩
  have HCL : Hid (∀ W, Below w2.heap.size w2 W → Calls Try.prog 27 #[.slice a k cap] W fun e w' => ∃ a' k' cap', e = .returned (.slice a' k' cap') ∧ w'.cell? ⟨lg, 1, none⟩ = some (.slice a1 k1 cap1) ∧ (w'.alloc (.cells #[.slice a' k' cap'] 31)).cell? ⟨lg, 1, none⟩ = some (.slice a1 k1 cap1) ∧
      ∃ a5 k5 cap5 w5, (Builtin.append_ #[32, 32] 32 #[.slice a1 k1 cap1, .slice (some ⟨w'.heap.size, 0, none⟩) 1 1]).run Try.prog (w'.alloc (.cells #[.slice a' k' cap'] 31)) = .ok (.slice a5 k5 cap5) w5 ∧ w5.cell? ⟨lg, 1, none⟩ = some (.slice a1 k1 cap1) ∧ w5.frozen? ⟨lg, 1, none⟩ = false ∧
        Hid (∃ r' rv', LogSt W0 (w5.setCell ⟨lg, 1, none⟩ (.slice a5 k5 cap5)) tp (l ++ rec1 b) (l ++ rec1 b).length r' lg (rs ++ [b]) false rv' X ∧ Turn (ML tp r lg rv) (ML tp r' lg rv') w (w5.setCell ⟨lg, 1, none⟩ (.slice a5 k5 cap5)))) := by
    intro W hW
    refine (clone_any hk (HL2.out.below hW (Nat.le_refl _)) HNL.out (by omega)).mono ?_
    rintro e w' ⟨a', k', cap', rfl, hrow, hbw⟩
    have hb2 : Below w2.heap.size w2 w' := hW.trans (hbw.mono hW.size)
    have hb3 : Below w2.heap.size w2 (w'.alloc (.cells #[.slice a' k' cap'] 31)) := hb2.alloc hb2.size _
    have hRR : Rws (fun k => L k ∧ k ≠ lg ∨ w2.heap.size ≤ k ∧ k < w'.heap.size) w' (.slice a1 k1 cap1) rs := (hR1.below hb2 (Nat.le_refl _)).mono fun k hk => .inl hk
    have hUU : Slc (fun k => (L k ∧ k ≠ lg ∨ w2.heap.size ≤ k ∧ k < w'.heap.size) ∧ (Value.slice a1 k1 cap1).ownBlock ≠ some k) w' (.slice a' k' cap') b := by
      refine Slc.of_row hrow fun g hg => ?_
      have hg1 := hrow.lt g hg
      have hsz := hW.size
      refine ⟨.inr ⟨by omega, hg1.2⟩, fun e => ?_⟩
      obtain ⟨us, _, hin, _⟩ := hR1
      have := (HK2.out g (hin g e).1).2.1
      omega
    obtain ⟨v5, w5, hrun, hr5, hg5, hat5⟩ := run_row1 (ty := 32) hRR hUU HRS.out
    obtain ⟨a5, k5, cap5, rfl, hcf5, hF5⟩ := HF.out w' v5 w5 hb2 hr5 hg5 hat5
    exact ⟨a', k', cap', rfl, by rw [hb2.cell (p := ⟨lg, 1, none⟩) hlt1]; exact c1, by rw [hb3.cell (p := ⟨lg, 1, none⟩) hlt1]; exact c1, a5, k5, cap5, w5, hrun, hcf5.1, hcf5.2, hF5⟩
  clear hx2 hs2 ht2 hl2 hk2 hR1 hv1 HC HT1 HH1 c0 hL1
  go_wp2_with fail
  clear HF f1 hlt1 HS2 HA2 HK2 HRS HL2 HOF HT2 HLB HNL
  go_region_law
    (first
      | (go_simp; go_at_call 27; refine (HCL.out _ ?_).mono ?_; first | exact Below.refl _ _ | exact (Below.refl _ _).drew; rintro e w4 ⟨a4, k4, cap4, rfl, c4, c4', a5, k5, cap5, w5, hrun5, c5, f5, hF5⟩)
      | (refine step_run (by rfl) _ _ _ (by rfl) _ _ _ (by rfl) (by rfl) hrun5 ?_))
  all_goals
    clear HCL
    go_wp2
    go_ret
    exact ⟨rfl, hF5.out⟩
end Go.Proofs.Ytfcnbdnmnmihjaa
