/-
  The contracts of Put, Drop and 'among'.
-/
import Derived.Test.YtkmlekgfbmoimaaBlLeaf
namespace Go.Proofs.Ytkmlekgfbmoimaa.Blobs
open Go.RowKit Route Go.Maps Go.ChangeMaps

theorem clone_any (s : ByteArray) (w : World) (hs : s.size ≤ 140737488355328) :
    Calls Try.prog 22 #[.string s] w fun e w' => e = .returned (.string s) ∧ Below w.heap.size w w' := by
  go_enter Try.func22, Try.ntmps22
  go_wp2_with fail
  refine (Try.stringslite_Clone s w (by omega)).mono ?_
  rintro e w' ⟨rfl, hb⟩
  go_wp2
  go_ret
  exact ⟨rfl, hb⟩

theorem len_text (s : ByteArray) (z : Nat) (hz : z = s.size) (w : World) : (Builtin.len_ #[9] 3 #[.string s]).run Try.prog w = .ok (.int .i64 (z : Int)) w := by
  rw [run_len_string w 9 3 s Try.underlying9, hz]; rfl

theorem remove_any {w : World} {b m q n : Nat} {S : List ByteArray} (h : StoreIn w b m q n S) (k : ByteArray) (hk : k ∈ S) :
    Calls Try.prog 20 #[.pointer (some ⟨b, 0, none⟩), .string k] w fun e w' => e = .returned (.tuple #[]) ∧ StoreIn w' b m q n (out k S) ∧ Trn b m w w' := by
  have hks := h.ok k hk
  obtain ⟨D, hD, _, hH⟩ := h.set
  obtain ⟨w1, hrun, hD1, ht1⟩ := hD.drop keyed9 Try.underlying45 (keyL_ok (s := k) (by unfold maxLen; omega)) 0
  have hg1 := ht1.grown
  have hb1 : w1.heap[b]? = w.heap[b]? := hg1.block b h.lt.1 (fun e => h.ne (Option.some.inj e))
  refine (remove_core k h.box (by have := h.room; have := h.lim; omega) hks.2 (fun _ => hrun) hb1).mono ?_
  rintro e w' ⟨rfl, rfl⟩
  have hto := total_out h.asc hk
  refine ⟨rfl, ⟨?_, ⟨D.del (keyL k), hD1.setCell (fun e => h.ne e.symm) _, (hD1.setCell (a := ⟨b, 1, none⟩) (fun e => h.ne e.symm) _ : (w1.setCell ⟨b, 1, none⟩ (.int .i64 0)).ownsMap _ _ _ _ _ _).isMap, fun s => ?_⟩, h.asc.filter _, fun s hs => h.ok s (mem_out.1 hs).1, by have := h.room; omega, h.lim⟩, (Trn.ofGrown hg1).setCell _ _⟩
  · rw [box_set (hb1.trans h.box)]
    congr 4
    have : (total S : Int) - (k.size : Int) = (total (out k S) : Int) := by omega
    rw [this]
  · rw [mem_out]
    by_cases e : s = k
    · subst e
      rw [has_del_same]; simp
    · rw [has_del_other (fun e2 => e (keyL_eq.1 e2)), hH s]
      exact ⟨fun h => ⟨h, e⟩, fun h => h.1⟩

theorem drop_no {w : World} {b m q n : Nat} {S : List ByteArray} (h : StoreIn w b m q n S) (k : ByteArray) (hk : k.size ≤ maxLen) (hn : inB S k = false) :
    Calls Try.prog 10 #[.pointer (some ⟨b, 0, none⟩), .string k] w fun e w' => e = .returned (.iface 29 (.int .i64 3)) ∧ Below w.heap.size w w' := by
  have hc := has_any h k hk
  rw [hn] at hc
  have HC : Hid (Calls _ _ _ _ _) := hc
  clear hc h hn
  go_enter Try.func10, Try.ntmps10
  go_wp2_with fail
  refine HC.out.mono ?_
  rintro e w' ⟨rfl, hb⟩
  go_wp2
  go_ret
  exact ⟨rfl, hb⟩

theorem drop_ok {w : World} {b m q n : Nat} {S : List ByteArray} (h : StoreIn w b m q n S) (k : ByteArray) (hn : inB S k = true) :
    Calls Try.prog 10 #[.pointer (some ⟨b, 0, none⟩), .string k] w fun e w' => e = .returned .nilIface ∧ StoreIn w' b m q n (out k S) ∧ Trn b m w w' := by
  have hmem := inB_iff.1 hn
  have hks := h.ok k hmem
  have hc := has_any h k (by unfold maxLen; omega)
  rw [hn] at hc
  have HC : Hid (Calls _ _ _ _ _) := hc
  have HR : Hid (∀ w1, Below w.heap.size w w1 → Calls Try.prog 20 #[.pointer (some ⟨b, 0, none⟩), .string k] w1 fun e w' => e = .returned (.tuple #[]) ∧ StoreIn w' b m q n (out k S) ∧ Trn b m w1 w') := fun w1 hb => remove_any (h.below hb) k hmem
  clear hc h hn hmem hks
  go_enter Try.func10, Try.ntmps10
  go_wp2_with fail
  refine HC.out.mono ?_
  rintro e w1 ⟨rfl, hb⟩
  go_wp2_with fail
  refine (HR.out w1 hb).mono ?_
  rintro e w2 ⟨rfl, hs, ht⟩
  go_wp2
  go_ret
  exact ⟨rfl, hs, (Trn.of hb).trans ht⟩

theorem put_arg {w : World} {b : Nat} (k : ByteArray) (hk : k.size ≤ maxLen) (hbad : ¬ (1 ≤ k.size ∧ k.size ≤ 64)) :
    Calls Try.prog 13 #[.pointer (some ⟨b, 0, none⟩), .string k] w fun e w' => e = .returned (.iface 29 (.int .i64 1)) ∧ w' = w := by
  unfold maxLen at hk
  have hlen := len_text k _ rfl
  generalize k.size = y at hk hbad hlen
  by_cases h0 : y < 1
  · clear hbad
    go_enter Try.func13, Try.ntmps13
    go_wp2
    go_ret
    exact ⟨rfl, rfl⟩
  · have h1 : 64 < y := by omega
    have h2 : 1 ≤ y := by omega
    clear hbad h0
    go_enter Try.func13, Try.ntmps13
    go_wp2
    go_ret
    exact ⟨rfl, rfl⟩

theorem put_old {w : World} {b m q n : Nat} {S : List ByteArray} (h : StoreIn w b m q n S) (k : ByteArray) (h1 : 1 ≤ k.size) (h2 : k.size ≤ 64) (hn : inB S k = true) :
    Calls Try.prog 13 #[.pointer (some ⟨b, 0, none⟩), .string k] w fun e w' => e = .returned .nilIface ∧ Below w.heap.size w w' := by
  have hc := has_any h k (by unfold maxLen; omega)
  rw [hn] at hc
  have HC : Hid (Calls _ _ _ _ _) := hc
  clear hc h hn
  have hlen := len_text k _ rfl
  generalize k.size = y at h1 h2 hlen
  go_enter Try.func13, Try.ntmps13
  go_wp2_with fail
  refine HC.out.mono ?_
  rintro e w1 ⟨rfl, hb⟩
  go_wp2
  go_ret
  exact ⟨rfl, hb⟩

set_option maxHeartbeats 1000000 in
theorem put_full {w : World} {b m q n : Nat} {S : List ByteArray} (h : StoreIn w b m q n S) (k : ByteArray) (h1 : 1 ≤ k.size) (h2 : k.size ≤ 64) (hn : inB S k = false) (hf : q < k.size + total S) :
    Calls Try.prog 13 #[.pointer (some ⟨b, 0, none⟩), .string k] w fun e w' => e = .returned (.iface 29 (.int .i64 5)) ∧ Below w.heap.size w w' := by
  have hc := has_any h k (by unfold maxLen; omega)
  rw [hn] at hc
  have HC : Hid (Calls _ _ _ _ _) := hc
  have hr := h.room
  have hl := h.lim
  have HB : Hid (∀ w1, Below w.heap.size w w1 → _) := fun w1 (hb : Below w.heap.size w w1) => box_cells (h.below hb).box
  clear hc h hn
  have hlen := len_text k _ rfl
  generalize k.size = y at h1 h2 hlen hf
  generalize total S = z at hf hr HB
  go_enter Try.func13, Try.ntmps13
  go_wp2_with fail
  refine HC.out.mono ?_
  rintro e w1 ⟨rfl, hb⟩
  obtain ⟨c0, c1, c2, _⟩ := HB.out w1 hb
  have hd : decide ((q : Int) - (z : Int) < (y : Int)) = true := decide_eq_true (by omega)
  have hw : IntKind.i64.wrap ((q : Int) - (z : Int)) = (q : Int) - (z : Int) := by rw [IntKind.wrap_i64]; omega
  clear HB HC
  go_wp2_with fail
  go_quiet (fail)
  go_wp2
  go_ret
  exact ⟨rfl, below_drewN hb _⟩

/-- 'm[k] = v' at a step of a region that draws, its run being known. -/
theorem step_update {ops : Array Oper} {o : Oper} {a : Act} {K : Act → World → Prop} {Q : Exit → Act → World → Prop} {E : Prop} {w w' : World} (hgd : o.guard = none) (m x v : Operand)
    (ho : o.op = .mapUpdate 45 m x v) (vm vx vv : Value) (hm : a.eval m = vm) (hx : a.eval x = vx) (hv : a.eval v = vv)
    (hrun : (Instr.mapUpdate 45 vm vx vv).run Try.prog w = .ok () w') (h : K (a.put o.dst undef) w') :
    if Region.wanted o (yielded ops a.tmps) = true then o.wp Try.prog a w K Q else E := by
  have hw : Region.wanted o (yielded ops a.tmps) = true := by simp [Region.wanted, hgd]
  rw [if_pos hw]
  unfold Oper.wp
  simp [execOp, ho, hm, hx, hv, hrun, Result.andThen]
  exact h

theorem put_made {w w1 : World} {b m q n : Nat} {S : List ByteArray} (h : StoreIn w b m q n S) {k : ByteArray} {D : DataW Unit} (hM : IsMap D) (hH : ∀ s : ByteArray, has D (keyL s) = true ↔ s ∈ S) (h1 : 1 ≤ k.size) (h2 : k.size ≤ 64) (hn : k ∉ S) (hf : k.size + total S ≤ q)
    (hD1 : w1.ownsMap Try.prog 9 unitElem m (n + 1) (D.put (keyL k) (.agg []))) (hg : w.grownBy w1 (some m)) :
    StoreIn (w1.setCell ⟨b, 1, none⟩ (.int .i64 ((total S : Int) + (k.size : Int)))) b m q (n + 1) (ins k S) ∧ Trn b m w (w1.setCell ⟨b, 1, none⟩ (.int .i64 ((total S : Int) + (k.size : Int)))) := by
  have hb1 : w1.heap[b]? = w.heap[b]? := hg.block b h.lt.1 (fun e => h.ne (Option.some.inj e))
  have hti := total_ins k S
  refine ⟨⟨?_, ⟨_, hD1.setCell (fun e => h.ne e.symm) _, hD1.isMap, fun s => ?_⟩, asc_ins h.asc hn, fun s hs => ?_, by omega, h.lim⟩, (Trn.ofGrown hg).setCell _ _⟩
  · rw [box_set (hb1.trans h.box)]
    have : (total S : Int) + (k.size : Int) = (total (ins k S) : Int) := by omega
    rw [this]
  · rw [mem_ins]
    by_cases e : s = k
    · subst e
      exact ⟨fun _ => .inl rfl, fun _ => has_put_same hM (keyLit s) _⟩
    · rw [has_put_other (fun e2 => e (keyL_eq.1 e2)), hH s]
      exact ⟨.inr, fun h => h.resolve_left e⟩
  · rcases mem_ins.1 hs with rfl | hs
    · exact ⟨h1, h2⟩
    · exact h.ok s hs

set_option maxHeartbeats 2000000 in
theorem put_new {w : World} {b m q n : Nat} {S : List ByteArray} (h : StoreIn w b m q n S) (k : ByteArray) (h1 : 1 ≤ k.size) (h2 : k.size ≤ 64) (hn : inB S k = false) (hf : k.size + total S ≤ q) (hnn : n ≤ 1000000) :
    Calls Try.prog 13 #[.pointer (some ⟨b, 0, none⟩), .string k] w fun e w' => e = .returned .nilIface ∧ StoreIn w' b m q (n + 1) (ins k S) ∧ Trn b m w w' := by
  have hc := has_any h k (by unfold maxLen; omega)
  rw [hn] at hc
  have HC : Hid (Calls _ _ _ _ _) := hc
  have hr := h.room
  have hl := h.lim
  have HB : Hid (∀ w1, Below w.heap.size w w1 → _) := fun w1 (hb : Below w.heap.size w w1) => box_cells (h.below hb).box
  have HCL : Hid (∀ w1 W, Below w.heap.size w w1 → Below w1.heap.size w1 W → Calls Try.prog 22 #[.string k] W fun e w' => e = .returned (.string k) ∧ w'.cell? ⟨b, 2, none⟩ = some (.map (some m)) ∧
      ∃ w5, (Instr.mapUpdate 45 (.map (some m)) (.string k) (.agg #[])).run Try.prog w' = .ok () w5 ∧ w5.cell? ⟨b, 1, none⟩ = some (.int .i64 (total S : Int)) ∧ w5.frozen? ⟨b, 1, none⟩ = false ∧
        Hid (StoreIn (w5.setCell ⟨b, 1, none⟩ (.int .i64 ((total S : Int) + (k.size : Int)))) b m q (n + 1) (ins k S) ∧ Trn b m w (w5.setCell ⟨b, 1, none⟩ (.int .i64 ((total S : Int) + (k.size : Int)))))) := by
    intro w1 W hb hW
    refine (clone_any k W (by omega)).mono ?_
    rintro e w' ⟨rfl, hb'⟩
    have hb2 : Below w.heap.size w w' := hb.trans ((hW.mono hb.size).trans (hb'.mono (Nat.le_trans hb.size hW.size)))
    have h' := h.below hb2
    obtain ⟨D, hD, hM, hH⟩ := h'.set
    obtain ⟨w5, hrun, hD5, hg5⟩ := hD.update keyed9 Try.underlying45 (by unfold maxLen; omega) (keyL_ok (s := k) (by unfold maxLen; omega)) unitElem_mk
    have hb5 : w5.heap[b]? = w'.heap[b]? := hg5.block b h'.lt.1 (fun e => h'.ne (Option.some.inj e))
    obtain ⟨_, _, c2, _⟩ := box_cells h'.box
    obtain ⟨_, d1, _, _, f1, _⟩ := box_cells (hb5.trans h'.box)
    obtain ⟨hs, ht⟩ := put_made h' hM hH h1 h2 (inB_not hn) hf hD5 hg5
    exact ⟨rfl, c2, w5, hrun, d1, f1, hs, (Trn.of hb2).trans ht⟩
  clear hc h hn
  have hlen := len_text k _ rfl
  generalize k.size = y at h1 h2 hlen hf HCL
  generalize total S = z at hf hr HB HCL
  go_enter Try.func13, Try.ntmps13
  go_wp2_with fail
  refine HC.out.mono ?_
  rintro e w1 ⟨rfl, hb⟩
  obtain ⟨c0, c1, c2, _⟩ := HB.out w1 hb
  have hd : decide ((q : Int) - (z : Int) < (y : Int)) = false := decide_eq_false (by omega)
  have hw : IntKind.i64.wrap ((q : Int) - (z : Int)) = (q : Int) - (z : Int) := by rw [IntKind.wrap_i64]; omega
  have HC2 : Hid (∀ W, Below w1.heap.size w1 W → _) := fun W => HCL.out w1 W hb
  clear HB HC HCL
  go_wp2_with fail
  go_quiet (fail)
  go_wp2_with fail
  go_region_law
    (first
      | (go_simp; go_at_call 22; refine (HC2.out _ ?_).mono ?_; (first | exact below_drewN (Below.refl _ _) _ | exact (below_drewN (Below.refl _ _) _).drew | exact Below.refl _ _ | exact (Below.refl _ _).drew); rintro e w4 ⟨rfl, c4, w5, hrun5, c5, f5, hF5⟩)
      | (refine step_update (by rfl) _ _ _ (by rfl) _ _ _ (by rfl) (by rfl) (by rfl) hrun5 ?_))
  all_goals go_wp2
  all_goals go_ret
  all_goals exact ⟨rfl, hF5.out⟩
end Go.Proofs.Ytkmlekgfbmoimaa.Blobs
