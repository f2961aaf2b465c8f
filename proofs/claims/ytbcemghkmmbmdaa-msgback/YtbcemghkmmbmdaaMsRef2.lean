/-
  The document's answer: a message's bytes, whole.
-/
import Derived.Test.YtbcemghkmmbmdaaMsRef
import Derived.Test.YtbcemghkmmbmdaaMsWr4
namespace Go.Proofs.Ytbcemghkmmbmdaa.Msg
open Go.RowKit Route Order

theorem puts_az {R : List UInt8} {B : Nat} {W0 wr : World} {v : Value} {l : List Pf} {a : Option Addr} {n cap : Nat} {rest : List UInt8} (hn : n = l.length) (hl : LiesP wr a l) (hm : n ≤ 64) (hF : ∀ s ∈ l, PfOk s) (h : Pz R B W0 wr v (encPs l ++ rest)) :
    Calls Try.prog 32 #[.slice a n cap] wr fun e w' => ∃ ad k c, e = .returned (.slice (some ad) k c) ∧ Hid (Az R B W0 v (encPs l) rest ad k wr w') := by
  refine (refPuts_any a n cap l wr hn hl hm hF).mono ?_
  rintro e w' ⟨v', rfl, hb'⟩
  obtain ⟨ad, k, c, rfl, hr⟩ := Az.of h hb' (by have := digs_pos l.length; unfold encPs; rw [List.length_append]; omega)
  exact ⟨ad, k, c, rfl, hr⟩

/-- 'append' at a step of a region that draws, its run being known. -/
theorem step_run {ops : Array Oper} {o : Oper} {a : Act} {K : Act → World → Prop} {Q : Exit → Act → World → Prop} {E : Prop} {w w' : World} (hgd : o.guard = none) (s x : Operand) (t : TypeId)
    (ho : o.op = .call { callee := .builtin .append, args := #[s, x], argTypes := #[t, t] }) (vs vx v' : Value) (hs : a.eval s = vs) (hx : a.eval x = vx)
    (hrun : (Builtin.append_ #[t, t] o.type #[vs, vx]).run Try.prog w = .ok v' w') (h : K (a.put o.dst v') w') :
    if Region.wanted o (yielded ops a.tmps) = true then o.wp Try.prog a w K Q else E := by
  have hw : Region.wanted o (yielded ops a.tmps) = true := by simp [Region.wanted, hgd]
  rw [if_pos hw]
  unfold Oper.wp execOp
  simp only [ho, resolve, invoke, builtin, Sem.run_bind, Sem.run_pure, Result.andThen_ok, List.map_toArray, List.map_cons, List.map_nil, hs, hx, hrun]
  exact h

theorem buf_later {B : Nat} {v : Value} {l : List UInt8} {W0 w w' : World} (h : Buf B v l W0 w) (hb : Below w.heap.size w w') : Buf B v l W0 w' :=
  ⟨bytes_later h.1 hb, h.2.1.trans (hb.mono h.2.2), Nat.le_trans h.2.2 hb.size⟩
theorem buf_base {B B' : Nat} {v : Value} {l : List UInt8} {W0 W1 w : World} (h : Buf B v l W1 w) (hb : Below B' W0 W1) (hB : B' ≤ B) : Buf B' v l W0 w :=
  ⟨⟨h.1.1, h.1.2.imp id fun ⟨g, cap, cur, h1, h2, h3⟩ => ⟨g, cap, cur, h1, Nat.le_trans hB h2, h3⟩⟩, hb.trans (h.2.1.mono hB), Nat.le_trans hB h.2.2⟩

/-- Two rows of bytes, one behind the other. -/
theorem app_two {B : Nat} {va vb : Value} {xs ys : List UInt8} {W0 w : World} (hA : Buf B va xs W0 w) (hB : ∃ B' W', Buf B' vb ys W' w) (hy : 0 < ys.length) (hlen : xs.length + ys.length ≤ 1000) (ty : TypeId) :
    ∃ v' w', (Builtin.append_ #[31, 31] ty #[va, vb]).run Try.prog w = .ok v' w' ∧ Buf B v' (xs ++ ys) W0 w' := by
  obtain ⟨B', W', hB⟩ := hB
  obtain ⟨a1, c1, rfl, _, _, hl, hn, _⟩ := hB.form
  obtain ⟨i0, hi, hz0, hz1, hz2⟩ := info_parts info5
  cases a1 with
  | none => have := (hn rfl).1; rw [this] at hy; simp at hy
  | some ad =>
    obtain ⟨v', w', hrun, h2, h3, _, h5⟩ := run_append_own_at (P := Try.prog) w B 31 ty 5 i0 (.int .u8 0) 1 1 Try.underlying31 hi hz0 hz1 hz2 rfl (by decide) va xs.length (bv xs) hA.1 ad ys.length c1 (bv ys) (by simp [bv])
      (by
        intro j u hj
        rcases hl with rfl | ⟨y, hy, hl⟩
        · simp [bv] at hj
        · simp only [Option.some.injEq] at hy
          subst hy
          exact hl j u hj)
      (bv_one ys) (by unfold maxLen; omega) (by omega) hA.2.2
    refine ⟨v', w', hrun, hA.grown (l' := xs ++ ys) ?_ h3⟩
    rw [bv_app, List.length_append]
    exact h2

/-- What is known in the first region. -/
structure S0 (W1 : World) (b : Nat) (k f : Int) (W : World) : Prop where
  bel : Below W1.heap.size W1 W
  c0 : W.cell? ⟨b, 0, none⟩ = some (.int .i64 k)
  c1 : W.cell? ⟨b, 1, none⟩ = some (.int .i64 f)

set_option maxHeartbeats 16000000 in
set_option maxRecDepth 100000 in
theorem refPut_any (k f v s : Nat) (bd : ByteArray) (pl : List Pf) (cl : List Ch) (K : MsOk ⟨(k : Int), (f : Int), (v : Int), (s : Int), bd, pl, cl⟩) (a : Option Addr) (n c : Nat) (a' : Option Addr) (n' c' : Nat) (w : World) (hM : MsIn w ⟨(k : Int), (f : Int), (v : Int), (s : Int), bd, pl, cl⟩ a n a' n') :
    Calls Try.prog 14 #[.agg #[.int .i64 (k : Int), .int .i64 (f : Int), .int .i64 (v : Int), .int .i64 (s : Int), .string bd, .slice a n c, .slice a' n' c']] w fun e w' => ∃ r, e = .returned r ∧ Buf w.heap.size r (encM ⟨(k : Int), (f : Int), (v : Int), (s : Int), bd, pl, cl⟩) w w' := by
  obtain ⟨hn, hp, hn', hc⟩ := hM
  simp only at hn hp hn' hc
  have k1 := K.k
  have k2 := K.f
  have k3 := K.v
  have k4 := K.s
  have hb4 := K.b
  have k5 := K.pn
  have k6 := K.cn
  have HPl : Hid (∀ x ∈ pl, PfOk x) := K.p
  have HCl : Hid (∀ x ∈ cl, ChOk x) := K.c
  simp only at k1 k2 k3 k4 hb4 k5 k6
  have k7 : (s : Int) ≤ 1000 := by split at k4 <;> omega
  have hn64 : n ≤ 64 := by omega
  have hn13 : n' ≤ 13 := by omega
  have HRL : Hid ((encM ⟨(k : Int), (f : Int), (v : Int), (s : Int), bd, pl, cl⟩).length ≤ 100000000) := by
    have d1 := digs_len10 (n := k) (by omega)
    have d2 := digs_len10 (n := f) (by omega)
    have d3 := digs_len10 (n := v) (by omega)
    have d4 := digs_len10 (n := s) (by omega)
    have d6 := digs_len10 (n := pl.length) (by omega)
    have d8 := digs_len10 (n := cl.length) (by omega)
    have d7 := flatP_len HPl.out
    have d9 := flatC_len HCl.out
    have d5 : (txt bd).length ≤ 4106 := by
      have h1 := digs_len10 (n := bd.size) (by omega)
      have h2 : (txt bd).length = (digs bd.size).length + bd.size := by unfold txt; rw [List.length_append]; simp
      omega
    show _ ≤ _
    unfold encM encPs
    simp only [List.length_append, Int.toNat_natCast]
    omega
  have HRE : Hid (encM ⟨(k : Int), (f : Int), (v : Int), (s : Int), bd, pl, cl⟩ = (digs k ++ digs f) ++ (digs v ++ (digs s ++ (txt bd ++ (encPs pl ++ (digs n' ++ flatC (cl.drop 0))))))) := by
    show _ = _
    rw [hn', List.drop_zero]
    simp [encM]
  generalize encM ⟨(k : Int), (f : Int), (v : Int), (s : Int), bd, pl, cl⟩ = R at *
  obtain ⟨W1, hW1⟩ : ∃ W1, W1 = w.alloc (.cells #[.int .i64 (k : Int), .int .i64 (f : Int), .int .i64 (v : Int), .int .i64 (s : Int), .string bd, .slice a n c, .slice a' n' c'] 25) := ⟨_, rfl⟩
  have HW1 : Hid (W1 = _) := hW1
  have hB1 : Below w.heap.size w W1 := by rw [hW1]; exact (Below.refl _ _).alloc (Nat.le_refl _) _
  have HB1 : Hid (Below w.heap.size w W1) := hB1
  have hbx : W1.heap[w.heap.size]? = some (.cells #[.int .i64 (k : Int), .int .i64 (f : Int), .int .i64 (v : Int), .int .i64 (s : Int), .string bd, .slice a n c, .slice a' n' c'] 25 (0, 0)) := by rw [hW1]; exact box_new _ _ _
  have HX : Hid (∀ W, Below W1.heap.size W1 W → W.heap[w.heap.size]? = some (.cells #[.int .i64 (k : Int), .int .i64 (f : Int), .int .i64 (v : Int), .int .i64 (s : Int), .string bd, .slice a n c, .slice a' n' c'] 25 (0, 0)) ∧ LiesP W a pl ∧ LiesC W a' cl) := fun W hb => ⟨box_stays hbx hb (Nat.le_refl _), (hp.below hB1 (Nat.le_refl _)).below hb (Nat.le_refl _), (hc.below hB1 (Nat.le_refl _)).below hb (Nat.le_refl _)⟩
  have HN : Hid (n = pl.length ∧ n' = cl.length) := ⟨hn, hn'⟩
  have d1 := digs_len10 (n := k) (by omega)
  have d2 := digs_len10 (n := f) (by omega)
  have d3 := digs_pos f
  have HK1 : Hid (∀ W, S0 W1 w.heap.size (k : Int) (f : Int) W → Calls Try.prog 30 #[.int .i64 (k : Int)] W fun e w' => ∃ va, e = .returned va ∧ Hid (Buf W.heap.size va (digs k) W w') ∧ S0 W1 w.heap.size (k : Int) (f : Int) w') := fun W hS => by
    refine (number_any k W (by omega)).mono ?_
    rintro e w' ⟨va, rfl, hb⟩
    exact ⟨va, rfl, hb, hS.bel.trans (hb.2.1.mono hS.bel.size), cell_kept hb.2.1 hS.c0, cell_kept hb.2.1 hS.c1⟩
  have HK2 : Hid (∀ W, S0 W1 w.heap.size (k : Int) (f : Int) W → Calls Try.prog 30 #[.int .i64 (f : Int)] W fun e w' => ∃ vb, e = .returned vb ∧ Hid (Buf W.heap.size vb (digs f) W w') ∧ S0 W1 w.heap.size (k : Int) (f : Int) w') := fun W hS => by
    refine (number_any f W (by omega)).mono ?_
    rintro e w' ⟨va, rfl, hb⟩
    exact ⟨va, rfl, hb, hS.bel.trans (hb.2.1.mono hS.bel.size), cell_kept hb.2.1 hS.c0, cell_kept hb.2.1 hS.c1⟩
  have HA1 : Hid (∀ W wA wB va vb ty, S0 W1 w.heap.size (k : Int) (f : Int) W → Buf W.heap.size va (digs k) W wA → Buf wA.heap.size vb (digs f) wA wB → ∃ v' w', (Builtin.append_ #[31, 31] ty #[va, vb]).run Try.prog wB = .ok v' w' ∧ S0 W1 w.heap.size (k : Int) (f : Int) w' ∧ Hid (Buf W1.heap.size v' (digs k ++ digs f) W1 w')) := fun W wA wB va vb ty hS hA hB => by
    obtain ⟨v', w', hr, hb⟩ := app_two (buf_later hA hB.2.1) ⟨_, _, hB⟩ d3 (by omega) ty
    exact ⟨v', w', hr, ⟨hS.bel.trans (hb.2.1.mono hS.bel.size), cell_kept hb.2.1 hS.c0, cell_kept hb.2.1 hS.c1⟩, buf_base hb hS.bel hS.bel.size⟩
  have HA2 : Hid (∀ W wA wB va vb ty, S0 W1 w.heap.size (k : Int) (f : Int) W → Buf W.heap.size vb (digs f) W wA → Buf wA.heap.size va (digs k) wA wB → ∃ v' w', (Builtin.append_ #[31, 31] ty #[va, vb]).run Try.prog wB = .ok v' w' ∧ S0 W1 w.heap.size (k : Int) (f : Int) w' ∧ Hid (Buf W1.heap.size v' (digs k ++ digs f) W1 w')) := fun W wA wB va vb ty hS hB hA => by
    obtain ⟨v', w', hr, hb⟩ := app_two hA ⟨_, _, buf_later hB hA.2.1⟩ d3 (by omega) ty
    have hS2 : S0 W1 w.heap.size (k : Int) (f : Int) wA := ⟨hS.bel.trans (hB.2.1.mono hS.bel.size), cell_kept hB.2.1 hS.c0, cell_kept hB.2.1 hS.c1⟩
    exact ⟨v', w', hr, ⟨hS2.bel.trans (hb.2.1.mono hS2.bel.size), cell_kept hb.2.1 hS2.c0, cell_kept hb.2.1 hS2.c1⟩, buf_base hb hS2.bel hS2.bel.size⟩
  obtain ⟨y0, y1, y2, y3, y4, y5, y6⟩ := seven7 hbx
  have HS1 : Hid (S0 W1 w.heap.size (k : Int) (f : Int) W1.drew) := ⟨(Below.refl _ _).drew, by simpa using y0, by simpa using y1⟩
  clear hn hp hn' hc hbx hW1 hB1 K k1 k2 k4 d1 d2 d3 y2 y3 y4 y5 y6
  go_enter Try.func14, Try.ntmps14
  go_wp2_with fail
  rw [← HW1.out]
  go_region_law
    (first
      | (go_simp; go_at_call 30; with_reducible refine (HK1.out _ (by first | exact HS1.out | assumption)).mono ?_; rintro e wA ⟨va, rfl, hva, hSA⟩; have y0 := hSA.c0; have y1 := hSA.c1)
      | (go_simp; go_at_call 30; with_reducible refine (HK2.out _ (by first | exact HS1.out | assumption)).mono ?_; rintro e wB ⟨vb, rfl, hvb, hSB⟩; have y0 := hSB.c0; have y1 := hSB.c1)
      | (obtain ⟨v5, w5, hrun5, hS5, HU5⟩ := HA1.out _ _ _ _ _ 31 (by first | exact HS1.out | assumption) hva.out hvb.out; refine step_run (by rfl) _ _ _ (by rfl) _ _ _ (by rfl) (by rfl) hrun5 ?_)
      | (obtain ⟨v5, w5, hrun5, hS5, HU5⟩ := HA2.out _ _ _ _ _ 31 (by first | exact HS1.out | assumption) hvb.out hva.out; refine step_run (by rfl) _ _ _ (by rfl) _ _ _ (by rfl) (by rfl) hrun5 ?_))
  all_goals
    have HP0 : Hid (Pz R W1.heap.size W1 w5 v5 (digs v ++ (digs s ++ (txt bd ++ (encPs pl ++ (digs n' ++ flatC (cl.drop 0))))))) := ⟨digs k ++ digs f, HRE.out, HU5.out⟩
    clear HU5 hS5 hva hvb hSA hSB y0 y1
    obtain ⟨-, -, y2, y3, y4, y5, y6⟩ := seven7 (HX.out _ HP0.out.bel).1
    have HC2 : Hid (Calls _ _ _ _ _) := number_az (n := v) (by omega) HP0.out
    go_wp2_with fail
    refine HC2.out.mono ?_
    rintro e w2 ⟨ad2, k2', c2, rfl, HA2⟩
    clear HC2 y2 y3 y4 y5 y6
    go_wp2_with (at_builtin; refine wpList_az HRL.out rfl (.tmp 12) (.tmp 15) rfl rfl rfl HA2.out ?_; intro v2 z2' HD2; have HP2 : Hid (Pz R W1.heap.size W1 z2' v2 _) := HD2.out.1; obtain ⟨-, -, y2, y3, y4, y5, y6⟩ := seven7 (HX.out _ HP2.out.bel).1)
    have HC3 : Hid (Calls _ _ _ _ _) := number_az (n := s) (by omega) HP2.out
    clear HA2 HD2 HP0
    go_wp2_with fail
    refine HC3.out.mono ?_
    rintro e w3 ⟨ad3, k3', c3, rfl, HA3⟩
    clear HC3 y2 y3 y4 y5 y6
    go_wp2_with (at_builtin; refine wpList_az HRL.out rfl (.tmp 17) (.tmp 20) rfl rfl rfl HA3.out ?_; intro v3 z3' HD3; have HP3 : Hid (Pz R W1.heap.size W1 z3' v3 _) := HD3.out.1; obtain ⟨-, -, y2, y3, y4, y5, y6⟩ := seven7 (HX.out _ HP3.out.bel).1)
    have HC4 : Hid (Calls _ _ _ _ _) := text_az (s := bd) (by omega) HP3.out
    clear HA3 HD3 HP2
    go_wp2_with fail
    refine HC4.out.mono ?_
    rintro e w4 ⟨ad4, k4', c4, rfl, HA4⟩
    clear HC4 y2 y3 y4 y5 y6
    go_wp2_with (at_builtin; refine wpList_az HRL.out rfl (.tmp 22) (.tmp 25) rfl rfl rfl HA4.out ?_; intro v4 z4' HD4; have HP4 : Hid (Pz R W1.heap.size W1 z4' v4 _) := HD4.out.1; obtain ⟨-, -, y2, y3, y4, y5, y6⟩ := seven7 (HX.out _ HP4.out.bel).1)
    have HC5 : Hid (Calls _ _ _ _ _) := puts_az (cap := c) HN.out.1 (HX.out _ HP4.out.bel).2.1 hn64 HPl.out HP4.out
    clear HA4 HD4 HP3
    go_wp2_with fail
    refine HC5.out.mono ?_
    rintro e w5 ⟨ad5, k5', c5, rfl, HA5⟩
    clear HC5 y2 y3 y4 y5 y6
    go_wp2_with (at_builtin; refine wpList_az HRL.out rfl (.tmp 27) (.tmp 30) rfl rfl rfl HA5.out ?_; intro v5' z5' HD5; have HP5 : Hid (Pz R W1.heap.size W1 z5' v5' _) := HD5.out.1; obtain ⟨-, -, y2, y3, y4, y5, y6⟩ := seven7 (HX.out _ HP5.out.bel).1)
    have HC6 : Hid (Calls _ _ _ _ _) := number_az (n := n') (by omega) HP5.out
    clear HA5 HD5 HP4
    go_wp2_with fail
    refine HC6.out.mono ?_
    rintro e w6 ⟨ad6, k6', c6, rfl, HA6⟩
    clear HC6 y2 y3 y4 y5 y6
    go_wp2_with (at_builtin; refine wpList_az HRL.out rfl (.tmp 32) (.tmp 36) rfl rfl rfl HA6.out ?_; intro v6 z6' HD6; have HP6 : Hid (Pz R W1.heap.size W1 z6' v6 _) := HD6.out.1)
    clear HA6 HD6 HP5
    go_wp2
    go_loopw [3, 4] (fun t3 t4 wr => ∃ i : Nat, t4 = .int .i64 (i : Int) ∧ i ≤ n' ∧ Hid (Pz R W1.heap.size W1 wr t3 (flatC (cl.drop i)))) (fun _ t4 _ => n' - (intOf t4).toNat)
    case atStart => exact ⟨0, rfl, Nat.zero_le _, HP6⟩
    case round =>
      clear HP6
      obtain ⟨i, rfl, hi, HP⟩ := hrel
      obtain ⟨-, -, y2, y3, y4, y5, y6⟩ := seven7 (HX.out _ HP.out.bel).1
      by_cases hin : i < n'
      · have hil : i < cl.length := by rw [← HN.out.2]; exact hin
        obtain ⟨x, hx, hch⟩ := (HX.out W1 (Below.refl _ _)).2.2.at hil
        subst hx
        rw [chAt_get hil] at hch
        have hix := index_ch x n' c' i hin
        have hOk := HCl.out _ (List.getElem_mem hil)
        have HD := flatC_drop hil
        generalize x.add (i * 3) = q at hch hix
        generalize cl[i] = ch at hch hOk HD
        obtain ⟨v0, v1', fr⟩ := ch
        obtain ⟨hc0, hc1, fa, fc, hc3, hf3⟩ := hch
        simp only at hc0 hc1 hc3 hf3
        have k1 := hOk.f
        have k2 := hOk.v
        have k4 := hOk.n
        have HFR : Hid (∀ x ∈ fr, PfOk x) := hOk.p
        simp only at k1 k2 k4
        obtain ⟨z0, rfl⟩ : ∃ z : Nat, v0 = (z : Int) := ⟨v0.toNat, by omega⟩
        obtain ⟨z1, rfl⟩ : ∃ z : Nat, v1' = (z : Int) := ⟨v1'.toNat, by omega⟩
        obtain ⟨kn, hkn⟩ : ∃ kn, kn = fr.length := ⟨_, rfl⟩
        have HKN : Hid (kn = fr.length) := hkn
        rw [← hkn] at hc3
        have HY : Hid (∀ W, Below W1.heap.size W1 W → W.cell? q = some (.int .i64 (z0 : Int)) ∧ W.cell? ⟨q.block, q.off + 1, none⟩ = some (.int .i64 (z1 : Int)) ∧ W.cell? ⟨q.block, q.off + 2, none⟩ = some (.slice fa kn fc) ∧ LiesP W fa fr) := fun W hb => ⟨cell_below hb (Nat.le_refl _) hc0, cell_below hb (Nat.le_refl _) hc1, cell_below hb (Nat.le_refl _) hc3, hf3.below hb (Nat.le_refl _)⟩
        have HDE : Hid (flatC (cl.drop i) = digs z0 ++ (digs z1 ++ (encPs fr ++ flatC (cl.drop (i + 1))))) := by
          show _ = _
          rw [HD]
          simp [encC]
        have hkm : kn ≤ 64 := by omega
        have HPa : Hid (Pz R W1.heap.size W1 wr u3 _) := HP.out.cut HDE.out
        obtain ⟨g0, g1, g3, -⟩ := HY.out wr HPa.out.bel
        clear hc0 hc1 hc3 hf3 hOk HD hkn HP HDE
        have HC1 : Hid (Calls _ _ _ _ _) := number_az (n := z0) (by omega) HPa.out
        go_wp2_with fail
        refine HC1.out.mono ?_
        rintro e w7 ⟨ad1, k1', c1, rfl, HA1⟩
        clear HC1 g0 g1 g3 y2 y3 y4 y5 y6
        go_wp2_with (at_builtin; refine wpList_az HRL.out rfl (.tmp 45) (.tmp 52) rfl rfl rfl HA1.out ?_; intro v7 z7 HD1; have HP1 : Hid (Pz R W1.heap.size W1 z7 v7 _) := HD1.out.1; obtain ⟨-, -, y2, y3, y4, y5, y6⟩ := seven7 (HX.out _ HP1.out.bel).1; obtain ⟨g0, g1, g3, -⟩ := HY.out _ HP1.out.bel)
        have HC7 : Hid (Calls _ _ _ _ _) := number_az (n := z1) (by omega) HP1.out
        clear HA1 HD1 HPa
        go_wp2_with fail
        refine HC7.out.mono ?_
        rintro e w8 ⟨ad8, k8', c8, rfl, HA8⟩
        clear HC7 g0 g1 g3 y2 y3 y4 y5 y6
        go_wp2_with (at_builtin; refine wpList_az HRL.out rfl (.tmp 54) (.tmp 61) rfl rfl rfl HA8.out ?_; intro v8 z8 HD8; have HP8 : Hid (Pz R W1.heap.size W1 z8 v8 _) := HD8.out.1; obtain ⟨-, -, y2, y3, y4, y5, y6⟩ := seven7 (HX.out _ HP8.out.bel).1; obtain ⟨g0, g1, g3, hfl⟩ := HY.out _ HP8.out.bel)
        have HC9 : Hid (Calls _ _ _ _ _) := puts_az (cap := fc) HKN.out hfl hkm HFR.out HP8.out
        clear HA8 HD8 HP1 hfl
        go_wp2_with fail
        refine HC9.out.mono ?_
        rintro e w9 ⟨ad9, k9', c9, rfl, HA9⟩
        clear HC9 g0 g1 g3 y2 y3 y4 y5 y6
        go_wp2_with (at_builtin; refine wpList_az HRL.out rfl (.tmp 63) (.tmp 70) rfl rfl rfl HA9.out ?_; intro v9 z9 HD9; have HP9 : Hid (Pz R W1.heap.size W1 z9 v9 _) := HD9.out.1)
        clear HA9 HD9 HP8
        go_wp2
        go_roundw
        case rel => exact ⟨i + 1, by go_num, by omega, HP9⟩
        case measure => simp [intOf]; omega
      · have HE : Hid (Buf w.heap.size u3 R w wr) := by
          obtain ⟨xs, h1, h2⟩ := HP.out
          rw [List.drop_eq_nil_of_le (by rw [← HN.out.2]; omega)] at h1
          show Buf _ _ _ _ _
          rw [h1]
          have := buf_base h2 HB1.out HB1.out.size
          simpa [flatC] using this
        clear HP
        go_wp2
        go_ret
        exact ⟨_, rfl, HE.out⟩
end Go.Proofs.Ytbcemghkmmbmdaa.Msg
