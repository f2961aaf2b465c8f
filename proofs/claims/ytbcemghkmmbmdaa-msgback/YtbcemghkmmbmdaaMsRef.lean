/-
  The document's answer: a message's bytes.
-/
import Derived.Test.YtbcemghkmmbmdaaMsWr3
namespace Go.Proofs.Ytbcemghkmmbmdaa.Msg
open Go.RowKit Route Order

/-- What is still to be put of R. -/
def Pz (R : List UInt8) (B : Nat) (W0 w : World) (v : Value) (rest : List UInt8) : Prop := ∃ xs, R = xs ++ rest ∧ Buf B v xs W0 w
theorem Pz.bel {R : List UInt8} {B : Nat} {W0 w : World} {v : Value} {rest : List UInt8} (h : Pz R B W0 w v rest) : Below B W0 w := by
  obtain ⟨xs, _, h⟩ := h; exact h.2.1
theorem Pz.lt {R : List UInt8} {B : Nat} {W0 w : World} {v : Value} {rest : List UInt8} (h : Pz R B W0 w v rest) : B ≤ w.heap.size ∧ v.ownBlock ≠ some w.heap.size := by
  obtain ⟨xs, _, h⟩ := h
  exact ⟨h.2.2, fun e => by have := (h.1.lt _ e).2; omega⟩
theorem Pz.later {R : List UInt8} {B : Nat} {W0 w w' : World} {v : Value} {rest : List UInt8} (h : Pz R B W0 w v rest) (hb : Below w.heap.size w w') : Pz R B W0 w' v rest := by
  obtain ⟨xs, h1, h⟩ := h
  refine ⟨xs, h1, ⟨h.1.1, h.1.2.imp id fun ⟨g, cap, cur, q1, q2, q3, q4⟩ => ⟨g, cap, cur, q1, q2, (hb.block g (Array.getElem?_eq_some_iff.1 q3).1).trans q3, q4⟩⟩, h.2.1.trans (hb.mono h.2.2), Nat.le_trans h.2.2 hb.size⟩
theorem Pz.cut {R : List UInt8} {B : Nat} {W0 w : World} {v : Value} {rest r2 : List UInt8} (h : Pz R B W0 w v rest) (e : rest = r2) : Pz R B W0 w v r2 := e ▸ h

/-- Bytes that lie ready to be appended. -/
def Az (R : List UInt8) (B : Nat) (W0 : World) (v : Value) (e rest : List UInt8) (ad : Addr) (k : Nat) (wp w : World) : Prop :=
  k = e.length ∧ Go.Proofs.Ytbcemghkmmbmdaa.Lies w (some ad) e ∧ Pz R B W0 w v (e ++ rest) ∧ Below wp.heap.size wp w
def Dz (R : List UInt8) (B : Nat) (W0 : World) (v : Value) (rest : List UInt8) (w : World) (v' : Value) (w' : World) : Prop :=
  Pz R B W0 w' v' rest ∧ w.grownBy w' v.ownBlock ∧ (v'.ownBlock = v.ownBlock ∨ v'.ownBlock = some w.heap.size)

theorem Az.of {R : List UInt8} {B : Nat} {W0 wr w' : World} {v v' : Value} {e rest : List UInt8} (h : Pz R B W0 wr v (e ++ rest)) (hb : Buf wr.heap.size v' e wr w') (h0 : 1 ≤ e.length) :
    ∃ ad k c, v' = .slice (some ad) k c ∧ Hid (Az R B W0 v e rest ad k wr w') := by
  obtain ⟨a1, c1, rfl, _, _, hl, hn, _⟩ := hb.form
  cases a1 with
  | none => have := (hn rfl).1; subst this; simp at h0
  | some ad => exact ⟨ad, _, c1, rfl, rfl, hl, h.later hb.2.1, hb.2.1⟩
theorem num_az {R : List UInt8} {B : Nat} {W0 wr : World} {v : Value} {n : Nat} {rest : List UInt8} (hn : n < 18446744073709551616) (h : Pz R B W0 wr v (digs n ++ rest)) :
    Calls Try.prog 64 #[.int .u64 n] wr fun e w' => ∃ ad k c, e = .returned (.slice (some ad) k c) ∧ Hid (Az R B W0 v (digs n) rest ad k wr w') := by
  refine (refNum_any n wr hn).mono ?_
  rintro e w' ⟨v', rfl, hb'⟩
  obtain ⟨ad, k, c, rfl, hr⟩ := Az.of h hb' (digs_pos n)
  exact ⟨ad, k, c, rfl, hr⟩
theorem text_az {R : List UInt8} {B : Nat} {W0 wr : World} {v : Value} {s : ByteArray} {rest : List UInt8} (hs : s.size ≤ 1000000) (h : Pz R B W0 wr v (txt s ++ rest)) :
    Calls Try.prog 31 #[.string s] wr fun e w' => ∃ ad k c, e = .returned (.slice (some ad) k c) ∧ Hid (Az R B W0 v (txt s) rest ad k wr w') := by
  refine (refText_any s wr (by omega)).mono ?_
  rintro e w' ⟨v', rfl, hb'⟩
  obtain ⟨ad, k, c, rfl, hr⟩ := Az.of h hb' (by have := digs_pos s.size; unfold txt; rw [List.length_append]; omega)
  exact ⟨ad, k, c, rfl, hr⟩
theorem one_az {R : List UInt8} {B : Nat} {W0 wr : World} {v : Value} {b : UInt8} {z : Int} (hz : (b.toNat : Int) = z) {rest : List UInt8} (h : Pz R B W0 wr v ([b] ++ rest)) : Az R B W0 v [b] rest ⟨wr.heap.size, 0, none⟩ 1 wr (wr.alloc (.cells #[.int .u8 z] 5)) := by
  subst hz
  have hb : Below wr.heap.size wr (wr.alloc (.cells #[.int .u8 (b.toNat : Int)] 5)) := (Below.refl _ _).alloc (Nat.le_refl _) _
  refine ⟨rfl, .inr ⟨_, rfl, fun j u hj => ?_⟩, h.later hb, hb⟩
  match j, hj with
  | 0, hj => simp [bv] at hj; subst hj; simp [Addr.add]
  | (j + 1), hj => simp [bv] at hj

/-- 'append(out, b...)'. -/
theorem wpList_az {ops : Array Oper} {rst : List Oper} {o : Oper} {act : Act} {Q : Exit → Act → World → Prop} {w wp : World} {R : List UInt8} (hR : R.length ≤ 100000000) (hgd : o.guard = none) (sl x : Operand)
    (ho : o.op = .call { callee := .builtin .append, args := #[sl, x], argTypes := #[31, 31] })
    {B : Nat} {W0 : World} {v : Value} {e rest : List UInt8} {ad : Addr} {k c : Nat} (hs : act.eval sl = v) (hx : act.eval x = .slice (some ad) k c) (hr : Az R B W0 v e rest ad k wp w)
    (h : ∀ v' w', Hid (Dz R B W0 v rest w v' w') → wpList Try.prog ops Q rst (act.put o.dst v') w') : wpList Try.prog ops Q (o :: rst) act w := by
  obtain ⟨rfl, hl, ⟨xs, hxs, hb⟩, _⟩ := hr
  have hlen := congrArg List.length hxs
  simp only [List.length_append] at hlen
  obtain ⟨i0, hi, hz0, hz1, hz2⟩ := info_parts info5
  refine wpList_plain hgd fun K hK => ?_
  obtain ⟨v', w', hrun, h2, h3, _, h5⟩ := run_append_own_at (P := Try.prog) w B 31 o.type 5 i0 (.int .u8 0) 1 1 Try.underlying31 hi hz0 hz1 hz2 rfl (by decide) v xs.length (bv xs) hb.1 ad e.length c (bv e) (by simp [bv])
    (by
      intro j u hj
      rcases hl with rfl | ⟨y, hy, hl⟩
      · simp [bv] at hj
      · simp only [Option.some.injEq] at hy
        subst hy
        exact hl j u hj)
    (bv_one e) (by unfold maxLen; omega) (by omega) hb.2.2
  unfold Oper.wp execOp
  simp only [ho, resolve, invoke, builtin, Sem.run_bind, Sem.run_pure, Result.andThen_ok, List.map_toArray, List.map_cons, List.map_nil, hs, hx, hrun]
  refine hK _ _ (h v' w' ⟨⟨xs ++ e, by rw [hxs, List.append_assoc], hb.grown (l' := xs ++ e) ?_ h3⟩, h3, h5⟩)
  rw [bv_app, List.length_append]
  exact h2

/-- A box laid while bytes are put stays. -/
structure Rw (b : Nat) (ob : Obj) (v : Value) (w : World) : Prop where
  box : w.heap[b]? = some ob
  ne : v.ownBlock ≠ some b
theorem Rw.lt {b : Nat} {ob : Obj} {v : Value} {w : World} (h : Rw b ob v w) : b < w.heap.size := (Array.getElem?_eq_some_iff.1 h.box).1
theorem Rw.later {b : Nat} {ob : Obj} {v : Value} {w w' : World} (h : Rw b ob v w) (hb : Below w.heap.size w w') : Rw b ob v w' := ⟨(hb.block b h.lt).trans h.box, h.ne⟩
theorem Rw.new {R : List UInt8} {B : Nat} {W0 w : World} {v : Value} {rest : List UInt8} (h : Pz R B W0 w v rest) (ob : Obj) : Rw w.heap.size ob v (w.alloc ob) := ⟨heap_alloc_new w ob, h.lt.2⟩
theorem Rw.step {b : Nat} {ob : Obj} {R : List UInt8} {B : Nat} {W0 wp w w' : World} {v v' : Value} {rest : List UInt8} (h : Rw b ob v wp) (hb : Below wp.heap.size wp w) (hd : Dz R B W0 v rest w v' w') : Rw b ob v' w' := by
  have h1 := h.later hb
  have hl := h1.lt
  refine ⟨(hd.2.1.block b hl fun e => h1.ne e.symm).trans h1.box, ?_⟩
  rcases hd.2.2 with e | e
  · rw [e]; exact h1.ne
  · rw [e]; intro e2; simp only [Option.some.injEq] at e2; omega


theorem number_any (n : Nat) (w : World) (hn : n ≤ 1000000) :
    Calls Try.prog 30 #[.int .i64 (n : Int)] w fun e w' => ∃ v', e = .returned v' ∧ Buf w.heap.size v' (digs n) w w' := by
  have HC : Hid (Calls _ _ _ _ _) := refNum_any n w (by omega)
  go_enter Try.func30, Try.ntmps30
  go_wp2_with fail
  refine HC.out.mono ?_
  rintro e w1 ⟨v, rfl, hb⟩
  go_wp2
  go_ret
  exact ⟨_, rfl, hb⟩
theorem number_az {R : List UInt8} {B : Nat} {W0 wr : World} {v : Value} {n : Nat} {rest : List UInt8} (hn : n ≤ 1000000) (h : Pz R B W0 wr v (digs n ++ rest)) :
    Calls Try.prog 30 #[.int .i64 (n : Int)] wr fun e w' => ∃ ad k c, e = .returned (.slice (some ad) k c) ∧ Hid (Az R B W0 v (digs n) rest ad k wr w') := by
  refine (number_any n wr hn).mono ?_
  rintro e w' ⟨v', rfl, hb'⟩
  obtain ⟨ad, k, c, rfl, hr⟩ := Az.of h hb' (digs_pos n)
  exact ⟨ad, k, c, rfl, hr⟩

theorem nums_drop {l : List Int} {i : Nat} (h : i < l.length) : nums (l.drop i) = digs (l[i]).toNat ++ nums (l.drop (i + 1)) := by
  rw [List.drop_eq_getElem_cons h]; rfl
theorem flatP_drop {l : List Pf} {i : Nat} (h : i < l.length) : flatP (l.drop i) = encP l[i] ++ flatP (l.drop (i + 1)) := by
  rw [List.drop_eq_getElem_cons h]; rfl
theorem flatC_drop {l : List Ch} {i : Nat} (h : i < l.length) : flatC (l.drop i) = encC l[i] ++ flatC (l.drop (i + 1)) := by
  rw [List.drop_eq_getElem_cons h]; rfl

set_option maxHeartbeats 16000000 in
set_option maxRecDepth 100000 in
theorem refPuts_any (a : Option Addr) (n cap : Nat) (l : List Pf) (w : World) (hn : n = l.length) (hl : LiesP w a l) (hm : n ≤ 64) (hF : ∀ s ∈ l, PfOk s) :
    Calls Try.prog 32 #[.slice a n cap] w fun e w' => ∃ v, e = .returned v ∧ Buf w.heap.size v (encPs l) w w' := by
  have HN : Hid (n = l.length) := hn
  have HL : Hid (LiesP w a l) := hl
  have HF : Hid (∀ s ∈ l, PfOk s) := hF
  have HRL : Hid ((encPs l).length ≤ 100000000) := by
    have h1 := flatP_len hF
    have h2 := digs_len10 (n := l.length) (by omega)
    show _ ≤ _
    unfold encPs
    rw [List.length_append]
    omega
  have HRE : Hid (encPs l = digs n ++ flatP l) := by show _ = _; rw [hn]; rfl
  generalize encPs l = R at *
  clear hn hl hF
  have HC0 : Hid (Calls _ _ _ _ _) := number_any n w (by omega)
  go_enter Try.func32, Try.ntmps32
  go_wp2_with fail
  refine HC0.out.mono ?_
  rintro e w1 ⟨v1, rfl, hb1⟩
  have HP0 : Hid (Pz R w.heap.size w w1 v1 (flatP (l.drop 0))) := ⟨digs n, by rw [List.drop_zero]; exact HRE.out, hb1⟩
  clear hb1 HC0
  go_wp2
  go_loopw [3, 4] (fun t3 t4 wr => ∃ i : Nat, t4 = .int .i64 (i : Int) ∧ i ≤ n ∧ Hid (Pz R w.heap.size w wr t3 (flatP (l.drop i)))) (fun _ t4 _ => n - (intOf t4).toNat)
  case atStart => exact ⟨0, rfl, Nat.zero_le _, HP0⟩
  case round =>
    clear HP0
    obtain ⟨i, rfl, hi, HP⟩ := hrel
    by_cases hin : i < n
    · have hil : i < l.length := by rw [← HN.out]; exact hin
      obtain ⟨x, hx, hpf⟩ := HL.out.at hil
      subst hx
      rw [pfAt_get hil] at hpf
      have hix := index_pf x n cap i hin
      have hOk := HF.out _ (List.getElem_mem hil)
      have HD := flatP_drop hil
      generalize x.add (i * 4) = q at hpf hix
      generalize l[i] = v at hpf hOk HD
      obtain ⟨v0, v1', bd, fr⟩ := v
      obtain ⟨-, -, -, fa, fc, -, hf⟩ := id hpf
      have HX : Hid (∀ W, Below w.heap.size w W → W.cell? q = some (.int .i64 v0) ∧ W.cell? ⟨q.block, q.off + 1, none⟩ = some (.int .i64 v1') ∧ W.cell? ⟨q.block, q.off + 2, none⟩ = some (.string bd) ∧ ∃ a c, W.cell? ⟨q.block, q.off + 3, none⟩ = some (.slice a fr.length c) ∧ LiesI W a fr) := fun W hb => hpf.below hb (Nat.le_refl _)
      obtain ⟨-, -, -, fa, fc, hc3, hf3⟩ := id hpf
      have HX3 : Hid (∀ W, Below w.heap.size w W → W.cell? ⟨q.block, q.off + 3, none⟩ = some (.slice fa fr.length fc) ∧ LiesI W fa fr) := fun W hb => ⟨cell_below hb (Nat.le_refl _) hc3, hf3.below hb (Nat.le_refl _)⟩
      have k1 := hOk.v
      have k2 := hOk.s
      have k3 := hOk.b
      have k4 := hOk.n
      have HFR : Hid (∀ x ∈ fr, 0 ≤ x ∧ x ≤ 12) := hOk.f
      simp only at k1 k2 k3 k4
      obtain ⟨z0, rfl⟩ : ∃ z : Nat, v0 = (z : Int) := ⟨v0.toNat, by omega⟩
      obtain ⟨z1, rfl⟩ : ∃ z : Nat, v1' = (z : Int) := ⟨v1'.toNat, by omega⟩
      obtain ⟨kn, hkn⟩ : ∃ kn, kn = fr.length := ⟨_, rfl⟩
      have HKN : Hid (kn = fr.length) := hkn
      rw [← hkn] at HX3
      have HDE : Hid (flatP (l.drop i) = digs z0 ++ (digs z1 ++ (txt bd ++ (digs kn ++ (nums (fr.drop 0) ++ flatP (l.drop (i + 1))))))) := by
        show _ = _
        rw [HD, List.drop_zero, hkn]
        simp [encP]
      have hkm : kn ≤ 13 := by omega
      have HPa : Hid (Pz R w.heap.size w wr u3 _) := HP.out.cut HDE.out
      obtain ⟨g0, -⟩ := HX.out wr HPa.out.bel
      clear hpf hf hc3 hf3 hOk HD hkn HP HDE
      have HC1 : Hid (Calls _ _ _ _ _) := number_az (n := z0) (by omega) HPa.out
      go_wp2_with fail
      refine HC1.out.mono ?_
      rintro e w1 ⟨ad1, k1', c1, rfl, HA1⟩
      clear HC1 g0
      go_wp2_with (at_builtin; refine wpList_az HRL.out rfl (.tmp 15) (.tmp 21) rfl rfl rfl HA1.out ?_; intro v1 z1' HD1; have HP1 : Hid (Pz R w.heap.size w z1' v1 _) := HD1.out.1; obtain ⟨-, g1, -⟩ := HX.out z1' HP1.out.bel)
      have HC2 : Hid (Calls _ _ _ _ _) := number_az (n := z1) (by omega) HP1.out
      clear HA1 HD1 HPa
      go_wp2_with fail
      refine HC2.out.mono ?_
      rintro e w2 ⟨ad2, k2', c2, rfl, HA2⟩
      clear HC2 g1
      go_wp2_with (at_builtin; refine wpList_az HRL.out rfl (.tmp 23) (.tmp 29) rfl rfl rfl HA2.out ?_; intro v2 z2' HD2; have HP2 : Hid (Pz R w.heap.size w z2' v2 _) := HD2.out.1; obtain ⟨-, -, g2, -⟩ := HX.out z2' HP2.out.bel)
      have HC3 : Hid (Calls _ _ _ _ _) := text_az (s := bd) (by omega) HP2.out
      clear HA2 HD2 HP1
      go_wp2_with fail
      refine HC3.out.mono ?_
      rintro e w3 ⟨ad3, k3', c3, rfl, HA3⟩
      clear HC3 g2
      go_wp2_with (at_builtin; refine wpList_az HRL.out rfl (.tmp 31) (.tmp 37) rfl rfl rfl HA3.out ?_; intro v3 z3' HD3; have HP3 : Hid (Pz R w.heap.size w z3' v3 _) := HD3.out.1; obtain ⟨g3, -⟩ := HX3.out z3' HP3.out.bel)
      have HC4 : Hid (Calls _ _ _ _ _) := number_az (n := kn) (by omega) HP3.out
      clear HA3 HD3 HP2
      go_wp2_with fail
      refine HC4.out.mono ?_
      rintro e w4 ⟨ad4, k4', c4, rfl, HA4⟩
      clear HC4 g3
      go_wp2_with (at_builtin; refine wpList_az HRL.out rfl (.tmp 39) (.tmp 46) rfl rfl rfl HA4.out ?_; intro v4 z4' HD4; have HP4 : Hid (Pz R w.heap.size w z4' v4 _) := HD4.out.1)
      clear HA4 HD4 HP3
      go_wp2
      go_loopw [3, 5] (fun t3 t5 wr => ∃ j : Nat, t5 = .int .i64 (j : Int) ∧ j ≤ kn ∧ Hid (Pz R w.heap.size w wr t3 (nums (fr.drop j) ++ flatP (l.drop (i + 1))))) (fun _ t5 _ => kn - (intOf t5).toNat)
      case atStart => exact ⟨0, rfl, Nat.zero_le _, HP4⟩
      case round =>
        clear HP4
        rename World => wq
        obtain ⟨j, rfl, hj, HP⟩ := hrel
        obtain ⟨g3, hfl⟩ := HX3.out wq HP.out.bel
        by_cases hjk : j < kn
        · have hjl : j < fr.length := by rw [← HKN.out]; exact hjk
          obtain ⟨xf, hxf, g5⟩ := hfl.at hjl
          subst hxf
          have hif := index_int xf kn fc j hjk
          rw [inAt_get hjl] at g5
          have hv := HFR.out _ (List.getElem_mem hjl)
          have HD := nums_drop hjl
          generalize xf.add (j * 1) = qf at g5 hif
          generalize fr[j] = nd at g5 hv HD
          obtain ⟨zn, rfl⟩ : ∃ z : Nat, nd = (z : Int) := ⟨nd.toNat, by omega⟩
          have HPb : Hid (Pz R w.heap.size w wq u3 (digs zn ++ (nums (fr.drop (j + 1)) ++ flatP (l.drop (i + 1))))) := HP.out.cut (by rw [HD, Int.toNat_natCast, List.append_assoc])
          have HC5 : Hid (Calls _ _ _ _ _) := number_az (n := zn) (by omega) HPb.out
          clear HP HD hfl
          go_wp2_with fail
          refine HC5.out.mono ?_
          rintro e w5 ⟨ad5, k5', c5, rfl, HA5⟩
          clear HC5
          go_wp2_with (at_builtin; refine wpList_az HRL.out rfl (.tmp 58) (.tmp 67) rfl rfl rfl HA5.out ?_; intro v5 z5' HD5; have HP5 : Hid (Pz R w.heap.size w z5' v5 _) := HD5.out.1)
          clear HA5 HD5 HPb
          go_wp2
          go_roundw
          case rel => exact ⟨j + 1, by go_num, by omega, HP5⟩
          case measure => simp [intOf]; omega
        · have HPd : Hid (Pz R w.heap.size w wq u3 (flatP (l.drop (i + 1)))) := HP.out.cut (by rw [List.drop_eq_nil_of_le (by rw [← HKN.out]; omega)]; rfl)
          clear HP hfl
          go_wp2
          go_roundw
          case rel => exact ⟨i + 1, by go_num, by omega, HPd⟩
          case measure => simp [intOf]; omega
    · have HE : Hid (Buf w.heap.size u3 R w wr) := by
        obtain ⟨xs, h1, h2⟩ := HP.out
        rw [List.drop_eq_nil_of_le (by rw [← HN.out]; omega)] at h1
        show Buf _ _ _ _ _
        rw [h1]
        simpa [flatP] using h2
      clear HP
      go_wp2
      go_ret
      exact ⟨_, rfl, HE.out⟩
end Go.Proofs.Ytbcemghkmmbmdaa.Msg
