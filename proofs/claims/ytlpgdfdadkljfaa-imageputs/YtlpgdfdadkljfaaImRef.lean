/-
  The reference's Put.
-/
import Derived.Test.YtlpgdfdadkljfaaImPut
namespace Go.Proofs.Ytlpgdfdadkljfaa.Img
open Go.RowKit Route Tree Order Cat

/-- What is still to be put of R. -/
def Pz (R : List UInt8) (B : Nat) (W0 w : World) (v : Value) (rest : List UInt8) : Prop := ∃ xs, R = xs ++ rest ∧ Buf B v xs W0 w
theorem Pz.bel {R : List UInt8} {B : Nat} {W0 w : World} {v : Value} {rest : List UInt8} (h : Pz R B W0 w v rest) : Below B W0 w := by
  obtain ⟨xs, _, h⟩ := h; exact h.2.1
theorem Pz.lt {R : List UInt8} {B : Nat} {W0 w : World} {v : Value} {rest : List UInt8} (h : Pz R B W0 w v rest) : B ≤ w.heap.size ∧ v.ownBlock ≠ some w.heap.size := by
  obtain ⟨xs, _, h⟩ := h
  exact ⟨h.2.2, fun e => by have := (h.1.lt _ e).2; omega⟩
theorem Pz.later {R : List UInt8} {B : Nat} {W0 w w' : World} {v : Value} {rest : List UInt8} (h : Pz R B W0 w v rest) (hb : Below w.heap.size w w') : Pz R B W0 w' v rest := by
  obtain ⟨xs, h1, h⟩ := h
  refine ⟨xs, h1, ⟨h.1.1, h.1.2.imp id fun ⟨g, cap, cur, q1, q2, q3, q4⟩ => ⟨g, cap, cur, q1, q2, (hb.block g (Array.getElem?_eq_some_iff.1 q3).1).trans q3, q4⟩⟩, h.2.1.trans (hb.mono h.2.2), Nat.le_trans h.2.2 hb.size⟩
theorem Pz.cut {R : List UInt8} {B : Nat} {W0 w : World} {v : Value} {rest r2 : List UInt8} (h : Pz R B W0 w v rest) (e : rest = r2) : Pz R B W0 w v r2 := e ▸ h

/-- Bytes that lie ready to be appended. -/
def Az (R : List UInt8) (B : Nat) (W0 : World) (v : Value) (e rest : List UInt8) (ad : Addr) (k : Nat) (wp w : World) : Prop :=
  k = e.length ∧ Go.Proofs.Ytlpgdfdadkljfaa.Lies w (some ad) e ∧ Pz R B W0 w v (e ++ rest) ∧ Below wp.heap.size wp w
def Dz (R : List UInt8) (B : Nat) (W0 : World) (v : Value) (rest : List UInt8) (w : World) (v' : Value) (w' : World) : Prop :=
  Pz R B W0 w' v' rest ∧ w.grownBy w' v.ownBlock ∧ (v'.ownBlock = v.ownBlock ∨ v'.ownBlock = some w.heap.size)

theorem Az.of {R : List UInt8} {B : Nat} {W0 wr w' : World} {v v' : Value} {e rest : List UInt8} (h : Pz R B W0 wr v (e ++ rest)) (hb : Buf wr.heap.size v' e wr w') (h0 : 1 ≤ e.length) :
    ∃ ad k c, v' = .slice (some ad) k c ∧ Hid (Az R B W0 v e rest ad k wr w') := by
  obtain ⟨a1, c1, rfl, _, _, hl, hn, _⟩ := hb.form
  cases a1 with
  | none => have := (hn rfl).1; subst this; simp at h0
  | some ad => exact ⟨ad, _, c1, rfl, rfl, hl, h.later hb.2.1, hb.2.1⟩
theorem num_az {R : List UInt8} {B : Nat} {W0 wr : World} {v : Value} {n : Nat} {rest : List UInt8} (hn : n < 18446744073709551616) (h : Pz R B W0 wr v (digs n ++ rest)) :
    Calls Try.prog 27 #[.int .u64 n] wr fun e w' => ∃ ad k c, e = .returned (.slice (some ad) k c) ∧ Hid (Az R B W0 v (digs n) rest ad k wr w') := by
  refine (refNum_any n wr hn).mono ?_
  rintro e w' ⟨v', rfl, hb'⟩
  obtain ⟨ad, k, c, rfl, hr⟩ := Az.of h hb' (digs_pos n)
  exact ⟨ad, k, c, rfl, hr⟩
theorem text_az {R : List UInt8} {B : Nat} {W0 wr : World} {v : Value} {s : ByteArray} {rest : List UInt8} (hs : s.size ≤ 1000000) (h : Pz R B W0 wr v (txt s ++ rest)) :
    Calls Try.prog 28 #[.string s] wr fun e w' => ∃ ad k c, e = .returned (.slice (some ad) k c) ∧ Hid (Az R B W0 v (txt s) rest ad k wr w') := by
  refine (refText_any s wr (by omega)).mono ?_
  rintro e w' ⟨v', rfl, hb'⟩
  obtain ⟨ad, k, c, rfl, hr⟩ := Az.of h hb' (by have := digs_pos s.size; unfold txt; rw [List.length_append]; omega)
  exact ⟨ad, k, c, rfl, hr⟩
theorem one_az {R : List UInt8} {B : Nat} {W0 wr : World} {v : Value} {b : UInt8} {z : Int} (hz : (b.toNat : Int) = z) {rest : List UInt8} (h : Pz R B W0 wr v ([b] ++ rest)) : Az R B W0 v [b] rest ⟨wr.heap.size, 0, none⟩ 1 wr (wr.alloc (.cells #[.int .u8 z] 5)) := by
  subst hz
  have hb : Below wr.heap.size wr (wr.alloc (.cells #[.int .u8 (b.toNat : Int)] 5)) := (Below.refl _ _).alloc (Nat.le_refl _) _
  refine ⟨rfl, .inr ⟨_, rfl, fun j u hj => ?_⟩, h.later hb, hb⟩
  match j, hj with
  | 0, hj => simp [bv] at hj; subst hj; simp [Addr.add]
  | (j + 1), hj => simp [bv] at hj

/-- 'append(out, b...)'. -/
theorem wpList_az {ops : Array Oper} {rst : List Oper} {o : Oper} {act : Act} {Q : Exit → Act → World → Prop} {w wp : World} {R : List UInt8} (hR : R.length ≤ 100000000) (hgd : o.guard = none) (sl x : Operand)
    (ho : o.op = .call { callee := .builtin .append, args := #[sl, x], argTypes := #[30, 30] })
    {B : Nat} {W0 : World} {v : Value} {e rest : List UInt8} {ad : Addr} {k c : Nat} (hs : act.eval sl = v) (hx : act.eval x = .slice (some ad) k c) (hr : Az R B W0 v e rest ad k wp w)
    (h : ∀ v' w', Hid (Dz R B W0 v rest w v' w') → wpList Try.prog ops Q rst (act.put o.dst v') w') : wpList Try.prog ops Q (o :: rst) act w := by
  obtain ⟨rfl, hl, ⟨xs, hxs, hb⟩, _⟩ := hr
  have hlen := congrArg List.length hxs
  simp only [List.length_append] at hlen
  obtain ⟨i0, hi, hz0, hz1, hz2⟩ := info_parts info5
  refine wpList_plain hgd fun K hK => ?_
  obtain ⟨v', w', hrun, h2, h3, _, h5⟩ := run_append_own_at (P := Try.prog) w B 30 o.type 5 i0 (.int .u8 0) 1 1 Try.underlying30 hi hz0 hz1 hz2 rfl (by decide) v xs.length (bv xs) hb.1 ad e.length c (bv e) (by simp [bv])
    (by
      intro j u hj
      rcases hl with rfl | ⟨y, hy, hl⟩
      · simp [bv] at hj
      · simp only [Option.some.injEq] at hy
        subst hy
        exact hl j u hj)
    (bv_one e) (by unfold maxLen; omega) (by omega) hb.2.2
  unfold Oper.wp execOp
  simp only [ho, resolve, invoke, builtin, Sem.run_bind, Sem.run_pure, Result.andThen_ok, List.map_toArray, List.map_cons, List.map_nil, hs, hx, hrun]
  refine hK _ _ (h v' w' ⟨⟨xs ++ e, by rw [hxs, List.append_assoc], hb.grown (l' := xs ++ e) ?_ h3⟩, h3, h5⟩)
  rw [bv_app, List.length_append]
  exact h2

/-- A box laid while bytes are put stays. -/
structure Rw (b : Nat) (ob : Obj) (v : Value) (w : World) : Prop where
  box : w.heap[b]? = some ob
  ne : v.ownBlock ≠ some b
theorem Rw.lt {b : Nat} {ob : Obj} {v : Value} {w : World} (h : Rw b ob v w) : b < w.heap.size := (Array.getElem?_eq_some_iff.1 h.box).1
theorem Rw.later {b : Nat} {ob : Obj} {v : Value} {w w' : World} (h : Rw b ob v w) (hb : Below w.heap.size w w') : Rw b ob v w' := ⟨(hb.block b h.lt).trans h.box, h.ne⟩
theorem Rw.new {R : List UInt8} {B : Nat} {W0 w : World} {v : Value} {rest : List UInt8} (h : Pz R B W0 w v rest) (ob : Obj) : Rw w.heap.size ob v (w.alloc ob) := ⟨(MapKept.heap_alloc w ob).1, h.lt.2⟩
theorem Rw.step {b : Nat} {ob : Obj} {R : List UInt8} {B : Nat} {W0 wp w w' : World} {v v' : Value} {rest : List UInt8} (h : Rw b ob v wp) (hb : Below wp.heap.size wp w) (hd : Dz R B W0 v rest w v' w') : Rw b ob v' w' := by
  have h1 := h.later hb
  have hl := h1.lt
  refine ⟨(hd.2.1.block b hl fun e => h1.ne e.symm).trans h1.box, ?_⟩
  rcases hd.2.2 with e | e
  · rw [e]; exact h1.ne
  · rw [e]; intro e2; simp only [Option.some.injEq] at e2; omega

theorem encNs_drop {S : List Snap} {i : Nat} (h : i < S.length) : encNs (S.drop i) = encN (snapAt S i) ++ encNs (S.drop (i + 1)) := by
  rw [List.drop_eq_getElem_cons h, snapAt_get h]; rfl
theorem encEs_drop {E : List Ent} {i : Nat} (h : i < E.length) : encEs (E.drop i) = encE (entOf E i) ++ encEs (E.drop (i + 1)) := by
  rw [List.drop_eq_getElem_cons h, show entOf E i = E[i] by simp [entOf, List.getD_eq_getElem?_getD, h]]; rfl
theorem txts_drop' {l : List ByteArray} {i : Nat} (h : i < l.length) : txts (l.drop i) = txt (l.getD i ByteArray.empty) ++ txts (l.drop (i + 1)) := by
  rw [List.drop_eq_getElem_cons h]
  simp [txts, List.getD_eq_getElem?_getD, h]
theorem u64_id (n : Nat) (h : n ≤ 1000000) : IntKind.u64.wrap (n : Int) = (n : Int) := by rw [IntKind.wrap_u64]; omega
theorem flag_bytes (d : Bool) : digs (flagN d) = [if d then 1 else 0] := by cases d <;> rfl

set_option maxHeartbeats 16000000 in
set_option maxRecDepth 100000 in
theorem refPut_any (a : Option Addr) (n cap : Nat) (S : List Snap) (w : World) (hn : n = S.length) (hl : LiesN w a S) (hm : n ≤ 64) (hF : ∀ s ∈ S, NFit s) :
    Calls Try.prog 12 #[.slice a n cap] w fun e w' => ∃ v, e = .returned v ∧ Buf w.heap.size v (encI S) w w' := by
  have HN : Hid (n = S.length) := hn
  have HL : Hid (LiesN w a S) := hl
  have HF : Hid (∀ s ∈ S, NFit s) := hF
  have HRL : Hid ((encI S).length ≤ 100000000) := by have := encI_len (by omega) hF; show _ ≤ _; omega
  have HRE : Hid (encI S = digs n ++ encNs S) := by show _ = _; rw [hn]; rfl
  have hun := u64_id n (by omega)
  generalize encI S = R at *
  clear hn hl hF
  go_enter Try.func12, Try.ntmps12
  go_wp2_with fail
  refine (refNum_any n w (by omega)).mono ?_
  rintro e w1 ⟨v1, rfl, hb1⟩
  have HP0 : Hid (Pz R w.heap.size w w1 v1 (encNs (S.drop 0))) := ⟨digs n, by rw [List.drop_zero]; exact HRE.out, hb1⟩
  clear hb1 hun
  go_wp2
  go_loopw [3, 4] (fun t3 t4 wr => ∃ i : Nat, t4 = .int .i64 (i : Int) ∧ i ≤ n ∧ Hid (Pz R w.heap.size w wr t3 (encNs (S.drop i)))) (fun _ t4 _ => n - (intOf t4).toNat)
  case atStart => exact ⟨0, rfl, Nat.zero_le _, HP0⟩
  case round =>
    obtain ⟨i, rfl, hi, HP⟩ := hrel
    clear HP0
    by_cases hin : i < n
    · have hlt : i < S.length := by rw [← HN.out]; exact hin
      obtain ⟨x, hx, hsi⟩ := HL.out.at (j := i) hlt
      subst hx
      have hsi2 := hsi
      obtain ⟨-, -, -, ea, ec, g3', -, -, h6⟩ := hsi2
      obtain ⟨g0, g1, g2, ea', ec', g3, -, -, -⟩ := hsi.below HP.out.bel (Nat.le_refl _)
      have e3 := (cell_below HP.out.bel (Nat.le_refl _) g3').symm.trans g3
      simp only [Option.some.injEq, Value.slice.injEq] at e3
      obtain ⟨rfl, -, rfl⟩ := e3
      have hix := index_snap x n cap i hin
      generalize x.add (i * 4) = q at g0 g1 g2 g3 hix
      have hF := HF.out (snapAt S i) (snapAt_mem hlt)
      have HD := encNs_drop hlt
      generalize snapAt S i = s at g0 g1 g2 g3 h6 hF HD
      obtain ⟨c, nm, d, E⟩ := s
      simp only at g0 g1 g2 g3 h6
      obtain ⟨en, hen⟩ : ∃ en, en = E.length := ⟨_, rfl⟩
      have HEN : Hid (en = E.length) := hen
      have f1 := hF.client
      have f2 := hF.name
      have f3 := hF.len
      simp only at f1 f2 f3
      obtain ⟨cn, rfl⟩ : ∃ cn : Nat, c = (cn : Int) := ⟨c.toNat, by omega⟩
      have HEF : Hid (∀ e ∈ E, EFit e) := hF.ents
      have HDE : Hid (encNs (S.drop i) = digs cn ++ (txt nm ++ ([if d then 1 else 0] ++ (digs en ++ (encEs (E.drop 0) ++ encNs (S.drop (i + 1))))))) := by
        show _ = _
        rw [HD, List.drop_zero, ← flag_bytes, hen]
        simp [encN]
      have HLE : Hid (∀ W, Below w.heap.size w W → LiesE W ea E) := fun W hb => h6.below hb (Nat.le_refl _)
      rw [← hen] at g3 f3
      obtain ⟨W1, hW1⟩ : ∃ W1, W1 = wr.alloc (.cells #[.int .i64 (cn : Int), .string nm, .bool d, .slice ea en ec] 52) := ⟨_, rfl⟩
      have HW1 : Hid (W1 = _) := hW1
      have HPa : Hid (Pz R w.heap.size w W1 u3 _) := (HP.out.later (by rw [hW1]; exact (Below.refl _ _).alloc (Nat.le_refl _) _)).cut HDE.out
      have HQa : Hid (Rw wr.heap.size (.cells #[.int .i64 (cn : Int), .string nm, .bool d, .slice ea en ec] 52 (0, 0)) u3 W1) := by rw [hW1]; exact Rw.new HP.out _
      obtain ⟨x0, x1, x2, x3⟩ := four4 HQa.out.box
      have hu1 := u64_id cn (by omega)
      have hu2 := u64_id en (by omega)
      clear h6 hF HD hen hW1 HP g3' HDE
      go_wp2_with fail
      rw [← HW1.out]
      clear HW1 g0 g1 g2 g3 hix
      generalize wr.heap.size = b5 at *
      have HC1 : Hid (Calls _ _ _ _ _) := num_az (n := cn) (by omega) HPa.out
      go_wp2_with fail
      refine HC1.out.mono ?_
      rintro e w1 ⟨ad1, k1, c1, rfl, HA1⟩
      clear HC1 x0 x1 x2 x3
      go_wp2_with (at_builtin; refine wpList_az HRL.out rfl (.tmp 23) (.tmp 27) rfl rfl rfl HA1.out ?_; intro v1 z1 HD1; have HQ1 := HQa.out.step HA1.out.2.2.2 HD1.out; obtain ⟨x0, x1, x2, x3⟩ := four4 HQ1.box)
      have HP1 : Hid (Pz R w.heap.size w z1 v1 _) := HD1.out.1
      have HQ1 : Hid (Rw _ _ _ _) := HQ1
      clear HA1 HD1 HPa HQa
      cases d
      all_goals
        have HCt : Hid (Calls _ _ _ _ _) := text_az (s := nm) (by omega) HP1.out
        go_wp2_with fail
        refine HCt.out.mono ?_
        rintro e wt ⟨adt, kt, ct, rfl, HAt⟩
        clear HCt x0 x1 x2 x3
        go_wp2_with (first
          | (at_builtin; refine wpList_az HRL.out rfl (.tmp 29) (.tmp 32) rfl rfl rfl HAt.out ?_; intro vt zt HDt; have HPt := HDt.out.1; have HQt := HQ1.out.step HAt.out.2.2.2 HDt.out; obtain ⟨x0, x1, x2, x3⟩ := four4 HQt.box)
          | (at_builtin; refine wpList_az HRL.out rfl (.tmp 39) (.tmp 40) rfl rfl rfl (one_az (b := 0) (z := 0) rfl HPt) ?_; intro vf zf HDf; have HQf := HQt.step (one_az (b := 0) (z := 0) rfl HPt).2.2.2 HDf.out; obtain ⟨x0, x1, x2, x3⟩ := four4 HQf.box)
          | (at_builtin; refine wpList_az HRL.out rfl (.tmp 36) (.tmp 37) rfl rfl rfl (one_az (b := 1) (z := 1) rfl HPt) ?_; intro vf zf HDf; have HQf := HQt.step (one_az (b := 1) (z := 1) rfl HPt).2.2.2 HDf.out; obtain ⟨x0, x1, x2, x3⟩ := four4 HQf.box))
        have HPf : Hid (Pz R w.heap.size w zf vf _) := HDf.out.1
        have HQf : Hid (Rw _ _ _ _) := HQf
        clear HDf HPt HQt HDt HAt HP1 HQ1
        have HC2 : Hid (Calls _ _ _ _ _) := num_az (n := en) (by omega) HPf.out
        go_wp2_with fail
        refine HC2.out.mono ?_
        rintro e w2 ⟨ad2, k2, c2, rfl, HA2⟩
        clear HC2 x0 x1 x2 x3
        go_wp2_with (at_builtin; refine wpList_az HRL.out rfl (.tmp 42) (.tmp 47) rfl rfl rfl HA2.out ?_; intro v2 z2 HD2; have HQ2 := HQf.out.step HA2.out.2.2.2 HD2.out; obtain ⟨x0, x1, x2, x3⟩ := four4 HQ2.box)
        have HP2 : Hid (Pz R w.heap.size w z2 v2 _) := HD2.out.1
        have HQ2 : Hid (Rw _ _ _ _) := HQ2
        clear HA2 HD2 HPf HQf
        go_wp2
        go_loopw [3, 6] (fun t3 t6 wr => ∃ k : Nat, t6 = .int .i64 (k : Int) ∧ k ≤ en ∧ Hid (Pz R w.heap.size w wr t3 (encEs (E.drop k) ++ encNs (S.drop (i + 1)))) ∧ Hid (Rw b5 (.cells #[.int .i64 (cn : Int), .string nm, .bool _, .slice ea en ec] 52 (0, 0)) t3 wr)) (fun _ t6 _ => en - (intOf t6).toNat)
        case atStart => exact ⟨0, rfl, Nat.zero_le _, HP2, HQ2⟩
        case round =>
          clear HP2 HQ2 x0 x1 x2 x3
          obtain ⟨k, rfl, hk, HP, HQ⟩ := hrel
          obtain ⟨x0, x1, x2, x3⟩ := four4 HQ.out.box
          by_cases hkn : k < en
          · have hke : k < E.length := by rw [← HEN.out]; exact hkn
            obtain ⟨xe, hxe, hent⟩ := (HLE.out w (Below.refl _ _)).at (j := k) hke
            subst hxe
            have hent2 := hent
            obtain ⟨-, -, ka, kc, e2', hkeys⟩ := hent2
            obtain ⟨e0, e1, ka', kc', e2, -⟩ := hent.below HP.out.bel (Nat.le_refl _)
            have e3 := (cell_below HP.out.bel (Nat.le_refl _) e2').symm.trans e2
            simp only [Option.some.injEq, Value.slice.injEq] at e3
            obtain ⟨rfl, -, rfl⟩ := e3
            have hie := index_ent xe en ec k hkn
            generalize xe.add (k * 3) = qe at e0 e1 e2 hie
            have hEF := HEF.out (entOf E k) (ent_mem hke)
            have HD := encEs_drop hke
            generalize entOf E k = en7 at e0 e1 e2 hkeys hEF HD
            obtain ⟨pt, sz, ks⟩ := en7
            simp only at e0 e1 e2 hkeys
            obtain ⟨kn, hkl⟩ : ∃ kn, kn = ks.length := ⟨_, rfl⟩
            have HKN : Hid (kn = ks.length) := hkl
            have f4 := hEF.path
            have f5 := hEF.size
            have f6 := hEF.keys
            simp only at f4 f5 f6
            have HKS : Hid (∀ s ∈ ks, s.size ≤ 64) := hEF.key
            obtain ⟨zn, rfl⟩ : ∃ zn : Nat, sz = (zn : Int) := ⟨sz.toNat, by omega⟩
            have HDE : Hid (encEs (E.drop k) ++ encNs (S.drop (i + 1)) = txt pt ++ (digs zn ++ (digs kn ++ (txts (ks.drop 0) ++ (encEs (E.drop (k + 1)) ++ encNs (S.drop (i + 1))))))) := by
              show _ = _
              rw [HD, List.drop_zero, hkl]
              simp [encE]
            have HKL : Hid (∀ W, Below w.heap.size w W → Route.Lies W ka ks) := fun W hb => hkeys.1.below hb (Nat.le_refl _)
            rw [← hkl] at e2 f6
            obtain ⟨W2, hW2⟩ : ∃ W2, W2 = wr.alloc (.cells #[.string pt, .int .i64 (zn : Int), .slice ka kn kc] 57) := ⟨_, rfl⟩
            have HW2 : Hid (W2 = _) := hW2
            have HBa : Hid (Below wr.heap.size wr W2) := by rw [hW2]; exact (Below.refl _ _).alloc (Nat.le_refl _) _
            have HPb : Hid (Pz R w.heap.size w W2 u3 _) := (HP.out.later HBa.out).cut HDE.out
            have HQb : Hid (Rw b5 _ u3 W2) := HQ.out.later HBa.out
            have HRb : Hid (Rw wr.heap.size (.cells #[.string pt, .int .i64 (zn : Int), .slice ka kn kc] 57 (0, 0)) u3 W2) := by rw [hW2]; exact Rw.new HP.out _
            obtain ⟨y0, y1, y2⟩ := three' HRb.out.box
            have hu3 := u64_id zn (by omega)
            have hu4 := u64_id kn (by omega)
            clear hkeys hEF HD hkl hW2 HP HQ e2' HDE HBa
            go_wp2_with fail
            rw [← HW2.out]
            clear HW2 e0 e1 e2 hie x0 x1 x2 x3
            obtain ⟨x0, x1, x2, x3⟩ := four4 HQb.out.box
            generalize wr.heap.size = b7 at *
            have HC3 : Hid (Calls _ _ _ _ _) := text_az (s := pt) (by omega) HPb.out
            go_wp2_with fail
            refine HC3.out.mono ?_
            rintro e w3 ⟨ad3, k3, c3, rfl, HA3⟩
            clear HC3 x0 x1 x2 x3 y0 y1 y2
            go_wp2_with (at_builtin; refine wpList_az HRL.out rfl (.tmp 61) (.tmp 64) rfl rfl rfl HA3.out ?_; intro v3 z3 HD3; have HQ3 := HQb.out.step HA3.out.2.2.2 HD3.out; obtain ⟨x0, x1, x2, x3⟩ := four4 HQ3.box; have HR3 := HRb.out.step HA3.out.2.2.2 HD3.out; obtain ⟨y0, y1, y2⟩ := three' HR3.box)
            have HP3 : Hid (Pz R w.heap.size w z3 v3 _) := HD3.out.1
            have HQ3 : Hid (Rw _ _ _ _) := HQ3
            have HR3 : Hid (Rw _ _ _ _) := HR3
            clear HA3 HD3 HPb HQb HRb
            have HC4 : Hid (Calls _ _ _ _ _) := num_az (n := zn) (by omega) HP3.out
            go_wp2_with fail
            refine HC4.out.mono ?_
            rintro e w4 ⟨ad4, k4, c4, rfl, HA4⟩
            clear HC4 x0 x1 x2 x3 y0 y1 y2
            go_wp2_with (at_builtin; refine wpList_az HRL.out rfl (.tmp 66) (.tmp 70) rfl rfl rfl HA4.out ?_; intro v4 z4 HD4; have HQ4 := HQ3.out.step HA4.out.2.2.2 HD4.out; obtain ⟨x0, x1, x2, x3⟩ := four4 HQ4.box; have HR4 := HR3.out.step HA4.out.2.2.2 HD4.out; obtain ⟨y0, y1, y2⟩ := three' HR4.box)
            have HP4 : Hid (Pz R w.heap.size w z4 v4 _) := HD4.out.1
            have HQ4 : Hid (Rw _ _ _ _) := HQ4
            have HR4 : Hid (Rw _ _ _ _) := HR4
            clear HA4 HD4 HP3 HQ3 HR3
            have HC5 : Hid (Calls _ _ _ _ _) := num_az (n := kn) (by omega) HP4.out
            go_wp2_with fail
            refine HC5.out.mono ?_
            rintro e w5 ⟨ad5, k5, c5, rfl, HA5⟩
            clear HC5 x0 x1 x2 x3 y0 y1 y2
            go_wp2_with (at_builtin; refine wpList_az HRL.out rfl (.tmp 72) (.tmp 77) rfl rfl rfl HA5.out ?_; intro v5 z5 HD5; have HQ5 := HQ4.out.step HA5.out.2.2.2 HD5.out; obtain ⟨x0, x1, x2, x3⟩ := four4 HQ5.box; have HR5 := HR4.out.step HA5.out.2.2.2 HD5.out; obtain ⟨y0, y1, y2⟩ := three' HR5.box)
            have HP5 : Hid (Pz R w.heap.size w z5 v5 _) := HD5.out.1
            have HQ5 : Hid (Rw _ _ _ _) := HQ5
            have HR5 : Hid (Rw _ _ _ _) := HR5
            clear HA5 HD5 HP4 HQ4 HR4
            go_wp2
            go_loopw [3, 8] (fun t3 t8 wr => ∃ j : Nat, t8 = .int .i64 (j : Int) ∧ j ≤ kn ∧ Hid (Pz R w.heap.size w wr t3 (txts (ks.drop j) ++ (encEs (E.drop (k + 1)) ++ encNs (S.drop (i + 1))))) ∧ Hid (Rw b5 (.cells #[.int .i64 (cn : Int), .string nm, .bool _, .slice _ en ec] 52 (0, 0)) t3 wr) ∧ Hid (Rw b7 (.cells #[.string pt, .int .i64 (zn : Int), .slice ka kn kc] 57 (0, 0)) t3 wr)) (fun _ t8 _ => kn - (intOf t8).toNat)
            case atStart => exact ⟨0, rfl, Nat.zero_le _, HP5, HQ5, HR5⟩
            case round =>
              obtain ⟨j, rfl, hj, HP, HQ, HR⟩ := hrel
              clear HP5 HQ5 HR5 x0 x1 x2 x3 y0 y1 y2
              obtain ⟨x0, x1, x2, x3⟩ := four4 HQ.out.box
              obtain ⟨y0, y1, y2⟩ := three' HR.out.box
              by_cases hjn : j < kn
              · have hjk : j < ks.length := by rw [← HKN.out]; exact hjn
                obtain ⟨xk, hxk, hc⟩ := (HKL.out wr HP.out.bel).cellAt (j := j) hjk
                subst hxk
                have HD := txts_drop' hjk
                have hsz := HKS.out (ks.getD j ByteArray.empty) (by simp [List.getD_eq_getElem?_getD, hjk])
                generalize ks.getD j ByteArray.empty = ky at hc HD hsz
                have HPc : Hid (Pz R w.heap.size w wr u3 (txt ky ++ (txts (ks.drop (j + 1)) ++ (encEs (E.drop (k + 1)) ++ encNs (S.drop (i + 1)))))) := HP.out.cut (by rw [HD, List.append_assoc])
                clear HD HP
                have HC6 : Hid (Calls _ _ _ _ _) := text_az (s := ky) (by omega) HPc.out
                go_wp2_with fail
                refine HC6.out.mono ?_
                rintro e w6 ⟨ad6, k6, c6, rfl, HA6⟩
                clear hc HC6 x0 x1 x2 x3 y0 y1 y2
                go_wp2_with (at_builtin; refine wpList_az HRL.out rfl (.tmp 86) (.tmp 92) rfl rfl rfl HA6.out ?_; intro v6 z6 HD6; have HQ6 := HQ.out.step HA6.out.2.2.2 HD6.out; obtain ⟨x0, x1, x2, x3⟩ := four4 HQ6.box; have HR6 := HR.out.step HA6.out.2.2.2 HD6.out; obtain ⟨y0, y1, y2⟩ := three' HR6.box)
                have HP6 : Hid (Pz R w.heap.size w z6 v6 _) := HD6.out.1
                have HQ6 : Hid (Rw _ _ _ _) := HQ6
                have HR6 : Hid (Rw _ _ _ _) := HR6
                clear HA6 HD6 HPc HQ HR
                go_wp2
                go_roundw
                case rel => exact ⟨j + 1, by go_num, by omega, HP6, HQ6, HR6⟩
                case measure => simp [intOf]; omega
              · have HPd : Hid (Pz R w.heap.size w wr u3 (encEs (E.drop (k + 1)) ++ encNs (S.drop (i + 1)))) := HP.out.cut (by rw [List.drop_eq_nil_of_le (by rw [← HKN.out]; omega)]; rfl)
                clear HP HR
                go_wp2
                go_roundw
                case rel => exact ⟨k + 1, by go_num, by omega, HPd, HQ⟩
                case measure => simp [intOf]; omega
          · have HPd : Hid (Pz R w.heap.size w wr u3 (encNs (S.drop (i + 1)))) := HP.out.cut (by rw [List.drop_eq_nil_of_le (by rw [← HEN.out]; omega)]; rfl)
            clear HP HQ
            go_wp2
            go_roundw
            case rel => exact ⟨i + 1, by go_num, by omega, HPd⟩
            case measure => simp [intOf]; omega
    · have HE : Hid (Buf w.heap.size u3 R w wr) := by
        obtain ⟨xs, h1, h2⟩ := HP.out
        rw [List.drop_eq_nil_of_le (by rw [← HN.out]; omega)] at h1
        show Buf _ _ _ _ _
        rw [h1]
        simpa [encNs] using h2
      clear HP
      go_wp2
      go_ret
      exact ⟨_, rfl, HE.out⟩
end Go.Proofs.Ytlpgdfdadkljfaa.Img
