/-
  The walk of LogKeeps.
-/
import Derived.Test.YtfcnbdnmnmihjaaLgKeep2
import Derived.Deep.RegionHeld
namespace Go.Proofs.Ytfcnbdnmnmihjaa
open Go.RowKit

theorem Kt.facts {W0 w : World} {tp : Nat} {rs1 rs : List (List UInt8)} {v : Value} (h : Kt W0 w tp rs1 rs v) : rs1.length ≤ 1048576 ∧ (∀ b ∈ rs1, b.length ≤ 65536) ∧ ∀ b ∈ rs1, Good b := by
  obtain ⟨r, l1, Z, ⟨⟨_, _, _, _, _, _, _, hl⟩, _⟩, rfl, _⟩ := h
  exact ⟨Nat.le_trans (recs_count l1) hl, good_len, recs_good l1⟩

theorem Outs.srows {B k cap : Nat} {w : World} {a : Option Addr} {rs : List (List UInt8)} (h : Outs B w (.slice a k cap) rs) : SRows (fun q => B ≤ q ∧ q < w.heap.size) w a rs := by
  obtain ⟨a', k', cap', hv, _, _, _, hs, _⟩ := h.rws.bound.form
  simp only [Value.slice.injEq] at hv
  obtain ⟨rfl, rfl, rfl⟩ := hv
  exact hs

theorem Kz.cellAt {W0 w : World} {B C lgy lgz n cap q : Nat} {rs1 : List (List UInt8)} {x : Addr} {us : List Value} {u : Value} (h : Kz W0 B C w lgy lgz rs1 (.slice (some x) n cap) us n) (hq : q < n) (hu : us[q]? = some u) : w.cell? (x.add q) = some u := by
  obtain ⟨y, aj, kj, cj, e, h1, _, h2⟩ := h.cell q hq
  simp only [Option.some.injEq] at e
  subst e
  rw [hu] at h1
  rw [h2, h1]

theorem Kz.drew {W0 w : World} {B C lgy lgz n : Nat} {rs1 : List (List UInt8)} {v : Value} {us : List Value} (h : Kz W0 B C w lgy lgz rs1 v us n) : Kz W0 B C w.drew lgy lgz rs1 v us n := by
  obtain ⟨h1, h2, h3, h4, h5⟩ := h
  exact ⟨h1.later ((Below.refl _ _).drew), h2.later ((Below.refl _ _).drew), h3.drew, h4, h5.keep fun _ _ _ => rfl⟩

theorem same_not {w : World} {a1 a2 : Option Addr} {n m cap1 cap2 : Nat} (h : n ≠ m) :
    Calls Try.prog 16 #[.slice a1 n cap1, .slice a2 m cap2] w fun e w' => e = .returned (.bool false) ∧ Below w.heap.size w w' := by
  refine (same_len h).mono ?_
  rintro e w' ⟨rfl, rfl⟩
  exact ⟨rfl, Below.refl _ _⟩

theorem open_kt {W0 w : World} {tp : Nat} {rs1 rs : List (List UInt8)} {v : Value} (h : Kt W0 w tp rs1 rs v) :
    Calls Try.prog 9 #[.pointer (some ⟨tp, 0, none⟩)] w fun e w' => ∃ lg, e = .returned (.tuple #[.pointer (some ⟨lg, 0, none⟩), .nilIface]) ∧ ∃ r L rv, St W0 w' tp (laid rs1) (laid rs1).length r ∧ LogAt L w' lg tp rs1 false rv ∧ (∀ k, L k → Off (MT tp r) w' k) ∧ Rws (fun k => k < w'.heap.size) w' v rs := by
  obtain ⟨r, l1, Z, hs, rfl, hr, hz⟩ := h
  refine (open_st hs).mono ?_
  rintro e w' ⟨lg, rv, rfl, ⟨h1, L, hl, hk, _⟩, ht⟩
  exact ⟨lg, rfl, r, L, rv, h1, hl, fun k hk' => (hk k hk').2, (hr.keep fun q hq => ht.kept (hz q hq)).mono fun q hq => (ht.off (hz q hq)).1⟩

set_option maxHeartbeats 1000000 in
set_option maxRecDepth 100000 in
theorem logKeeps_far (a0 : Option Addr) (k0 c0 : Nat) (a1 : Option Addr) (k1 c1 : Nat) (n : Int) (w : World) (h : 20 < k0 ∨ 2000 < k1) :
    Calls Try.prog 4 #[.slice a0 k0 c0, .slice a1 k1 c1, .int .i64 n] w fun e w' => e = .returned (.bool true) ∧ Below w.heap.size w w' := by
  have h' : (20 < k0) ∨ (k0 ≤ 20 ∧ 2000 < k1) := by omega
  clear h
  rcases h' with h | ⟨h1, h2⟩
  all_goals
    go_enter Try.func4, Try.ntmps4
    go_wp2_with fail
    refine (up_any w).mono ?_
    rintro e w1 ⟨rfl, hb1⟩
    have H1 : Hid (Calls _ _ _ _ _) := new_st w w1 hb1
    clear hb1
    go_wp2_with fail
    refine H1.out.mono ?_
    rintro e w2 ⟨tp, rfl, h2, _, _⟩
    have hE : Hid (Below w.heap.size w w2) := h2.2
    clear h2 H1
    go_wp2
    go_ret
    exact ⟨rfl, hE.out⟩

set_option maxHeartbeats 8000000 in
set_option maxRecDepth 100000 in
theorem logKeeps_core (a0 : Option Addr) (rs0 : List (List UInt8)) (k0 c0 : Nat) (a1 : Option Addr) (b : List UInt8) (k1 c1 : Nat) (n : Int) (w : World)
    (hk0 : Hid (k0 = rs0.length)) (hs0 : SRows (fun k => k < w.heap.size) w a0 rs0) (hk1 : Hid (k1 = b.length)) (hl1 : Lies w a1 b) (hu1 : Slc (fun k => k < w.heap.size) w (.slice a1 k1 c1) b) (hn1 : a1 = none → k1 = 0 ∧ c1 = 0)
    (hn : -9223372036854775808 ≤ n ∧ n ≤ 9223372036854775807) (g0 : k0 ≤ 20) (g2 : k1 ≤ 2000) :
    Calls Try.prog 4 #[.slice a0 k0 c0, .slice a1 k1 c1, .int .i64 n] w fun e w' => e = .returned (.bool true) ∧ Below w.heap.size w w' := by
  have HS0 : Hid (SRows (fun k => k < w.heap.size) w a0 rs0) := hs0
  have HL1 : Hid (Lies w a1 b) := hl1
  have HU1 : Hid (Slc (fun k => k < w.heap.size) w (.slice a1 k1 c1) b) := hu1
  have HN1 : Hid (a1 = none → k1 = 0 ∧ c1 = 0) := hn1
  have HN : Hid (_ ∧ _) := hn
  clear hs0 hl1 hn1 hn hu1
  go_enter Try.func4, Try.ntmps4
  go_wp2_with fail
  refine (up_any w).mono ?_
  rintro e w1 ⟨rfl, hb1⟩
  have H1 : Hid (Calls _ _ _ _ _) := new_st w w1 hb1
  clear hb1
  go_wp2_with fail
  refine H1.out.mono ?_
  rintro e w2 ⟨tp, rfl, h2, _, _⟩
  have H2 : Hid (Calls _ _ _ _ _) := open_st h2 (fun k => k < w.heap.size) (fun k hk => Nat.lt_of_lt_of_le hk h2.2.size)
  clear h2 H1
  go_wp2_with fail
  refine H2.out.mono ?_
  rintro e w3 ⟨lg, rv3, rfl, h3, _⟩
  have H3 : Hid (Ks w w3 tp lg [] 0 (.slice none 0 0)) := by
    have h3' : LogSt w w3 tp (laid []) (laid []).length none lg [] false rv3 (fun k => k < w.heap.size) := h3
    exact ⟨_, rv3, fun k => k < w.heap.size, h3', by simp, Nat.le_refl _, Rws.nil _ _, fun k hk => hk, fun k hk => ⟨Nat.lt_of_lt_of_le hk h3.1.2.size, fun hm => by have := (h3.made k hm).1; omega⟩, fun g hg => by simp [Value.ownBlock] at hg⟩
  clear h3 H2
  go_wp2
  go_loopw [11, 12] (fun vi i wr => ∃ (j : Nat) (rs : List (List UInt8)), i = .int .i64 j ∧ j ≤ k0 ∧ Hid (Ks w wr tp lg rs (j * 2003) vi)) (fun _ i _ => k0 - (intOf i).toNat)
  case atStart => exact ⟨0, [], rfl, Nat.zero_le _, H3⟩
  case round =>
    obtain ⟨j, rs, rfl, hj, hfl⟩ := hrel
    clear H3
    by_cases hlt : j < k0
    · have hjr : j < rs0.length := by rw [← hk0.out]; exact hlt
      obtain ⟨x, aj, kj, cj, e1, hc1, hkj, hkc, hcm, hlj, hnj, hoj⟩ := (HS0.out.below hfl.out.below (Nat.le_refl _)).at_ j hjr
      subst e1
      have i1 := fun W => index32 x k0 c0 j hlt W
      by_cases hbig : 2000 < kj
      · have HE : Hid (Below w.heap.size w wr) := hfl.out.below
        clear hlj hnj hoj hkj hfl hkc hcm
        go_wp2
        go_ret
        exact ⟨rfl, HE.out⟩
      · have hm20 := Nat.mul_le_mul_right 2003 (Nat.le_trans hj g0)
        have hba : Below wr.heap.size wr (wr.alloc (.cells #[] 5)) := (Below.refl _ _).alloc (Nat.le_refl _) _
        have hSz : wr.heap.size ≤ (wr.alloc (.cells #[] 5)).heap.size := by simp
        have hc1' : (wr.alloc (.cells #[] 5)).cell? (x.add j) = some (.slice aj kj cj) := by rw [hba.cell (World.block_lt_of_cell? wr _ hc1)]; exact hc1
        have hRm : Row wr.heap.size (wr.alloc (.cells #[] 5)) (.slice (some ⟨wr.heap.size, 0, none⟩) 0 0) [] := Row.made _ _ (Nat.le_refl _)
        have hlm : Lies (wr.alloc (.cells #[] 5)) aj rs0[j] := hlj.below hba (Nat.le_refl _)
        have HZ : Hid (aj = none → kj = 0 ∧ cj = 0) := hnj
        have HLn : Hid (([] : List UInt8).length + kj ≤ 140737488355328) := by show _ ≤ _; simp; omega
        -- behind the making of own: the call of Append, and what follows of it
        have HP : Hid (∀ v' w4, Row wr.heap.size w4 v' ([] ++ rs0[j]) → (wr.alloc (.cells #[] 5)).grownBy w4 (Value.slice (some ⟨wr.heap.size, 0, none⟩) 0 0).ownBlock →
            ∃ a4 c4, v' = .slice a4 kj c4 ∧ Hid (Below wr.heap.size wr w4) ∧ Hid (Row wr.heap.size w4 (.slice a4 kj c4) rs0[j])) := by
          intro v' w4 hr hg
          obtain ⟨a4, k4, c4, rfl, hk4, _⟩ := hr.form
          rw [List.nil_append] at hr hk4
          have e : k4 = kj := hk4.out.trans hkj.out.symm
          subst e
          exact ⟨a4, c4, rfl, hba.grown hg hSz (fun g hg => by simp [Value.ownBlock] at hg; omega), hr⟩
        have HX : Hid (x.block < wr.heap.size) := by have := World.block_lt_of_cell? wr _ hc1; rwa [addr_add_block] at this
        have HXW : Hid (x.block < w.heap.size) := by
          rcases HS0.out with h0 | ⟨y, hy, hlt', _⟩
          · rw [h0] at hjr; simp at hjr
          · simp only [Option.some.injEq] at hy; subst hy; exact hlt'
        have HU : Hid (Slc (fun k => k < w.heap.size) wr (.slice aj kj cj) rs0[j]) := ⟨aj, kj, cj, rfl, hkj, hkc, hcm, hlj, hnj, hoj⟩
        have HCW : Hid (wr.cell? (x.add j) = some (.slice aj kj cj)) := hc1
        have HBW : Hid (Below w.heap.size w wr) := hfl.out.below
        have HCX : Hid (∀ W, Below w.heap.size w W → W.cell? (x.add j) = some (.slice aj kj cj) ∧ Slc (fun k => k < w.heap.size) W (.slice aj kj cj) rs0[j]) := by
          intro W hW
          refine ⟨?_, ?_⟩
          · rw [World.cell?_of_block (w := wr) (by rw [addr_add_block, hW.block _ HXW.out, HBW.out.block _ HXW.out])]; exact HCW.out
          · exact HU.out.keep fun k hk => (hW.block k hk).trans (HBW.out.block k hk).symm
        clear hlj hnj hoj hba hkc hcm
        by_cases hz : 1 ≤ kj
        · have HF : Hid (∀ w4 a4 c4, Below wr.heap.size wr w4 → Row wr.heap.size w4 (.slice a4 kj c4) rs0[j] → Calls Try.prog 15 #[.pointer (some ⟨lg, 0, none⟩), .slice a4 kj c4] w4 fun e w5 => e = .returned .nilIface ∧ Kin w w5 tp lg (rs ++ [rs0[j]]) rs (j * 2003 + kj + 3) u11 (.slice a4 kj c4) kj) :=
            fun w4 a4 c4 h4 hr4 => append_kin hfl.out h4 hkj hr4 hz (by omega) (by omega)
          clear hfl
          go_wp2_with (at_builtin; refine wpList_grow rfl (.tmp 68) (.tmp 72) rfl wr.heap.size (.slice (some ⟨wr.heap.size, 0, none⟩) 0 0) [] rfl hRm hSz rs0[j] aj kj cj rfl hkj hlm HZ.out HLn.out ?_; intro v4 w4 hr4 hg4 _; obtain ⟨a4, c4, rfl, hb4, hR4⟩ := HP.out v4 w4 hr4 hg4; clear hr4 hg4)
          have HA : Hid (Calls _ _ _ _ _) := HF.out w4 a4 c4 hb4.out hR4.out
          clear hRm hlm hc1' hSz HP HF hb4 hR4
          go_wp2_with fail
          refine HA.out.mono ?_
          rintro e w5 ⟨rfl, h5⟩
          have H5 : Hid (Kin w w5 tp lg (rs ++ [rs0[j]]) rs (j * 2003 + kj + 3) u11 (.slice a4 kj c4) kj) := h5
          have hkj2 : kj ≤ 2000 := by omega
          clear h5 HA
          go_wp2
          obtain ⟨w6, hw6⟩ : ∃ w6, w6 = wr := ⟨_, rfl⟩
          subst hw6
          go_loopw [15] (fun i ws => ∃ q : Nat, i = .int .i64 q ∧ q ≤ kj ∧ Hid (Kin w ws tp lg (rs ++ [rs0[j]]) rs (j * 2003 + kj + 3) u11 (.slice a4 kj c4) kj)) (fun i _ => kj - (intOf i).toNat)
          case atStart => exact ⟨0, rfl, Nat.zero_le _, H5⟩
          case round =>
            obtain ⟨q, rfl, hq, hki⟩ := hrel
            clear H5
            by_cases hqlt : q < kj
            · obtain ⟨g, d, hag, hd, hcell, hfr, hset⟩ := hki.out.set q hqlt
              subst hag
              obtain ⟨c, hc⟩ : ∃ c : Nat, c = (d + 1) % 256 := ⟨_, rfl⟩
              have hc256 : c < 256 := by omega
              have hwr : IntKind.u8.wrap ((d : Int) + 1) = (c : Int) := by rw [IntKind.wrap_u8, hc]; omega
              clear hc hki
              go_wp2
              go_roundw
              case rel => exact ⟨q + 1, by go_num, by omega, hset.out c hc256⟩
              case measure => simp [intOf]; omega
            · obtain ⟨hcw, hus⟩ := HCX.out wr hki.out.below
              obtain ⟨Z, hr1, hu, hgrow⟩ := hki.out.grow hus
              have HLn2 : Hid (rs.length + 1 ≤ 1000000000000) := by
                obtain ⟨_, _, _, _, _, hl', _⟩ := hki.out
                have := laid_count (rs ++ [rs0[j]])
                simp only [List.length_append, List.length_singleton] at this
                show _ ≤ _
                omega
              have HG : Hid _ := hgrow
              clear hki hus hgrow
              go_wp2_with (at_builtin; refine wpList_row1 rfl (.tmp 93) (.tmp 98) rfl Z u11 (.slice aj kj cj) rs rs0[j] rfl wr hr1 hu rfl HLn2.out ?_; intro v7 w7 hr7 hg7 hat7)
              have H7 : Hid (Ks w w7 tp lg (rs ++ [rs0[j]]) ((j + 1) * 2003) v7) := (HG.out v7 w7 hr7 hg7 hat7).mono (by omega)
              clear hr7 hg7 hat7 hr1 hu HG
              go_wp2
              go_roundw
              case rel => exact ⟨j + 1, _, by go_num, by omega, H7⟩
              case measure => simp [intOf]; omega
        · have hz0 : kj = 0 := by omega
          subst hz0
          have HF : Hid (∀ w4 a4 c4, Below wr.heap.size wr w4 → Row wr.heap.size w4 (.slice a4 0 c4) rs0[j] → Calls Try.prog 15 #[.pointer (some ⟨lg, 0, none⟩), .slice a4 0 c4] w4 fun e w5 => e = .returned (.iface 50 (.int .i64 1)) ∧ w5 = w4) :=
            fun w4 a4 c4 h4 hr4 => append_kin0 (hfl.out.own h4 hkj hr4) rfl
          have HD : Hid (∀ w4 a4 c4, Below wr.heap.size wr w4 → Row wr.heap.size w4 (.slice a4 0 c4) rs0[j] → Ks w w4 tp lg rs ((j + 1) * 2003) u11) := fun w4 a4 c4 h4 hr4 => (hfl.out.own h4 hkj hr4).done.mono (by omega)
          clear hfl
          go_wp2_with (at_builtin; refine wpList_grow rfl (.tmp 68) (.tmp 72) rfl wr.heap.size (.slice (some ⟨wr.heap.size, 0, none⟩) 0 0) [] rfl hRm hSz rs0[j] aj 0 cj rfl hkj hlm HZ.out HLn.out ?_; intro v4 w4 hr4 hg4 _; obtain ⟨a4, c4, rfl, hb4, hR4⟩ := HP.out v4 w4 hr4 hg4; clear hr4 hg4)
          have HA : Hid (Calls _ _ _ _ _) := HF.out w4 a4 c4 hb4.out hR4.out
          have HK4 : Hid (Ks _ _ _ _ _ _ _) := HD.out w4 a4 c4 hb4.out hR4.out
          clear hRm hlm hc1' hSz HP HF hb4 hR4 HD
          have q1 : ∀ W, (binOp .eql 28 (.iface 50 (.int .i64 1)) .nilIface).run Try.prog W = .ok (.bool false) W := fun W => by kernel_rfl
          go_wp2_with fail
          refine HA.out.mono ?_
          rintro e w5 ⟨rfl, rfl⟩
          clear HA
          go_wp2
          refine wp_loop_rounds 1 ?_
          rw [rounds_succ]
          go_wp2
          go_roundw
          case rel => exact ⟨j + 1, _, by go_num, by omega, HK4⟩
          case measure => simp [intOf]; omega
    · have hn20 : j * 2003 ≤ 1000000 := by have := Nat.mul_le_mul_right 2003 (Nat.le_trans hj g0); omega
      have hLb : Lies wr a1 b := HL1.out.below hfl.out.below (Nat.le_refl _)
      have hcases : (∃ rs1, Hid (Calls Try.prog 12 #[.pointer (some ⟨lg, 0, none⟩), .slice a1 k1 c1, .int .i64 n] wr fun e w' => ∃ ge, e = .returned ge ∧ Kt w w' tp rs1 rs u11) ∧ Hid (rs1 = rs)) ∨
          (∃ rs1, Hid (Calls Try.prog 12 #[.pointer (some ⟨lg, 0, none⟩), .slice a1 k1 c1, .int .i64 n] wr fun e w' => e = .returned .nilIface ∧ Kt w w' tp rs1 rs u11) ∧ Hid (rs1 = rs ++ [b])) := by
        by_cases hc : k1 < 1 ∨ min n.toNat (rec1 b).length < (rec1 b).length
        · exact .inl ⟨rs, torn_ks_not hfl.out HN.out hk1 hLb HN1.out g2 hn20 hc, rfl⟩
        · exact .inr ⟨_, torn_ks_all hfl.out HN.out hk1 hLb HN1.out (by omega) g2 hn20 (by omega), rfl⟩
      clear hfl hLb
      rcases hcases with ⟨rs1, HT, HR1⟩ | ⟨rs1, HT, HR1⟩
      · go_wp2_with fail
        refine HT.out.mono ?_
        rintro e w5 ⟨ge, rfl, h5⟩
        obtain ⟨f1, f2, f3⟩ := h5.facts
        have HF1 : Hid (rs1.length ≤ 1048576) := f1
        have HF2 : Hid (∀ b ∈ rs1, b.length ≤ 65536) := f2
        have HF3 : Hid (∀ b ∈ rs1, Good b) := f3
        have H5 : Hid (Calls _ _ _ _ _) := open_kt h5
        clear h5 HT f1 f2 f3
        go_wp2_with fail
        refine H5.out.mono ?_
        rintro e w6 ⟨lgy, rfl, r6, L6, rv6, h6, hl6, hk6, hR6⟩
        obtain ⟨ai, ki, ci, hvi, hki, _, _, hsi, hni⟩ := hR6.form
        subst hvi
        have HS6 : Hid (St w w6 tp (laid rs1) (laid rs1).length r6) := h6
        have HL6 : Hid (LogAt L6 w6 lgy tp rs1 false rv6) := hl6
        have HK6 : Hid (∀ k, L6 k → Off (MT tp r6) w6 k) := hk6
        have HSI : Hid (SRows (fun k => k < w6.heap.size) w6 ai rs) := hsi
        have HNI : Hid (ai = none → ki = 0 ∧ ci = 0) := hni
        have H6 : Hid (Calls _ _ _ _ _) := records_old (lg := lgy) (rs := rs1) (w := w6) ⟨L6, tp, false, rv6, hl6, fun k hk => (hk6 k hk).1, HF1.out, HF2.out⟩
        clear h6 hl6 hk6 hR6 hsi hni H5
        go_wp2_with fail
        refine H6.out.mono ?_
        rintro e w7 ⟨a7, k7, c7, rfl, hk7, hs7, hb7, ho7⟩
        have HB7 : Hid (Below w6.heap.size w6 w7) := hb7
        have hki2 : ki ≤ 1000000000 := by
          have h1 := hki.out
          have h2 := HF1.out
          have h3 := congrArg List.length HR1.out
          try simp only [List.length_append] at h3
          omega
        obtain ⟨a8, k8, c8, w8, hrun8, a9, k9, c9, w9, hrun9, _, hk9, hr9, hb9, _⟩ := run_copy (w := w7) (u := .slice a1 k1 c1) (b := b) hki (HSI.out.below hb7 (Nat.le_refl _)) (fun k hk => Nat.lt_of_lt_of_le hk hb7.size) ((HU1.out.below (HS6.out.2.trans (hb7.mono HS6.out.2.size)) (Nat.le_refl _)).mono fun k hk => Nat.lt_of_lt_of_le hk (Nat.le_trans HS6.out.2.size hb7.size)) HNI.out hki2
        have HB9 : Hid (Below w7.heap.size w7 w9) := hb9
        have hs9 : SRows (fun _ => True) w9 a9 (rs ++ [b]) := by
          obtain ⟨a', k', cap', hv, _, _, _, hs, _⟩ := hr9.form
          simp only [Value.slice.injEq] at hv
          obtain ⟨rfl, rfl, rfl⟩ := hv
          exact hs
        have hs7' : SRows (fun _ => True) w9 a7 rs1 := hs7.out.below hb9 (Nat.le_refl _)
        have H9 : Hid (Calls Try.prog 16 #[.slice a7 k7 c7, .slice a9 k9 c9] w9 fun e w' => e = .returned (.bool false) ∧ Below w9.heap.size w9 w') := by
          exact same_not (by rw [hk7.out, hk9.out, HR1.out]; simp)
        have HS7 : Hid (SRows (fun _ => True) w9 a7 rs1) := hs7'
        have HSI9 : Hid (SRows (fun _ => True) w9 ai rs) := (HSI.out.below (hb7.trans (hb9.mono hb7.size)) (Nat.le_refl _)).mono fun _ _ => trivial
        clear H6 hb9 hr9 hs9 hs7' hs7 hb7
        go_wp2_with (at_builtin; first | refine wpList_run rfl (.tmp 118) (.tmp 119) 32 rfl _ _ _ rfl rfl hrun8 ?_ | refine wpList_run rfl (.tmp 120) (.tmp 122) 32 rfl _ _ _ rfl rfl hrun9 ?_)
        refine H9.out.mono ?_
        rintro e w10 ⟨rfl, hb10⟩
        have HB10 : Hid (Below w7.heap.size w7 w10) := HB9.out.trans (hb10.mono HB9.out.size)
        have hsA : SRows (fun _ => True) w10 a7 rs1 := HS7.out.below hb10 (Nat.le_refl _)
        have hsB : SRows (fun _ => True) w10 ai rs := HSI9.out.below hb10 (Nat.le_refl _)
        have H10 : Hid (Calls Try.prog 16 #[.slice a7 k7 c7, .slice ai ki ci] w10 fun e w' => e = .returned (.bool true) ∧ Below w10.heap.size w10 w') := by
          have e := HR1.out
          subst e
          exact same_two hk7 hki hsA hsB HF1.out
        clear H9 hb10 hsA hsB HS7 HSI9 hrun8 hrun9 hk9 HSI HNI HB9
        go_wp2_with fail
        refine H10.out.mono ?_
        rintro e w11 ⟨rfl, hb11⟩
        have HB11 : Hid (Below w7.heap.size w7 w11) := HB10.out.trans (hb11.mono HB10.out.size)
        have HB611 : Hid (Below w6.heap.size w6 w11) := HB7.out.trans (HB11.out.mono HB7.out.size)
        have HS11 : Hid (St w w11 tp (laid rs1) (laid rs1).length r6) := HS6.out.later HB611.out
        have H11 : Hid (Calls _ _ _ _ _) := open_st HS11.out (MR w6.heap.size w7.heap.size) (fun k hk => Nat.lt_of_lt_of_le hk.2 HB11.out.size)
        clear H10 hb11 HB10
        go_wp2_with fail
        refine H11.out.mono ?_
        rintro e w12 ⟨lgz, rvz, rfl, h12, ht12⟩
        rw [recs_back HF3.out] at h12
        have hmt : ∀ k, MT tp r6 k → k < w6.heap.size := fun k hk => (HS6.out.made k hk).2
        have h611 := HB611.out.size
        have h711 := HB11.out.size
        have hoffR : ∀ k, w6.heap.size ≤ k → k < w7.heap.size → Off (MT tp r6) w11 k := fun k h1 h2 => ⟨by omega, fun hm => by have := hmt k hm; omega⟩
        have HY12 : Hid (OldX (MR w6.heap.size w7.heap.size) w12 lgy rs1) := by
          have hoff : ∀ k, L6 k → Off (MT tp r6) w11 k := fun k hk => (Turn.of_below HB611.out).off (HK6.out k hk)
          refine ⟨L6, tp, false, rv6, (HL6.out.keep fun k hk => HB611.out.block k (HK6.out k hk).1).keep fun k hk => ht12.kept (hoff k hk), fun k hk => ⟨(ht12.off (hoff k hk)).1, fun hm => ?_⟩, HF1.out, HF2.out⟩
          have h1 := (HK6.out k hk).1
          have h2 := hm.1
          omega
        have HZ12 : Hid (OldX (MR w6.heap.size w7.heap.size) w12 lgz rs1) := by
          obtain ⟨_, L, h1, h2, h3⟩ := h12
          exact ⟨L, tp, false, rvz, h1, fun k hk => ⟨(h2 k hk).2.1, h3 k hk⟩, HF1.out, HF2.out⟩
        obtain ⟨us, ho7a⟩ := ho7.out.any hk7.out
        have HO12 : Hid (OutsAny w6.heap.size w7.heap.size w12 (.slice a7 k7 c7) us k7) := ho7a.keep fun k h1 h2 => (ht12.kept (hoffR k h1 h2)).trans (HB11.out.block k h2)
        have HR12 : Hid (SRows (fun _ => True) w12 a7 rs1) := (ho7.out.srows.keep fun k hk => (ht12.kept (hoffR k hk.1 hk.2)).trans (HB11.out.block k hk.2)).mono fun _ _ => trivial
        have HE12 : Hid (Below w.heap.size w w12) := h12.1.2
        have HWB : Hid (w.heap.size ≤ w6.heap.size) := HS6.out.2.size
        have HCs : Hid (w7.heap.size ≤ w12.heap.size) := Nat.le_trans HB11.out.size ht12.size
        have H12 : Hid (Calls _ _ _ _ _) := records_old HZ12.out.old
        clear h12 ht12 hmt hoffR ho7 ho7a H11 HS11 HB611 HB11 HL6 HK6 HS6 HB7 h611 h711
        generalize w6.heap.size = B at HY12 HZ12 HO12 HWB
        generalize w7.heap.size = C at HY12 HZ12 HO12 HCs
        go_wp2_with fail
        refine H12.out.mono ?_
        rintro e w13 ⟨a13, k13, c13, rfl, hk13, hs13, hb13, _⟩
        have H13 : Hid (Calls _ _ _ _ _) := same_two (cap1 := c13) (cap2 := c7) hk13 hk7 hs13.out (HR12.out.below hb13 (Nat.le_refl _)) HF1.out
        have HB13 : Hid (Below w12.heap.size w12 w13) := hb13
        clear H12 hb13 hs13
        go_wp2_with fail
        refine H13.out.mono ?_
        rintro e w14 ⟨rfl, hb14⟩
        have HB14 : Hid (Below w12.heap.size w12 w14) := HB13.out.trans (hb14.mono HB13.out.size)
        have HK14 : Hid (Kz w B C w14 lgy lgz rs1 (.slice a7 k7 c7) us k7) := by
          refine ⟨HY12.out.later HB14.out, HZ12.out.later HB14.out, HE12.out.trans (HB14.out.mono HE12.out.size), HWB.out, HO12.out.keep fun k _ h2 => HB14.out.block k (Nat.lt_of_lt_of_le h2 HCs.out)⟩
        clear H13 hb14 HB13 HB14 HY12 HZ12 HO12 HR12 HE12 HWB HCs
        have hk7m : k7 ≤ 1048576 := by rw [hk7.out]; exact HF1.out
        go_wp2
        go_loopw [23] (fun i ws => ∃ q : Nat, i = .int .i64 q ∧ q ≤ k7 ∧ Hid (Kz w B C ws lgy lgz rs1 (.slice a7 k7 c7) us k7)) (fun i _ => k7 - (intOf i).toNat)
        case atStart => exact ⟨0, rfl, Nat.zero_le _, HK14⟩
        case round =>
          obtain ⟨q, rfl, hq, hkz⟩ := hrel
          clear HK14
          by_cases hqlt : q < k7
          · obtain ⟨x, aq, kq, cq, hax, huq, hmx, _⟩ := hkz.out.cell q hqlt
            subst hax
            have hmx2 : kq ≤ 9223372036854775807 := by unfold maxLen at hmx; omega
            clear hmx
            have i7 := fun W => index32 x k7 c7 q hqlt W
            have HUQ : Hid (us[q]? = some (.slice aq kq cq)) := huq
            clear huq
            go_wp2
            go_loopw [24] (fun i wt => ∃ p : Nat, i = .int .i64 p ∧ p ≤ kq ∧ Hid (Kz w B C wt lgy lgz rs1 (.slice (some x) k7 c7) us k7)) (fun i _ => kq - (intOf i).toNat)
            case atStart => exact ⟨0, rfl, Nat.zero_le _, hkz⟩
            case round =>
              obtain ⟨p, rfl, hp, hkz2⟩ := hrel
              clear hkz
              have hcq := hkz2.out.cellAt hqlt HUQ.out
              by_cases hplt : p < kq
              · obtain ⟨g, d, hag, hd, hcell, hfr, hset⟩ := (hkz2.out.drew).set q hqlt HUQ.out p hplt
                subst hag
                obtain ⟨c, hc⟩ : ∃ c : Nat, c = (d + 1) % 256 := ⟨_, rfl⟩
                have hc256 : c < 256 := by omega
                have hwr : IntKind.u8.wrap ((d : Int) + 1) = (c : Int) := by rw [IntKind.wrap_u8, hc]; omega
                clear hc hkz2
                go_wp2
                go_region
                all_goals
                  go_wp2
                  go_roundw
                  case rel => exact ⟨p + 1, by go_num, by omega, hset.out c hc256⟩
                  case measure => simp [intOf]; omega
              · go_wp2
                go_roundw
                case rel => exact ⟨q + 1, by go_num, by omega, hkz2⟩
                case measure => simp [intOf]; omega
          · have H15 : Hid (Calls _ _ _ _ _) := records_old hkz.out.1.old
            have HZ15 : Hid (Old wr lgz rs1) := hkz.out.2.1.old
            have HE15 : Hid (Below w.heap.size w wr) := hkz.out.2.2.1
            clear hkz
            go_wp2_with fail
            refine H15.out.mono ?_
            rintro e w16 ⟨a16, k16, c16, rfl, hk16, hs16, hb16, _⟩
            have H16 : Hid (Calls _ _ _ _ _) := records_old (HZ15.out.later hb16)
            have HE16 : Hid (Below w.heap.size w w16) := HE15.out.trans (hb16.mono HE15.out.size)
            clear hb16 H15 HZ15 HE15
            go_wp2_with fail
            refine H16.out.mono ?_
            rintro e w17 ⟨a17, k17, c17, rfl, hk17, hs17, hb17, _⟩
            have H17 : Hid (Calls _ _ _ _ _) := same_two (cap1 := c16) (cap2 := c17) hk16 hk17 (hs16.out.below hb17 (Nat.le_refl _)) hs17.out HF1.out
            have HE17 : Hid (Below w.heap.size w w17) := HE16.out.trans (hb17.mono HE16.out.size)
            clear hb17 H16 HE16
            go_wp2_with fail
            refine H17.out.mono ?_
            rintro e w18 ⟨rfl, hb18⟩
            have HE18 : Hid (Below w.heap.size w w18) := HE17.out.trans (hb18.mono HE17.out.size)
            clear hb18 H17
            go_wp2
            go_ret
            exact ⟨rfl, HE18.out⟩
      · go_wp2_with fail
        refine HT.out.mono ?_
        rintro e w5 ⟨rfl, h5⟩
        obtain ⟨f1, f2, f3⟩ := h5.facts
        have HF1 : Hid (rs1.length ≤ 1048576) := f1
        have HF2 : Hid (∀ b ∈ rs1, b.length ≤ 65536) := f2
        have HF3 : Hid (∀ b ∈ rs1, Good b) := f3
        have H5 : Hid (Calls _ _ _ _ _) := open_kt h5
        clear h5 HT f1 f2 f3
        go_wp2_with fail
        refine H5.out.mono ?_
        rintro e w6 ⟨lgy, rfl, r6, L6, rv6, h6, hl6, hk6, hR6⟩
        obtain ⟨ai, ki, ci, hvi, hki, _, _, hsi, hni⟩ := hR6.form
        subst hvi
        have HS6 : Hid (St w w6 tp (laid rs1) (laid rs1).length r6) := h6
        have HL6 : Hid (LogAt L6 w6 lgy tp rs1 false rv6) := hl6
        have HK6 : Hid (∀ k, L6 k → Off (MT tp r6) w6 k) := hk6
        have HSI : Hid (SRows (fun k => k < w6.heap.size) w6 ai rs) := hsi
        have HNI : Hid (ai = none → ki = 0 ∧ ci = 0) := hni
        have H6 : Hid (Calls _ _ _ _ _) := records_old (lg := lgy) (rs := rs1) (w := w6) ⟨L6, tp, false, rv6, hl6, fun k hk => (hk6 k hk).1, HF1.out, HF2.out⟩
        clear h6 hl6 hk6 hR6 hsi hni H5
        go_wp2_with fail
        refine H6.out.mono ?_
        rintro e w7 ⟨a7, k7, c7, rfl, hk7, hs7, hb7, ho7⟩
        have HB7 : Hid (Below w6.heap.size w6 w7) := hb7
        have hki2 : ki ≤ 1000000000 := by
          have h1 := hki.out
          have h2 := HF1.out
          have h3 := congrArg List.length HR1.out
          try simp only [List.length_append] at h3
          omega
        obtain ⟨a8, k8, c8, w8, hrun8, a9, k9, c9, w9, hrun9, _, hk9, hr9, hb9, _⟩ := run_copy (w := w7) (u := .slice a1 k1 c1) (b := b) hki (HSI.out.below hb7 (Nat.le_refl _)) (fun k hk => Nat.lt_of_lt_of_le hk hb7.size) ((HU1.out.below (HS6.out.2.trans (hb7.mono HS6.out.2.size)) (Nat.le_refl _)).mono fun k hk => Nat.lt_of_lt_of_le hk (Nat.le_trans HS6.out.2.size hb7.size)) HNI.out hki2
        have HB9 : Hid (Below w7.heap.size w7 w9) := hb9
        have hs9 : SRows (fun _ => True) w9 a9 (rs ++ [b]) := by
          obtain ⟨a', k', cap', hv, _, _, _, hs, _⟩ := hr9.form
          simp only [Value.slice.injEq] at hv
          obtain ⟨rfl, rfl, rfl⟩ := hv
          exact hs
        have hs7' : SRows (fun _ => True) w9 a7 rs1 := hs7.out.below hb9 (Nat.le_refl _)
        have H9 : Hid (Calls Try.prog 16 #[.slice a7 k7 c7, .slice a9 k9 c9] w9 fun e w' => e = .returned (.bool true) ∧ Below w9.heap.size w9 w') := by
          have e := HR1.out
          subst e
          exact same_two hk7 hk9 hs7' hs9 HF1.out
        have HS7 : Hid (SRows (fun _ => True) w9 a7 rs1) := hs7'
        have HSI9 : Hid (SRows (fun _ => True) w9 ai rs) := (HSI.out.below (hb7.trans (hb9.mono hb7.size)) (Nat.le_refl _)).mono fun _ _ => trivial
        clear H6 hb9 hr9 hs9 hs7' hs7 hb7
        go_wp2_with (at_builtin; first | refine wpList_run rfl (.tmp 118) (.tmp 119) 32 rfl _ _ _ rfl rfl hrun8 ?_ | refine wpList_run rfl (.tmp 120) (.tmp 122) 32 rfl _ _ _ rfl rfl hrun9 ?_)
        refine H9.out.mono ?_
        rintro e w10 ⟨rfl, hb10⟩
        have HB10 : Hid (Below w7.heap.size w7 w10) := HB9.out.trans (hb10.mono HB9.out.size)
        have hsA : SRows (fun _ => True) w10 a7 rs1 := HS7.out.below hb10 (Nat.le_refl _)
        have hsB : SRows (fun _ => True) w10 ai rs := HSI9.out.below hb10 (Nat.le_refl _)
        have H10 : Hid (Calls Try.prog 16 #[.slice a7 k7 c7, .slice ai ki ci] w10 fun e w' => e = .returned (.bool false) ∧ Below w10.heap.size w10 w') := by
          exact same_not (by rw [hk7.out, hki.out, HR1.out]; simp)
        clear H9 hb10 hsA hsB HS7 HSI9 hrun8 hrun9 hk9 HSI HNI HB9
        go_wp2_with fail
        refine H10.out.mono ?_
        rintro e w11 ⟨rfl, hb11⟩
        have HB11 : Hid (Below w7.heap.size w7 w11) := HB10.out.trans (hb11.mono HB10.out.size)
        have HB611 : Hid (Below w6.heap.size w6 w11) := HB7.out.trans (HB11.out.mono HB7.out.size)
        have HS11 : Hid (St w w11 tp (laid rs1) (laid rs1).length r6) := HS6.out.later HB611.out
        have H11 : Hid (Calls _ _ _ _ _) := open_st HS11.out (MR w6.heap.size w7.heap.size) (fun k hk => Nat.lt_of_lt_of_le hk.2 HB11.out.size)
        clear H10 hb11 HB10
        go_wp2_with fail
        refine H11.out.mono ?_
        rintro e w12 ⟨lgz, rvz, rfl, h12, ht12⟩
        rw [recs_back HF3.out] at h12
        have hmt : ∀ k, MT tp r6 k → k < w6.heap.size := fun k hk => (HS6.out.made k hk).2
        have h611 := HB611.out.size
        have h711 := HB11.out.size
        have hoffR : ∀ k, w6.heap.size ≤ k → k < w7.heap.size → Off (MT tp r6) w11 k := fun k h1 h2 => ⟨by omega, fun hm => by have := hmt k hm; omega⟩
        have HY12 : Hid (OldX (MR w6.heap.size w7.heap.size) w12 lgy rs1) := by
          have hoff : ∀ k, L6 k → Off (MT tp r6) w11 k := fun k hk => (Turn.of_below HB611.out).off (HK6.out k hk)
          refine ⟨L6, tp, false, rv6, (HL6.out.keep fun k hk => HB611.out.block k (HK6.out k hk).1).keep fun k hk => ht12.kept (hoff k hk), fun k hk => ⟨(ht12.off (hoff k hk)).1, fun hm => ?_⟩, HF1.out, HF2.out⟩
          have h1 := (HK6.out k hk).1
          have h2 := hm.1
          omega
        have HZ12 : Hid (OldX (MR w6.heap.size w7.heap.size) w12 lgz rs1) := by
          obtain ⟨_, L, h1, h2, h3⟩ := h12
          exact ⟨L, tp, false, rvz, h1, fun k hk => ⟨(h2 k hk).2.1, h3 k hk⟩, HF1.out, HF2.out⟩
        obtain ⟨us, ho7a⟩ := ho7.out.any hk7.out
        have HO12 : Hid (OutsAny w6.heap.size w7.heap.size w12 (.slice a7 k7 c7) us k7) := ho7a.keep fun k h1 h2 => (ht12.kept (hoffR k h1 h2)).trans (HB11.out.block k h2)
        have HR12 : Hid (SRows (fun _ => True) w12 a7 rs1) := (ho7.out.srows.keep fun k hk => (ht12.kept (hoffR k hk.1 hk.2)).trans (HB11.out.block k hk.2)).mono fun _ _ => trivial
        have HE12 : Hid (Below w.heap.size w w12) := h12.1.2
        have HWB : Hid (w.heap.size ≤ w6.heap.size) := HS6.out.2.size
        have HCs : Hid (w7.heap.size ≤ w12.heap.size) := Nat.le_trans HB11.out.size ht12.size
        have H12 : Hid (Calls _ _ _ _ _) := records_old HZ12.out.old
        clear h12 ht12 hmt hoffR ho7 ho7a H11 HS11 HB611 HB11 HL6 HK6 HS6 HB7 h611 h711
        generalize w6.heap.size = B at HY12 HZ12 HO12 HWB
        generalize w7.heap.size = C at HY12 HZ12 HO12 HCs
        go_wp2_with fail
        refine H12.out.mono ?_
        rintro e w13 ⟨a13, k13, c13, rfl, hk13, hs13, hb13, _⟩
        have H13 : Hid (Calls _ _ _ _ _) := same_two (cap1 := c13) (cap2 := c7) hk13 hk7 hs13.out (HR12.out.below hb13 (Nat.le_refl _)) HF1.out
        have HB13 : Hid (Below w12.heap.size w12 w13) := hb13
        clear H12 hb13 hs13
        go_wp2_with fail
        refine H13.out.mono ?_
        rintro e w14 ⟨rfl, hb14⟩
        have HB14 : Hid (Below w12.heap.size w12 w14) := HB13.out.trans (hb14.mono HB13.out.size)
        have HK14 : Hid (Kz w B C w14 lgy lgz rs1 (.slice a7 k7 c7) us k7) := by
          refine ⟨HY12.out.later HB14.out, HZ12.out.later HB14.out, HE12.out.trans (HB14.out.mono HE12.out.size), HWB.out, HO12.out.keep fun k _ h2 => HB14.out.block k (Nat.lt_of_lt_of_le h2 HCs.out)⟩
        clear H13 hb14 HB13 HB14 HY12 HZ12 HO12 HR12 HE12 HWB HCs
        have hk7m : k7 ≤ 1048576 := by rw [hk7.out]; exact HF1.out
        go_wp2
        go_loopw [23] (fun i ws => ∃ q : Nat, i = .int .i64 q ∧ q ≤ k7 ∧ Hid (Kz w B C ws lgy lgz rs1 (.slice a7 k7 c7) us k7)) (fun i _ => k7 - (intOf i).toNat)
        case atStart => exact ⟨0, rfl, Nat.zero_le _, HK14⟩
        case round =>
          obtain ⟨q, rfl, hq, hkz⟩ := hrel
          clear HK14
          by_cases hqlt : q < k7
          · obtain ⟨x, aq, kq, cq, hax, huq, hmx, _⟩ := hkz.out.cell q hqlt
            subst hax
            have hmx2 : kq ≤ 9223372036854775807 := by unfold maxLen at hmx; omega
            clear hmx
            have i7 := fun W => index32 x k7 c7 q hqlt W
            have HUQ : Hid (us[q]? = some (.slice aq kq cq)) := huq
            clear huq
            go_wp2
            go_loopw [24] (fun i wt => ∃ p : Nat, i = .int .i64 p ∧ p ≤ kq ∧ Hid (Kz w B C wt lgy lgz rs1 (.slice (some x) k7 c7) us k7)) (fun i _ => kq - (intOf i).toNat)
            case atStart => exact ⟨0, rfl, Nat.zero_le _, hkz⟩
            case round =>
              obtain ⟨p, rfl, hp, hkz2⟩ := hrel
              clear hkz
              have hcq := hkz2.out.cellAt hqlt HUQ.out
              by_cases hplt : p < kq
              · obtain ⟨g, d, hag, hd, hcell, hfr, hset⟩ := (hkz2.out.drew).set q hqlt HUQ.out p hplt
                subst hag
                obtain ⟨c, hc⟩ : ∃ c : Nat, c = (d + 1) % 256 := ⟨_, rfl⟩
                have hc256 : c < 256 := by omega
                have hwr : IntKind.u8.wrap ((d : Int) + 1) = (c : Int) := by rw [IntKind.wrap_u8, hc]; omega
                clear hc hkz2
                go_wp2
                go_region
                all_goals
                  go_wp2
                  go_roundw
                  case rel => exact ⟨p + 1, by go_num, by omega, hset.out c hc256⟩
                  case measure => simp [intOf]; omega
              · go_wp2
                go_roundw
                case rel => exact ⟨q + 1, by go_num, by omega, hkz2⟩
                case measure => simp [intOf]; omega
          · have H15 : Hid (Calls _ _ _ _ _) := records_old hkz.out.1.old
            have HZ15 : Hid (Old wr lgz rs1) := hkz.out.2.1.old
            have HE15 : Hid (Below w.heap.size w wr) := hkz.out.2.2.1
            clear hkz
            go_wp2_with fail
            refine H15.out.mono ?_
            rintro e w16 ⟨a16, k16, c16, rfl, hk16, hs16, hb16, _⟩
            have H16 : Hid (Calls _ _ _ _ _) := records_old (HZ15.out.later hb16)
            have HE16 : Hid (Below w.heap.size w w16) := HE15.out.trans (hb16.mono HE15.out.size)
            clear hb16 H15 HZ15 HE15
            go_wp2_with fail
            refine H16.out.mono ?_
            rintro e w17 ⟨a17, k17, c17, rfl, hk17, hs17, hb17, _⟩
            have H17 : Hid (Calls _ _ _ _ _) := same_two (cap1 := c16) (cap2 := c17) hk16 hk17 (hs16.out.below hb17 (Nat.le_refl _)) hs17.out HF1.out
            have HE17 : Hid (Below w.heap.size w w17) := HE16.out.trans (hb17.mono HE16.out.size)
            clear hb17 H16 HE16
            go_wp2_with fail
            refine H17.out.mono ?_
            rintro e w18 ⟨rfl, hb18⟩
            have HE18 : Hid (Below w.heap.size w w18) := HE17.out.trans (hb18.mono HE17.out.size)
            clear hb18 H17
            go_wp2
            go_ret
            exact ⟨rfl, HE18.out⟩

theorem logKeeps_walk (a0 : Option Addr) (rs0 : List (List UInt8)) (k0 c0 : Nat) (a1 : Option Addr) (b : List UInt8) (k1 c1 : Nat) (n : Int) (w : World)
    (hk0 : Hid (k0 = rs0.length)) (hs0 : SRows (fun k => k < w.heap.size) w a0 rs0) (_ : k0 ≤ c0) (_ : c0 ≤ maxLen) (_ : a0 = none → k0 = 0 ∧ c0 = 0) (hk1 : Hid (k1 = b.length)) (hl1 : Lies w a1 b) (h3 : k1 ≤ c1) (h4 : c1 ≤ maxLen) (hn1 : a1 = none → k1 = 0 ∧ c1 = 0)
    (g1 : -9223372036854775808 ≤ n) (g2 : n ≤ 9223372036854775807) :
    Calls Try.prog 4 #[.slice a0 k0 c0, .slice a1 k1 c1, .int .i64 n] w fun e w' => e = .returned (.bool true) ∧ Below w.heap.size w w' := by
  by_cases h : 20 < k0 ∨ 2000 < k1
  · exact logKeeps_far a0 k0 c0 a1 k1 c1 n w h
  · exact logKeeps_core a0 rs0 k0 c0 a1 b k1 c1 n w hk0 hs0 hk1 hl1 ⟨a1, k1, c1, rfl, hk1, h3, h4, hl1, hn1, fun x hx => by subst hx; exact hl1.lt⟩ hn1 ⟨g1, g2⟩ (by omega) (by omega)
end Go.Proofs.Ytfcnbdnmnmihjaa
