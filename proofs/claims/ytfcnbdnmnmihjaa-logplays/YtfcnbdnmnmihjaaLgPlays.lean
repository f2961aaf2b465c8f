/-
  The walk of LogPlays.
-/
import Derived.Test.YtfcnbdnmnmihjaaLgPlay3
import Derived.Deep.RegionHeld3
namespace Go.Proofs.Ytfcnbdnmnmihjaa
open Go.RowKit

theorem step_runW {ops : Array Oper} {o : Oper} {a : Act} {K : Act → World → Prop} {Q : Exit → Act → World → Prop} {E : Prop} {w w0 w' : World} (hw : w = w0) (hgd : o.guard = none) (s x : Operand) (t : TypeId)
    (ho : o.op = .call { callee := .builtin .append, args := #[s, x], argTypes := #[t, t] }) (vs vx v' : Value) (hs : a.eval s = vs) (hx : a.eval x = vx)
    (hrun : (Builtin.append_ #[t, t] o.type #[vs, vx]).run Try.prog w0 = .ok v' w') (h : K (a.put o.dst v') w') :
    if Region.wanted o (yielded ops a.tmps) = true then o.wp Try.prog a w K Q else E := by
  subst hw
  exact step_run hgd s x t ho vs vx v' hs hx hrun h

set_option maxHeartbeats 64000000 in
set_option maxRecDepth 100000 in
theorem logPlays_core (a : Option Addr) (n cap : Nat) (w : World) (hd : DeedsIn w a n) :
    Calls Try.prog 3 #[.slice a n cap] w fun e w' => e = .returned (.bool true) ∧ Below w.heap.size w w' := by
  have HD : Hid (DeedsIn w a n) := hd
  clear hd
  go_enter Try.func3, Try.ntmps3
  go_wp2_with fail
  refine (up_any w).mono ?_
  rintro e w1 ⟨rfl, hb1⟩
  have H1 : Hid (Calls _ _ _ _ _) := new_st w w1 hb1
  clear hb1
  go_wp2_with fail
  refine H1.out.mono ?_
  rintro e w2 ⟨tp, rfl, h2, _, _⟩
  have H2 : Hid (Calls _ _ _ _ _) := open_st h2
  clear h2 H1
  go_wp2_with fail
  refine H2.out.mono ?_
  rintro e w3 ⟨lg3, rv3, rfl, h3, _⟩
  have HA : Hid (Px w w3 tp lg3 [] [] false (DB (.slice none 0 0) [] (.slice none 0 0) [])) := by
    have h3' : LogSt w w3 tp [] 0 none lg3 [] false rv3 := h3
    exact ⟨_, rv3, h3', ⟨none, 0, 0, rfl, rfl, Nat.le_refl _, Nat.zero_le _, .inl rfl, fun _ => ⟨rfl, rfl⟩, fun x hx => by cases hx⟩, Rws.nil _ _⟩
  clear h3 H2
  go_wp2
  go_loopw [5, 7, 8, 9, 10] (fun lv vb vr tv i wr => ∃ (j lg : Nat) (l : List UInt8) (rs : List (List UInt8)) (torn : Bool) (ab : Option Addr) (kb cb : Nat) (ar : Option Addr) (kr cr : Nat), j ≤ n ∧ j ≤ 60 ∧ i = .int .i64 (j : Int) ∧ lv = .pointer (some ⟨lg, 0, none⟩) ∧ vb = .slice ab kb cb ∧ vr = .slice ar kr cr ∧ tv = .bool torn ∧ Hid (Px w wr tp lg l rs torn (DB (.slice ab kb cb) l (.slice ar kr cr) rs)) ∧ Hid ((torn = false → l = laid rs) ∧ (∀ b ∈ rs, Good b) ∧ rs.length ≤ l.length)) (fun _ _ _ _ i _ => n - (intOf i).toNat)
  case atStart => exact ⟨0, lg3, [], [], false, none, 0, 0, none, 0, 0, Nat.zero_le _, Nat.zero_le _, rfl, rfl, rfl, rfl, rfl, HA, ⟨fun _ => rfl, by simp, Nat.le_refl _⟩⟩
  case round =>
    obtain ⟨j, lg, l, rs, torn, ab, kb, cb, ar, kr, cr, hj, hj2, rfl, rfl, rfl, rfl, rfl, HP, HQ⟩ := hrel
    have HE : Hid (Below w.heap.size w wr) := HP.out.below
    have HKB : Hid (kb = l.length ∧ kb ≤ cb ∧ cb ≤ maxLen ∧ (ab = none → kb = 0 ∧ cb = 0)) := by
      obtain ⟨r, rv, _, h1, _⟩ := HP.out
      obtain ⟨g1, g2, g3, _, g5, _⟩ := slc_form h1
      exact ⟨g1.out, g2, g3, g5⟩
    have HKR : Hid (kr = rs.length) := by
      obtain ⟨r, rv, _, _, h1⟩ := HP.out
      exact (rws_form h1).1
    clear HA
    by_cases hlt : j < n ∧ j < 60
    · obtain ⟨h1, h2⟩ := hlt
      have hdd : ∃ x, a = some x ∧ DeedAt w (x.add (j * 3)) := by
        rcases HD.out with h0 | ⟨x, hx, h⟩
        · omega
        · exact ⟨x, hx, h j h1⟩
      obtain ⟨x, rfl, hda⟩ := hdd
      have hix := index_deed x n cap j h1
      have hs34 := size34
      have ha34 := agg34
      obtain ⟨p, hp⟩ : ∃ p, p = x.add (j * 3) := ⟨_, rfl⟩
      rw [← hp] at hda hix
      obtain ⟨c, m, da, dk, dc, dl, c0', c1', c2', hc, hmm, hdl⟩ := hda
      have c0 := cell_below HE.out (Nat.le_refl _) c0'
      have c1 := cell_below HE.out (Nat.le_refl _) c1'
      have c2 := cell_below HE.out (Nat.le_refl _) c2'
      have HC : Hid (_ ∧ _) := hc
      have HM : Hid (_ ∧ _) := hmm
      have HDL : Hid (Slc (fun k => k < w.heap.size) w (.slice da dk dc) dl) := hdl
      have HDK : Hid (dk = dl.length) := (slc_form hdl).1
      clear hc hmm hdl hp c0' c1' c2'
      by_cases hdk : dk ≤ 70000 ∧ kb ≤ 300000
      · obtain ⟨hdk, hkb⟩ := hdk
        have HPk : Hid (Calls Try.prog 10 #[.int .i64 c, .int .i64 4] (wr.alloc (.cells #[.int .i64 c, .int .i64 m, .slice da dk dc] 34)) fun e w' => (∃ q : Nat, q < 4 ∧ e = .returned (.int .i64 (q : Int))) ∧ Px w w' tp lg l rs torn (DX (.slice ab kb cb) l (.slice ar kr cr) rs wr.heap.size c m (.slice da dk dc))) := by
          refine (pick_any c 4 _ HC.out.1 HC.out.2 (by omega) (by omega)).mono ?_
          rintro e w' ⟨hq, rfl⟩
          exact ⟨hq, HP.out.boxed c m _⟩
        go_wp2_with fail
        refine HPk.out.mono ?_
        rintro e w3 ⟨⟨q, hq, rfl⟩, hP3⟩
        have HP3 : Hid (Px w w3 tp lg l rs torn (DX (.slice ab kb cb) l (.slice ar kr cr) rs wr.heap.size c m (.slice da dk dc))) := hP3
        obtain ⟨b0, b1, b2, _⟩ := hP3.cells
        have HR := px_rec hP3 (HDL.out.below hP3.below (Nat.le_refl _)) hdk
        have hS3 : (Below w3.heap.size w3 w3.drew ∧ w3.drew.cell? ⟨wr.heap.size, 2, none⟩ = some (.slice da dk dc)) := ⟨(Below.refl _ _).drew, b2⟩
        clear hP3 HPk c0 c1 c2 hix hs34 ha34
        have hq' : q = 2 ∨ q = 3 ∨ (((q : Int) == 2) = false ∧ ((q : Int) == 3) = false) := by
          by_cases g1 : q = 2
          · exact .inl g1
          · by_cases g2 : q = 3
            · exact .inr (.inl g2)
            · exact .inr (.inr ⟨by simp; omega, by simp; omega⟩)
        have HQ0 : Hid _ := hq'
        clear hq'
        clear hq
        have hcls : torn = true ∨ (torn = false ∧ dk < 1) ∨ (torn = false ∧ 1 ≤ dk ∧ 65536 < dk) ∨ (torn = false ∧ 1 ≤ dk ∧ dk ≤ 65536) := by
          cases torn
          · simp only [Bool.false_eq_true, false_or, true_and]; omega
          · exact .inl rfl
        generalize hbx : wr.heap.size = bx at *
        clear hbx
        have hwk : IntKind.u64.wrap (dk : Int) = (dk : Int) := by rw [IntKind.wrap_u64]; omega
        rcases hcls with rfl | ⟨rfl, hz⟩ | ⟨rfl, hz1, hz2⟩ | ⟨rfl, hz1, hz2⟩
        · as_aux_lemma =>
          go_wp2_with fail
          go_region_held3 (fun W => (Below w3.heap.size w3 W ∧ W.cell? ⟨bx, 2, none⟩ = some (.slice da dk dc))) (first | assumption)
            (first
              | (go_at_call 11; refine (HR.out _ (by assumption)).mono ?_; rintro e w4 ⟨a4, k4, c4, rfl, hS4, H5⟩)
              | (obtain ⟨a5, k5, c5, w5, hrun5, hS5, HY5, hk5⟩ := H5.out; refine step_run (by rfl) (.tmp 78) (.tmp 80) 31 (by rfl) _ _ _ (by rfl) (by rfl) hrun5 ?_))
          obtain ⟨e0, e1, e2, _⟩ := (HY5.out.weak (fun _ _ h => h.1)).cells
          have HU5 : Hid (Slc (fun k => k < w.heap.size) w5 (.slice da dk dc) dl) := HDL.out.below HY5.out.below (Nat.le_refl _)
          have HA5 : Hid (k5 ≤ c5 ∧ c5 ≤ maxLen ∧ (a5 = none → k5 = 0 ∧ c5 = 0)) := by
            obtain ⟨r, rv, _, _, h1⟩ := HY5.out
            obtain ⟨_, g2, g3, _, g5, _⟩ := slc_form h1
            exact ⟨g2, g3, g5⟩
          have HK5 : Hid (k5 ≤ 70010 ∧ k5 = (rec1 dl).length) := by
            have g1 := hk5.out
            have g2 := HDK.out
            have g3 := rec1_len dl
            have g4 := digs_len10 (n := dl.length) (by omega)
            exact ⟨by omega, g1⟩
          clear hS5 hS4 hS3 hrun5 H5 HR b0 b1 b2 HP3 hk5
          rcases HQ0.out with rfl | rfl | ⟨hq2, hq3⟩
          · as_aux_lemma =>
              have H6 : Hid (Calls _ _ _ _ _) := torn_bad (a := da) (k := dk) (cap := dc) (n := m) (px_state HY5.out)
              go_wp2_with fail
              refine H6.out.mono ?_
              rintro e w6 ⟨rfl, rfl⟩
              clear H6
              go_wp2_with fail
              refine (code_state _).mono ?_
              rintro e w7 ⟨rfl, rfl⟩
              have HP7 : Hid (Px w w6 tp lg l rs true (DB (.slice ab kb cb) l (.slice ar kr cr) rs)) := HY5.out.weak (fun _ _ h => h.1.1)
              clear HY5 HU5

              have HG : Hid (∀ b ∈ rs, Good b) := HQ.out.2.1
              have HN : Hid ((rs).length ≤ 1048576) := by show _ ≤ _; have g1 := HQ.out.2.2; have g2 := HKB.out.1; omega
              go_wp2_with fail
              obtain ⟨T, cB, hRc, hSm, hBy, hSy⟩ := (HP7.out).tail HG.out HN.out
              go_region_held (fun W => (Below w6.heap.size w6 W ∧ (convert 31 9 (.slice ab kb cb)).run Try.prog W = .ok (.string T) W)) (first | assumption | exact ⟨(Below.refl _ _).drew, cB⟩)
                (first
                  | (go_at_call 17; refine (hRc.out _ (by assumption)).mono ?_; rintro e w21 ⟨a21, k21, c21, rfl, hk21, hS21⟩)
                  | (go_at_call 16; refine (hSm.out _ _ _ _ (by assumption) hk21.out).mono ?_; rintro e w22 ⟨rfl, hS22⟩)
                  | (go_at_call 18; refine (hBy.out _ (by assumption)).mono ?_; rintro e w23 ⟨a23, k23, c23, rfl, hc23, hS23⟩)
                  | (go_at_call 19; refine (hSy.out _ (by assumption)).mono ?_; rintro e w24 ⟨rfl, rfl⟩))
              all_goals
                have HL : Hid (Px w w24 tp lg (l) (rs) true (DB (.slice ab kb cb) (l) (.slice ar kr cr) (rs))) := (HP7.out).later (keep_DB _ _ _ _) hS23.1
                have HQ2 : Hid ((true = false → l = laid (rs)) ∧ (∀ b ∈ rs, Good b) ∧ (rs).length ≤ (l).length) := HQ
                clear hS21 hS22 hS23 cB hRc hSm hBy hSy hc23 hk21
                go_wp2
                go_roundw
                case rel => exact ⟨j + 1, lg, l, rs, true, ab, kb, cb, ar, kr, cr, by omega, by omega, by go_num, rfl, rfl, rfl, rfl, HL, HQ2⟩
                case measure => simp [intOf]; omega
          · as_aux_lemma =>
              have H6 : Hid (Calls _ _ _ _ _) := px_open HY5.out (keep_DY _ _ _ _ _ _ _ _ _ _)
              go_wp2_with fail
              refine H6.out.mono ?_
              rintro e w6 ⟨lg6, rfl, h6⟩
              have H7 : Hid (Calls _ _ _ _ _) := px_scan (h6.weak (fun _ _ h => h.1.1)) (by omega)
              have hsl : ∀ W, (Instr.slice 31 (.slice ab kb cb) none (some (.int .i64 (ends l : Int))) none).run Try.prog W = .ok (.slice ab (ends l) cb) W := fun W => slice_head (by rw [HKB.out.1]; exact ends_le l) HKB.out.2.1 HKB.out.2.2.1 HKB.out.2.2.2 _ rfl
              clear h6 H6 HY5 HU5
              go_wp2_with fail
              refine H7.out.mono ?_
              rintro e w7 ⟨a7, k7, c7, rfl, HP7⟩
              clear H7

              have HG : Hid (∀ b ∈ recs l, Good b) := recs_good l
              have HN : Hid ((recs l).length ≤ 1048576) := by show _ ≤ _; have g1 := recs_count l; have g2 := HKB.out.1; omega
              go_wp2_with fail
              obtain ⟨T, cB, hRc, hSm, hBy, hSy⟩ := (HP7.out).tail HG.out HN.out
              go_region_held (fun W => (Below w7.heap.size w7 W ∧ (convert 31 9 (.slice ab (ends l) cb)).run Try.prog W = .ok (.string T) W)) (first | assumption | exact ⟨(Below.refl _ _).drew, cB⟩)
                (first
                  | (go_at_call 17; refine (hRc.out _ (by assumption)).mono ?_; rintro e w21 ⟨a21, k21, c21, rfl, hk21, hS21⟩)
                  | (go_at_call 16; refine (hSm.out _ _ _ _ (by assumption) hk21.out).mono ?_; rintro e w22 ⟨rfl, hS22⟩)
                  | (go_at_call 18; refine (hBy.out _ (by assumption)).mono ?_; rintro e w23 ⟨a23, k23, c23, rfl, hc23, hS23⟩)
                  | (go_at_call 19; refine (hSy.out _ (by assumption)).mono ?_; rintro e w24 ⟨rfl, rfl⟩))
              all_goals
                have HL : Hid (Px w w24 tp lg6 (laid (recs l)) (recs l) false (DB (.slice ab (ends l) cb) (laid (recs l)) (.slice a7 k7 c7) (recs l))) := (HP7.out).later (keep_DB _ _ _ _) hS23.1
                have HQ2 : Hid ((false = false → laid (recs l) = laid (recs l)) ∧ (∀ b ∈ recs l, Good b) ∧ (recs l).length ≤ (laid (recs l)).length) := ⟨fun _ => rfl, recs_good l, laid_count (recs l)⟩
                clear hS21 hS22 hS23 cB hRc hSm hBy hSy hc23 hk21
                go_wp2
                go_roundw
                case rel => exact ⟨j + 1, lg6, laid (recs l), recs l, false, ab, ends l, cb, a7, k7, c7, by omega, by omega, by go_num, rfl, rfl, rfl, rfl, HL, HQ2⟩
                case measure => simp [intOf]; omega
          · as_aux_lemma =>
              have H6 : Hid (Calls _ _ _ _ _) := append_bad (a := da) (k := dk) (cap := dc) (px_state HY5.out)
              go_wp2_with fail
              refine H6.out.mono ?_
              rintro e w6 ⟨rfl, rfl⟩
              clear H6
              go_wp2_with fail
              refine (code_state _).mono ?_
              rintro e w7 ⟨rfl, rfl⟩
              have HP7 : Hid (Px w w6 tp lg l rs true (DB (.slice ab kb cb) l (.slice ar kr cr) rs)) := HY5.out.weak (fun _ _ h => h.1.1)
              clear HY5 HU5

              have HG : Hid (∀ b ∈ rs, Good b) := HQ.out.2.1
              have HN : Hid ((rs).length ≤ 1048576) := by show _ ≤ _; have g1 := HQ.out.2.2; have g2 := HKB.out.1; omega
              go_wp2_with fail
              obtain ⟨T, cB, hRc, hSm, hBy, hSy⟩ := (HP7.out).tail HG.out HN.out
              go_region_held (fun W => (Below w6.heap.size w6 W ∧ (convert 31 9 (.slice ab kb cb)).run Try.prog W = .ok (.string T) W)) (first | assumption | exact ⟨(Below.refl _ _).drew, cB⟩)
                (first
                  | (go_at_call 17; refine (hRc.out _ (by assumption)).mono ?_; rintro e w21 ⟨a21, k21, c21, rfl, hk21, hS21⟩)
                  | (go_at_call 16; refine (hSm.out _ _ _ _ (by assumption) hk21.out).mono ?_; rintro e w22 ⟨rfl, hS22⟩)
                  | (go_at_call 18; refine (hBy.out _ (by assumption)).mono ?_; rintro e w23 ⟨a23, k23, c23, rfl, hc23, hS23⟩)
                  | (go_at_call 19; refine (hSy.out _ (by assumption)).mono ?_; rintro e w24 ⟨rfl, rfl⟩))
              all_goals
                have HL : Hid (Px w w24 tp lg (l) (rs) true (DB (.slice ab kb cb) (l) (.slice ar kr cr) (rs))) := (HP7.out).later (keep_DB _ _ _ _) hS23.1
                have HQ2 : Hid ((true = false → l = laid (rs)) ∧ (∀ b ∈ rs, Good b) ∧ (rs).length ≤ (l).length) := HQ
                clear hS21 hS22 hS23 cB hRc hSm hBy hSy hc23 hk21
                go_wp2
                go_roundw
                case rel => exact ⟨j + 1, lg, l, rs, true, ab, kb, cb, ar, kr, cr, by omega, by omega, by go_num, rfl, rfl, rfl, rfl, HL, HQ2⟩
                case measure => simp [intOf]; omega
        · as_aux_lemma =>
          go_wp2_with fail
          go_region_held3 (fun W => (Below w3.heap.size w3 W ∧ W.cell? ⟨bx, 2, none⟩ = some (.slice da dk dc))) (first | assumption)
            (first
              | (go_at_call 11; refine (HR.out _ (by assumption)).mono ?_; rintro e w4 ⟨a4, k4, c4, rfl, hS4, H5⟩)
              | (obtain ⟨a5, k5, c5, w5, hrun5, hS5, HY5, hk5⟩ := H5.out; refine step_run (by rfl) (.tmp 78) (.tmp 80) 31 (by rfl) _ _ _ (by rfl) (by rfl) hrun5 ?_))
          obtain ⟨e0, e1, e2, _⟩ := (HY5.out.weak (fun _ _ h => h.1)).cells
          have HU5 : Hid (Slc (fun k => k < w.heap.size) w5 (.slice da dk dc) dl) := HDL.out.below HY5.out.below (Nat.le_refl _)
          have HA5 : Hid (k5 ≤ c5 ∧ c5 ≤ maxLen ∧ (a5 = none → k5 = 0 ∧ c5 = 0)) := by
            obtain ⟨r, rv, _, _, h1⟩ := HY5.out
            obtain ⟨_, g2, g3, _, g5, _⟩ := slc_form h1
            exact ⟨g2, g3, g5⟩
          have HK5 : Hid (k5 ≤ 70010 ∧ k5 = (rec1 dl).length) := by
            have g1 := hk5.out
            have g2 := HDK.out
            have g3 := rec1_len dl
            have g4 := digs_len10 (n := dl.length) (by omega)
            exact ⟨by omega, g1⟩
          clear hS5 hS4 hS3 hrun5 H5 HR b0 b1 b2 HP3 hk5
          rcases HQ0.out with rfl | rfl | ⟨hq2, hq3⟩
          · as_aux_lemma =>
              have H6 : Hid (Calls _ _ _ _ _) := torn_bad (a := da) (k := dk) (cap := dc) (n := m) (px_arg HY5.out (.inl hz))
              go_wp2_with fail
              refine H6.out.mono ?_
              rintro e w6 ⟨rfl, rfl⟩
              clear H6
              go_wp2_with fail
              refine (code_arg _).mono ?_
              rintro e w7 ⟨rfl, rfl⟩
              have HP7 : Hid (Px w w6 tp lg l rs false (DB (.slice ab kb cb) l (.slice ar kr cr) rs)) := HY5.out.weak (fun _ _ h => h.1.1)
              clear HY5 HU5

              have HG : Hid (∀ b ∈ rs, Good b) := HQ.out.2.1
              have HN : Hid ((rs).length ≤ 1048576) := by show _ ≤ _; have g1 := HQ.out.2.2; have g2 := HKB.out.1; omega
              go_wp2_with fail
              obtain ⟨T, cB, hRc, hSm, hBy, hSy⟩ := (HP7.out).tail HG.out HN.out
              go_region_held (fun W => (Below w6.heap.size w6 W ∧ (convert 31 9 (.slice ab kb cb)).run Try.prog W = .ok (.string T) W)) (first | assumption | exact ⟨(Below.refl _ _).drew, cB⟩)
                (first
                  | (go_at_call 17; refine (hRc.out _ (by assumption)).mono ?_; rintro e w21 ⟨a21, k21, c21, rfl, hk21, hS21⟩)
                  | (go_at_call 16; refine (hSm.out _ _ _ _ (by assumption) hk21.out).mono ?_; rintro e w22 ⟨rfl, hS22⟩)
                  | (go_at_call 18; refine (hBy.out _ (by assumption)).mono ?_; rintro e w23 ⟨a23, k23, c23, rfl, hc23, hS23⟩)
                  | (go_at_call 19; refine (hSy.out _ (by assumption)).mono ?_; rintro e w24 ⟨rfl, rfl⟩))
              all_goals
                have HL : Hid (Px w w24 tp lg (l) (rs) false (DB (.slice ab kb cb) (l) (.slice ar kr cr) (rs))) := (HP7.out).later (keep_DB _ _ _ _) hS23.1
                have HQ2 : Hid ((false = false → l = laid (rs)) ∧ (∀ b ∈ rs, Good b) ∧ (rs).length ≤ (l).length) := ⟨fun _ => HQ.out.1 trivial, HQ.out.2⟩
                clear hS21 hS22 hS23 cB hRc hSm hBy hSy hc23 hk21
                go_wp2
                go_roundw
                case rel => exact ⟨j + 1, lg, l, rs, false, ab, kb, cb, ar, kr, cr, by omega, by omega, by go_num, rfl, rfl, rfl, rfl, HL, HQ2⟩
                case measure => simp [intOf]; omega
          · as_aux_lemma =>
              have H6 : Hid (Calls _ _ _ _ _) := px_open HY5.out (keep_DY _ _ _ _ _ _ _ _ _ _)
              go_wp2_with fail
              refine H6.out.mono ?_
              rintro e w6 ⟨lg6, rfl, h6⟩
              have H7 : Hid (Calls _ _ _ _ _) := px_scan (h6.weak (fun _ _ h => h.1.1)) (by omega)
              have hsl : ∀ W, (Instr.slice 31 (.slice ab kb cb) none (some (.int .i64 (ends l : Int))) none).run Try.prog W = .ok (.slice ab (ends l) cb) W := fun W => slice_head (by rw [HKB.out.1]; exact ends_le l) HKB.out.2.1 HKB.out.2.2.1 HKB.out.2.2.2 _ rfl
              clear h6 H6 HY5 HU5
              go_wp2_with fail
              refine H7.out.mono ?_
              rintro e w7 ⟨a7, k7, c7, rfl, HP7⟩
              clear H7

              have HG : Hid (∀ b ∈ recs l, Good b) := recs_good l
              have HN : Hid ((recs l).length ≤ 1048576) := by show _ ≤ _; have g1 := recs_count l; have g2 := HKB.out.1; omega
              go_wp2_with fail
              obtain ⟨T, cB, hRc, hSm, hBy, hSy⟩ := (HP7.out).tail HG.out HN.out
              go_region_held (fun W => (Below w7.heap.size w7 W ∧ (convert 31 9 (.slice ab (ends l) cb)).run Try.prog W = .ok (.string T) W)) (first | assumption | exact ⟨(Below.refl _ _).drew, cB⟩)
                (first
                  | (go_at_call 17; refine (hRc.out _ (by assumption)).mono ?_; rintro e w21 ⟨a21, k21, c21, rfl, hk21, hS21⟩)
                  | (go_at_call 16; refine (hSm.out _ _ _ _ (by assumption) hk21.out).mono ?_; rintro e w22 ⟨rfl, hS22⟩)
                  | (go_at_call 18; refine (hBy.out _ (by assumption)).mono ?_; rintro e w23 ⟨a23, k23, c23, rfl, hc23, hS23⟩)
                  | (go_at_call 19; refine (hSy.out _ (by assumption)).mono ?_; rintro e w24 ⟨rfl, rfl⟩))
              all_goals
                have HL : Hid (Px w w24 tp lg6 (laid (recs l)) (recs l) false (DB (.slice ab (ends l) cb) (laid (recs l)) (.slice a7 k7 c7) (recs l))) := (HP7.out).later (keep_DB _ _ _ _) hS23.1
                have HQ2 : Hid ((false = false → laid (recs l) = laid (recs l)) ∧ (∀ b ∈ recs l, Good b) ∧ (recs l).length ≤ (laid (recs l)).length) := ⟨fun _ => rfl, recs_good l, laid_count (recs l)⟩
                clear hS21 hS22 hS23 cB hRc hSm hBy hSy hc23 hk21
                go_wp2
                go_roundw
                case rel => exact ⟨j + 1, lg6, laid (recs l), recs l, false, ab, ends l, cb, a7, k7, c7, by omega, by omega, by go_num, rfl, rfl, rfl, rfl, HL, HQ2⟩
                case measure => simp [intOf]; omega
          · as_aux_lemma =>
              have H6 : Hid (Calls _ _ _ _ _) := append_bad (a := da) (k := dk) (cap := dc) (px_arg HY5.out (.inl hz))
              go_wp2_with fail
              refine H6.out.mono ?_
              rintro e w6 ⟨rfl, rfl⟩
              clear H6
              go_wp2_with fail
              refine (code_arg _).mono ?_
              rintro e w7 ⟨rfl, rfl⟩
              have HP7 : Hid (Px w w6 tp lg l rs false (DB (.slice ab kb cb) l (.slice ar kr cr) rs)) := HY5.out.weak (fun _ _ h => h.1.1)
              clear HY5 HU5

              have HG : Hid (∀ b ∈ rs, Good b) := HQ.out.2.1
              have HN : Hid ((rs).length ≤ 1048576) := by show _ ≤ _; have g1 := HQ.out.2.2; have g2 := HKB.out.1; omega
              go_wp2_with fail
              obtain ⟨T, cB, hRc, hSm, hBy, hSy⟩ := (HP7.out).tail HG.out HN.out
              go_region_held (fun W => (Below w6.heap.size w6 W ∧ (convert 31 9 (.slice ab kb cb)).run Try.prog W = .ok (.string T) W)) (first | assumption | exact ⟨(Below.refl _ _).drew, cB⟩)
                (first
                  | (go_at_call 17; refine (hRc.out _ (by assumption)).mono ?_; rintro e w21 ⟨a21, k21, c21, rfl, hk21, hS21⟩)
                  | (go_at_call 16; refine (hSm.out _ _ _ _ (by assumption) hk21.out).mono ?_; rintro e w22 ⟨rfl, hS22⟩)
                  | (go_at_call 18; refine (hBy.out _ (by assumption)).mono ?_; rintro e w23 ⟨a23, k23, c23, rfl, hc23, hS23⟩)
                  | (go_at_call 19; refine (hSy.out _ (by assumption)).mono ?_; rintro e w24 ⟨rfl, rfl⟩))
              all_goals
                have HL : Hid (Px w w24 tp lg (l) (rs) false (DB (.slice ab kb cb) (l) (.slice ar kr cr) (rs))) := (HP7.out).later (keep_DB _ _ _ _) hS23.1
                have HQ2 : Hid ((false = false → l = laid (rs)) ∧ (∀ b ∈ rs, Good b) ∧ (rs).length ≤ (l).length) := ⟨fun _ => HQ.out.1 trivial, HQ.out.2⟩
                clear hS21 hS22 hS23 cB hRc hSm hBy hSy hc23 hk21
                go_wp2
                go_roundw
                case rel => exact ⟨j + 1, lg, l, rs, false, ab, kb, cb, ar, kr, cr, by omega, by omega, by go_num, rfl, rfl, rfl, rfl, HL, HQ2⟩
                case measure => simp [intOf]; omega
        · as_aux_lemma =>
          go_wp2_with fail
          go_region_held3 (fun W => (Below w3.heap.size w3 W ∧ W.cell? ⟨bx, 2, none⟩ = some (.slice da dk dc))) (first | assumption)
            (first
              | (go_at_call 11; refine (HR.out _ (by assumption)).mono ?_; rintro e w4 ⟨a4, k4, c4, rfl, hS4, H5⟩)
              | (obtain ⟨a5, k5, c5, w5, hrun5, hS5, HY5, hk5⟩ := H5.out; refine step_run (by rfl) (.tmp 78) (.tmp 80) 31 (by rfl) _ _ _ (by rfl) (by rfl) hrun5 ?_))
          obtain ⟨e0, e1, e2, _⟩ := (HY5.out.weak (fun _ _ h => h.1)).cells
          have HU5 : Hid (Slc (fun k => k < w.heap.size) w5 (.slice da dk dc) dl) := HDL.out.below HY5.out.below (Nat.le_refl _)
          have HA5 : Hid (k5 ≤ c5 ∧ c5 ≤ maxLen ∧ (a5 = none → k5 = 0 ∧ c5 = 0)) := by
            obtain ⟨r, rv, _, _, h1⟩ := HY5.out
            obtain ⟨_, g2, g3, _, g5, _⟩ := slc_form h1
            exact ⟨g2, g3, g5⟩
          have HK5 : Hid (k5 ≤ 70010 ∧ k5 = (rec1 dl).length) := by
            have g1 := hk5.out
            have g2 := HDK.out
            have g3 := rec1_len dl
            have g4 := digs_len10 (n := dl.length) (by omega)
            exact ⟨by omega, g1⟩
          clear hS5 hS4 hS3 hrun5 H5 HR b0 b1 b2 HP3 hk5
          rcases HQ0.out with rfl | rfl | ⟨hq2, hq3⟩
          · as_aux_lemma =>
              have H6 : Hid (Calls _ _ _ _ _) := torn_bad (a := da) (k := dk) (cap := dc) (n := m) (px_arg HY5.out (.inr hz2))
              go_wp2_with fail
              refine H6.out.mono ?_
              rintro e w6 ⟨rfl, rfl⟩
              clear H6
              go_wp2_with fail
              refine (code_arg _).mono ?_
              rintro e w7 ⟨rfl, rfl⟩
              have HP7 : Hid (Px w w6 tp lg l rs false (DB (.slice ab kb cb) l (.slice ar kr cr) rs)) := HY5.out.weak (fun _ _ h => h.1.1)
              clear HY5 HU5

              have HG : Hid (∀ b ∈ rs, Good b) := HQ.out.2.1
              have HN : Hid ((rs).length ≤ 1048576) := by show _ ≤ _; have g1 := HQ.out.2.2; have g2 := HKB.out.1; omega
              go_wp2_with fail
              obtain ⟨T, cB, hRc, hSm, hBy, hSy⟩ := (HP7.out).tail HG.out HN.out
              go_region_held (fun W => (Below w6.heap.size w6 W ∧ (convert 31 9 (.slice ab kb cb)).run Try.prog W = .ok (.string T) W)) (first | assumption | exact ⟨(Below.refl _ _).drew, cB⟩)
                (first
                  | (go_at_call 17; refine (hRc.out _ (by assumption)).mono ?_; rintro e w21 ⟨a21, k21, c21, rfl, hk21, hS21⟩)
                  | (go_at_call 16; refine (hSm.out _ _ _ _ (by assumption) hk21.out).mono ?_; rintro e w22 ⟨rfl, hS22⟩)
                  | (go_at_call 18; refine (hBy.out _ (by assumption)).mono ?_; rintro e w23 ⟨a23, k23, c23, rfl, hc23, hS23⟩)
                  | (go_at_call 19; refine (hSy.out _ (by assumption)).mono ?_; rintro e w24 ⟨rfl, rfl⟩))
              all_goals
                have HL : Hid (Px w w24 tp lg (l) (rs) false (DB (.slice ab kb cb) (l) (.slice ar kr cr) (rs))) := (HP7.out).later (keep_DB _ _ _ _) hS23.1
                have HQ2 : Hid ((false = false → l = laid (rs)) ∧ (∀ b ∈ rs, Good b) ∧ (rs).length ≤ (l).length) := ⟨fun _ => HQ.out.1 trivial, HQ.out.2⟩
                clear hS21 hS22 hS23 cB hRc hSm hBy hSy hc23 hk21
                go_wp2
                go_roundw
                case rel => exact ⟨j + 1, lg, l, rs, false, ab, kb, cb, ar, kr, cr, by omega, by omega, by go_num, rfl, rfl, rfl, rfl, HL, HQ2⟩
                case measure => simp [intOf]; omega
          · as_aux_lemma =>
              have H6 : Hid (Calls _ _ _ _ _) := px_open HY5.out (keep_DY _ _ _ _ _ _ _ _ _ _)
              go_wp2_with fail
              refine H6.out.mono ?_
              rintro e w6 ⟨lg6, rfl, h6⟩
              have H7 : Hid (Calls _ _ _ _ _) := px_scan (h6.weak (fun _ _ h => h.1.1)) (by omega)
              have hsl : ∀ W, (Instr.slice 31 (.slice ab kb cb) none (some (.int .i64 (ends l : Int))) none).run Try.prog W = .ok (.slice ab (ends l) cb) W := fun W => slice_head (by rw [HKB.out.1]; exact ends_le l) HKB.out.2.1 HKB.out.2.2.1 HKB.out.2.2.2 _ rfl
              clear h6 H6 HY5 HU5
              go_wp2_with fail
              refine H7.out.mono ?_
              rintro e w7 ⟨a7, k7, c7, rfl, HP7⟩
              clear H7

              have HG : Hid (∀ b ∈ recs l, Good b) := recs_good l
              have HN : Hid ((recs l).length ≤ 1048576) := by show _ ≤ _; have g1 := recs_count l; have g2 := HKB.out.1; omega
              go_wp2_with fail
              obtain ⟨T, cB, hRc, hSm, hBy, hSy⟩ := (HP7.out).tail HG.out HN.out
              go_region_held (fun W => (Below w7.heap.size w7 W ∧ (convert 31 9 (.slice ab (ends l) cb)).run Try.prog W = .ok (.string T) W)) (first | assumption | exact ⟨(Below.refl _ _).drew, cB⟩)
                (first
                  | (go_at_call 17; refine (hRc.out _ (by assumption)).mono ?_; rintro e w21 ⟨a21, k21, c21, rfl, hk21, hS21⟩)
                  | (go_at_call 16; refine (hSm.out _ _ _ _ (by assumption) hk21.out).mono ?_; rintro e w22 ⟨rfl, hS22⟩)
                  | (go_at_call 18; refine (hBy.out _ (by assumption)).mono ?_; rintro e w23 ⟨a23, k23, c23, rfl, hc23, hS23⟩)
                  | (go_at_call 19; refine (hSy.out _ (by assumption)).mono ?_; rintro e w24 ⟨rfl, rfl⟩))
              all_goals
                have HL : Hid (Px w w24 tp lg6 (laid (recs l)) (recs l) false (DB (.slice ab (ends l) cb) (laid (recs l)) (.slice a7 k7 c7) (recs l))) := (HP7.out).later (keep_DB _ _ _ _) hS23.1
                have HQ2 : Hid ((false = false → laid (recs l) = laid (recs l)) ∧ (∀ b ∈ recs l, Good b) ∧ (recs l).length ≤ (laid (recs l)).length) := ⟨fun _ => rfl, recs_good l, laid_count (recs l)⟩
                clear hS21 hS22 hS23 cB hRc hSm hBy hSy hc23 hk21
                go_wp2
                go_roundw
                case rel => exact ⟨j + 1, lg6, laid (recs l), recs l, false, ab, ends l, cb, a7, k7, c7, by omega, by omega, by go_num, rfl, rfl, rfl, rfl, HL, HQ2⟩
                case measure => simp [intOf]; omega
          · as_aux_lemma =>
              have H6 : Hid (Calls _ _ _ _ _) := append_bad (a := da) (k := dk) (cap := dc) (px_arg HY5.out (.inr hz2))
              go_wp2_with fail
              refine H6.out.mono ?_
              rintro e w6 ⟨rfl, rfl⟩
              clear H6
              go_wp2_with fail
              refine (code_arg _).mono ?_
              rintro e w7 ⟨rfl, rfl⟩
              have HP7 : Hid (Px w w6 tp lg l rs false (DB (.slice ab kb cb) l (.slice ar kr cr) rs)) := HY5.out.weak (fun _ _ h => h.1.1)
              clear HY5 HU5

              have HG : Hid (∀ b ∈ rs, Good b) := HQ.out.2.1
              have HN : Hid ((rs).length ≤ 1048576) := by show _ ≤ _; have g1 := HQ.out.2.2; have g2 := HKB.out.1; omega
              go_wp2_with fail
              obtain ⟨T, cB, hRc, hSm, hBy, hSy⟩ := (HP7.out).tail HG.out HN.out
              go_region_held (fun W => (Below w6.heap.size w6 W ∧ (convert 31 9 (.slice ab kb cb)).run Try.prog W = .ok (.string T) W)) (first | assumption | exact ⟨(Below.refl _ _).drew, cB⟩)
                (first
                  | (go_at_call 17; refine (hRc.out _ (by assumption)).mono ?_; rintro e w21 ⟨a21, k21, c21, rfl, hk21, hS21⟩)
                  | (go_at_call 16; refine (hSm.out _ _ _ _ (by assumption) hk21.out).mono ?_; rintro e w22 ⟨rfl, hS22⟩)
                  | (go_at_call 18; refine (hBy.out _ (by assumption)).mono ?_; rintro e w23 ⟨a23, k23, c23, rfl, hc23, hS23⟩)
                  | (go_at_call 19; refine (hSy.out _ (by assumption)).mono ?_; rintro e w24 ⟨rfl, rfl⟩))
              all_goals
                have HL : Hid (Px w w24 tp lg (l) (rs) false (DB (.slice ab kb cb) (l) (.slice ar kr cr) (rs))) := (HP7.out).later (keep_DB _ _ _ _) hS23.1
                have HQ2 : Hid ((false = false → l = laid (rs)) ∧ (∀ b ∈ rs, Good b) ∧ (rs).length ≤ (l).length) := ⟨fun _ => HQ.out.1 trivial, HQ.out.2⟩
                clear hS21 hS22 hS23 cB hRc hSm hBy hSy hc23 hk21
                go_wp2
                go_roundw
                case rel => exact ⟨j + 1, lg, l, rs, false, ab, kb, cb, ar, kr, cr, by omega, by omega, by go_num, rfl, rfl, rfl, rfl, HL, HQ2⟩
                case measure => simp [intOf]; omega
        · as_aux_lemma =>
          go_wp2_with fail
          go_region_held3 (fun W => (Below w3.heap.size w3 W ∧ W.cell? ⟨bx, 2, none⟩ = some (.slice da dk dc))) (first | assumption)
            (first
              | (go_at_call 11; refine (HR.out _ (by assumption)).mono ?_; rintro e w4 ⟨a4, k4, c4, rfl, hS4, H5⟩)
              | (obtain ⟨a5, k5, c5, w5, hrun5, hS5, HY5, hk5⟩ := H5.out; refine step_run (by rfl) (.tmp 78) (.tmp 80) 31 (by rfl) _ _ _ (by rfl) (by rfl) hrun5 ?_))
          obtain ⟨e0, e1, e2, _⟩ := (HY5.out.weak (fun _ _ h => h.1)).cells
          have HU5 : Hid (Slc (fun k => k < w.heap.size) w5 (.slice da dk dc) dl) := HDL.out.below HY5.out.below (Nat.le_refl _)
          have HA5 : Hid (k5 ≤ c5 ∧ c5 ≤ maxLen ∧ (a5 = none → k5 = 0 ∧ c5 = 0)) := by
            obtain ⟨r, rv, _, _, h1⟩ := HY5.out
            obtain ⟨_, g2, g3, _, g5, _⟩ := slc_form h1
            exact ⟨g2, g3, g5⟩
          have HK5 : Hid (k5 ≤ 70010 ∧ k5 = (rec1 dl).length) := by
            have g1 := hk5.out
            have g2 := HDK.out
            have g3 := rec1_len dl
            have g4 := digs_len10 (n := dl.length) (by omega)
            exact ⟨by omega, g1⟩
          clear hS5 hS4 hS3 hrun5 H5 HR b0 b1 b2 HP3 hk5
          rcases HQ0.out with rfl | rfl | ⟨hq2, hq3⟩
          · as_aux_lemma =>
            have H6 : Hid (Calls _ _ _ _ _) := px_torn HY5.out (keep_DY _ _ _ _ _ _ _ _ _ _) HM.out HU5.out hz1 hz2 (by have g2 := HKB.out.1; omega)
            go_wp2_with fail
            refine H6.out.mono ?_
            rintro e w6 ⟨rfl, h6⟩
            have HP6 : Hid (Px w w6 tp lg (l ++ (rec1 dl).take (min m.toNat (rec1 dl).length)) rs true (DY (.slice ab kb cb) l (.slice ar kr cr) rs bx c m (.slice da dk dc) (.slice a5 k5 c5) (rec1 dl))) := h6
            clear h6 H6 HY5 e0 e1 e2
            obtain ⟨d0, d1, d2, _⟩ := (HP6.out.weak (fun _ _ h => h.1)).cells
            have hk5b : k5 ≤ 70010 := HK5.out.1
            go_wp2_with fail
            refine (code_nil _).mono ?_
            rintro e w7 ⟨rfl, rfl⟩
            rcases Int.lt_or_le m 0 with hneg | hpos
            · as_aux_lemma =>
                have hsl : ∀ W, (Instr.slice 31 (.slice a5 k5 c5) none (some (.int .i64 0)) none).run Try.prog W = .ok (.slice a5 (0) c5) W := fun W => slice_head (by omega) HA5.out.1 HA5.out.2.1 HA5.out.2.2 _ (by omega)
                obtain ⟨a7, k7, c7, w7, hrun7, a8, k8, c8, w8, hrun8, HX8⟩ := px_grow (t := 0) (HP6.out.later (keep_DY _ _ _ _ _ _ _ _ _ _) ((Below.refl _ _).drew)) (by omega) (by omega) (by have := HK5.out.1; omega)
                rw [show w6.drew.heap.size = w6.heap.size from rfl] at hrun7
                have HP8 : Hid (Px w w8 tp lg (l ++ (rec1 dl).take (min m.toNat (rec1 dl).length)) rs true (DB (.slice a8 k8 c8) (l ++ (rec1 dl).take (min m.toNat (rec1 dl).length)) (.slice ar kr cr) rs)) := by
                  have e1 : 0 = min m.toNat (rec1 dl).length := by have := HK5.out.2; omega
                  rw [← e1]
                  rw [← e1] at HX8
                  exact HX8.out.weak (fun _ _ h => h.1)
                clear HX8 HP6 HU5
                go_wp2
                go_region_law
                  (first
                    | (refine step_run (by rfl) (.tmp 129) (.tmp 130) 31 (by rfl) _ _ _ (by rfl) (by rfl) hrun7 ?_)
                    | (refine step_run (by rfl) (.tmp 131) (.tmp 134) 31 (by rfl) _ _ _ (by rfl) (by rfl) hrun8 ?_))
                all_goals
                  clear hrun7 hrun8 hsl
                  have HG : Hid (∀ b ∈ rs, Good b) := HQ.out.2.1
                  have HN : Hid ((rs).length ≤ 1048576) := by show _ ≤ _; have g1 := HQ.out.2.2; have g2 := HKB.out.1; omega
                  go_wp2_with fail
                  obtain ⟨T, cB, hRc, hSm, hBy, hSy⟩ := (HP8.out).tail HG.out HN.out
                  go_region_held (fun W => (Below w8.heap.size w8 W ∧ (convert 31 9 (.slice a8 k8 c8)).run Try.prog W = .ok (.string T) W)) (first | assumption | exact ⟨(Below.refl _ _).drew, cB⟩)
                    (first
                      | (go_at_call 17; refine (hRc.out _ (by assumption)).mono ?_; rintro e w21 ⟨a21, k21, c21, rfl, hk21, hS21⟩)
                      | (go_at_call 16; refine (hSm.out _ _ _ _ (by assumption) hk21.out).mono ?_; rintro e w22 ⟨rfl, hS22⟩)
                      | (go_at_call 18; refine (hBy.out _ (by assumption)).mono ?_; rintro e w23 ⟨a23, k23, c23, rfl, hc23, hS23⟩)
                      | (go_at_call 19; refine (hSy.out _ (by assumption)).mono ?_; rintro e w24 ⟨rfl, rfl⟩))
                  all_goals
                    have HL : Hid (Px w w24 tp lg (l ++ (rec1 dl).take (min m.toNat (rec1 dl).length)) (rs) true (DB (.slice a8 k8 c8) (l ++ (rec1 dl).take (min m.toNat (rec1 dl).length)) (.slice ar kr cr) (rs))) := (HP8.out).later (keep_DB _ _ _ _) hS23.1
                    have HQ2 : Hid ((true = false → l ++ (rec1 dl).take (min m.toNat (rec1 dl).length) = laid (rs)) ∧ (∀ b ∈ rs, Good b) ∧ (rs).length ≤ (l ++ (rec1 dl).take (min m.toNat (rec1 dl).length)).length) := ⟨fun h => (by cases h), HQ.out.2.1, by have g1 := HQ.out.2.2; rw [List.length_append]; omega⟩
                    clear hS21 hS22 hS23 cB hRc hSm hBy hSy hc23 hk21
                    go_wp2
                    go_roundw
                    case rel => exact ⟨j + 1, lg, l ++ (rec1 dl).take (min m.toNat (rec1 dl).length), rs, true, a8, k8, c8, ar, kr, cr, by omega, by omega, by go_num, rfl, rfl, rfl, rfl, HL, HQ2⟩
                    case measure => simp [intOf]; omega
            · rcases Int.lt_or_le (k5 : Int) m with hbig | hmid
              · as_aux_lemma =>
                  have hsl : ∀ W, (Instr.slice 31 (.slice a5 k5 c5) none (some (.int .i64 (k5 : Int))) none).run Try.prog W = .ok (.slice a5 (k5) c5) W := fun W => slice_head (by omega) HA5.out.1 HA5.out.2.1 HA5.out.2.2 _ (by omega)
                  obtain ⟨a7, k7, c7, w7, hrun7, a8, k8, c8, w8, hrun8, HX8⟩ := px_grow (t := k5) (HP6.out.later (keep_DY _ _ _ _ _ _ _ _ _ _) ((Below.refl _ _).drew)) (by omega) (by omega) (by have := HK5.out.1; omega)
                  rw [show w6.drew.heap.size = w6.heap.size from rfl] at hrun7
                  have HP8 : Hid (Px w w8 tp lg (l ++ (rec1 dl).take (min m.toNat (rec1 dl).length)) rs true (DB (.slice a8 k8 c8) (l ++ (rec1 dl).take (min m.toNat (rec1 dl).length)) (.slice ar kr cr) rs)) := by
                    have e1 : k5 = min m.toNat (rec1 dl).length := by have := HK5.out.2; omega
                    rw [← e1]
                    rw [← e1] at HX8
                    exact HX8.out.weak (fun _ _ h => h.1)
                  clear HX8 HP6 HU5
                  go_wp2
                  go_region_law
                    (first
                      | (refine step_run (by rfl) (.tmp 129) (.tmp 130) 31 (by rfl) _ _ _ (by rfl) (by rfl) hrun7 ?_)
                      | (refine step_run (by rfl) (.tmp 131) (.tmp 134) 31 (by rfl) _ _ _ (by rfl) (by rfl) hrun8 ?_))
                  all_goals
                    clear hrun7 hrun8 hsl
                    have HG : Hid (∀ b ∈ rs, Good b) := HQ.out.2.1
                    have HN : Hid ((rs).length ≤ 1048576) := by show _ ≤ _; have g1 := HQ.out.2.2; have g2 := HKB.out.1; omega
                    go_wp2_with fail
                    obtain ⟨T, cB, hRc, hSm, hBy, hSy⟩ := (HP8.out).tail HG.out HN.out
                    go_region_held (fun W => (Below w8.heap.size w8 W ∧ (convert 31 9 (.slice a8 k8 c8)).run Try.prog W = .ok (.string T) W)) (first | assumption | exact ⟨(Below.refl _ _).drew, cB⟩)
                      (first
                        | (go_at_call 17; refine (hRc.out _ (by assumption)).mono ?_; rintro e w21 ⟨a21, k21, c21, rfl, hk21, hS21⟩)
                        | (go_at_call 16; refine (hSm.out _ _ _ _ (by assumption) hk21.out).mono ?_; rintro e w22 ⟨rfl, hS22⟩)
                        | (go_at_call 18; refine (hBy.out _ (by assumption)).mono ?_; rintro e w23 ⟨a23, k23, c23, rfl, hc23, hS23⟩)
                        | (go_at_call 19; refine (hSy.out _ (by assumption)).mono ?_; rintro e w24 ⟨rfl, rfl⟩))
                    all_goals
                      have HL : Hid (Px w w24 tp lg (l ++ (rec1 dl).take (min m.toNat (rec1 dl).length)) (rs) true (DB (.slice a8 k8 c8) (l ++ (rec1 dl).take (min m.toNat (rec1 dl).length)) (.slice ar kr cr) (rs))) := (HP8.out).later (keep_DB _ _ _ _) hS23.1
                      have HQ2 : Hid ((true = false → l ++ (rec1 dl).take (min m.toNat (rec1 dl).length) = laid (rs)) ∧ (∀ b ∈ rs, Good b) ∧ (rs).length ≤ (l ++ (rec1 dl).take (min m.toNat (rec1 dl).length)).length) := ⟨fun h => (by cases h), HQ.out.2.1, by have g1 := HQ.out.2.2; rw [List.length_append]; omega⟩
                      clear hS21 hS22 hS23 cB hRc hSm hBy hSy hc23 hk21
                      go_wp2
                      go_roundw
                      case rel => exact ⟨j + 1, lg, l ++ (rec1 dl).take (min m.toNat (rec1 dl).length), rs, true, a8, k8, c8, ar, kr, cr, by omega, by omega, by go_num, rfl, rfl, rfl, rfl, HL, HQ2⟩
                      case measure => simp [intOf]; omega
              · as_aux_lemma =>
                  have hsl : ∀ W, (Instr.slice 31 (.slice a5 k5 c5) none (some (.int .i64 m)) none).run Try.prog W = .ok (.slice a5 (m.toNat) c5) W := fun W => slice_head (by omega) HA5.out.1 HA5.out.2.1 HA5.out.2.2 _ (by omega)
                  obtain ⟨a7, k7, c7, w7, hrun7, a8, k8, c8, w8, hrun8, HX8⟩ := px_grow (t := m.toNat) (HP6.out.later (keep_DY _ _ _ _ _ _ _ _ _ _) ((Below.refl _ _).drew)) (by omega) (by omega) (by have := HK5.out.1; omega)
                  rw [show w6.drew.heap.size = w6.heap.size from rfl] at hrun7
                  have HP8 : Hid (Px w w8 tp lg (l ++ (rec1 dl).take (min m.toNat (rec1 dl).length)) rs true (DB (.slice a8 k8 c8) (l ++ (rec1 dl).take (min m.toNat (rec1 dl).length)) (.slice ar kr cr) rs)) := by
                    have e1 : m.toNat = min m.toNat (rec1 dl).length := by have := HK5.out.2; omega
                    rw [← e1]
                    rw [← e1] at HX8
                    exact HX8.out.weak (fun _ _ h => h.1)
                  clear HX8 HP6 HU5
                  go_wp2
                  go_region_law
                    (first
                      | (refine step_run (by rfl) (.tmp 129) (.tmp 130) 31 (by rfl) _ _ _ (by rfl) (by rfl) hrun7 ?_)
                      | (refine step_run (by rfl) (.tmp 131) (.tmp 134) 31 (by rfl) _ _ _ (by rfl) (by rfl) hrun8 ?_))
                  all_goals
                    clear hrun7 hrun8 hsl
                    have HG : Hid (∀ b ∈ rs, Good b) := HQ.out.2.1
                    have HN : Hid ((rs).length ≤ 1048576) := by show _ ≤ _; have g1 := HQ.out.2.2; have g2 := HKB.out.1; omega
                    go_wp2_with fail
                    obtain ⟨T, cB, hRc, hSm, hBy, hSy⟩ := (HP8.out).tail HG.out HN.out
                    go_region_held (fun W => (Below w8.heap.size w8 W ∧ (convert 31 9 (.slice a8 k8 c8)).run Try.prog W = .ok (.string T) W)) (first | assumption | exact ⟨(Below.refl _ _).drew, cB⟩)
                      (first
                        | (go_at_call 17; refine (hRc.out _ (by assumption)).mono ?_; rintro e w21 ⟨a21, k21, c21, rfl, hk21, hS21⟩)
                        | (go_at_call 16; refine (hSm.out _ _ _ _ (by assumption) hk21.out).mono ?_; rintro e w22 ⟨rfl, hS22⟩)
                        | (go_at_call 18; refine (hBy.out _ (by assumption)).mono ?_; rintro e w23 ⟨a23, k23, c23, rfl, hc23, hS23⟩)
                        | (go_at_call 19; refine (hSy.out _ (by assumption)).mono ?_; rintro e w24 ⟨rfl, rfl⟩))
                    all_goals
                      have HL : Hid (Px w w24 tp lg (l ++ (rec1 dl).take (min m.toNat (rec1 dl).length)) (rs) true (DB (.slice a8 k8 c8) (l ++ (rec1 dl).take (min m.toNat (rec1 dl).length)) (.slice ar kr cr) (rs))) := (HP8.out).later (keep_DB _ _ _ _) hS23.1
                      have HQ2 : Hid ((true = false → l ++ (rec1 dl).take (min m.toNat (rec1 dl).length) = laid (rs)) ∧ (∀ b ∈ rs, Good b) ∧ (rs).length ≤ (l ++ (rec1 dl).take (min m.toNat (rec1 dl).length)).length) := ⟨fun h => (by cases h), HQ.out.2.1, by have g1 := HQ.out.2.2; rw [List.length_append]; omega⟩
                      clear hS21 hS22 hS23 cB hRc hSm hBy hSy hc23 hk21
                      go_wp2
                      go_roundw
                      case rel => exact ⟨j + 1, lg, l ++ (rec1 dl).take (min m.toNat (rec1 dl).length), rs, true, a8, k8, c8, ar, kr, cr, by omega, by omega, by go_num, rfl, rfl, rfl, rfl, HL, HQ2⟩
                      case measure => simp [intOf]; omega
          · as_aux_lemma =>
              have H6 : Hid (Calls _ _ _ _ _) := px_open HY5.out (keep_DY _ _ _ _ _ _ _ _ _ _)
              go_wp2_with fail
              refine H6.out.mono ?_
              rintro e w6 ⟨lg6, rfl, h6⟩
              have H7 : Hid (Calls _ _ _ _ _) := px_scan (h6.weak (fun _ _ h => h.1.1)) (by omega)
              have hsl : ∀ W, (Instr.slice 31 (.slice ab kb cb) none (some (.int .i64 (ends l : Int))) none).run Try.prog W = .ok (.slice ab (ends l) cb) W := fun W => slice_head (by rw [HKB.out.1]; exact ends_le l) HKB.out.2.1 HKB.out.2.2.1 HKB.out.2.2.2 _ rfl
              clear h6 H6 HY5 HU5
              go_wp2_with fail
              refine H7.out.mono ?_
              rintro e w7 ⟨a7, k7, c7, rfl, HP7⟩
              clear H7

              have HG : Hid (∀ b ∈ recs l, Good b) := recs_good l
              have HN : Hid ((recs l).length ≤ 1048576) := by show _ ≤ _; have g1 := recs_count l; have g2 := HKB.out.1; omega
              go_wp2_with fail
              obtain ⟨T, cB, hRc, hSm, hBy, hSy⟩ := (HP7.out).tail HG.out HN.out
              go_region_held (fun W => (Below w7.heap.size w7 W ∧ (convert 31 9 (.slice ab (ends l) cb)).run Try.prog W = .ok (.string T) W)) (first | assumption | exact ⟨(Below.refl _ _).drew, cB⟩)
                (first
                  | (go_at_call 17; refine (hRc.out _ (by assumption)).mono ?_; rintro e w21 ⟨a21, k21, c21, rfl, hk21, hS21⟩)
                  | (go_at_call 16; refine (hSm.out _ _ _ _ (by assumption) hk21.out).mono ?_; rintro e w22 ⟨rfl, hS22⟩)
                  | (go_at_call 18; refine (hBy.out _ (by assumption)).mono ?_; rintro e w23 ⟨a23, k23, c23, rfl, hc23, hS23⟩)
                  | (go_at_call 19; refine (hSy.out _ (by assumption)).mono ?_; rintro e w24 ⟨rfl, rfl⟩))
              all_goals
                have HL : Hid (Px w w24 tp lg6 (laid (recs l)) (recs l) false (DB (.slice ab (ends l) cb) (laid (recs l)) (.slice a7 k7 c7) (recs l))) := (HP7.out).later (keep_DB _ _ _ _) hS23.1
                have HQ2 : Hid ((false = false → laid (recs l) = laid (recs l)) ∧ (∀ b ∈ recs l, Good b) ∧ (recs l).length ≤ (laid (recs l)).length) := ⟨fun _ => rfl, recs_good l, laid_count (recs l)⟩
                clear hS21 hS22 hS23 cB hRc hSm hBy hSy hc23 hk21
                go_wp2
                go_roundw
                case rel => exact ⟨j + 1, lg6, laid (recs l), recs l, false, ab, ends l, cb, a7, k7, c7, by omega, by omega, by go_num, rfl, rfl, rfl, rfl, HL, HQ2⟩
                case measure => simp [intOf]; omega
          · as_aux_lemma =>
              have H6 : Hid (Calls _ _ _ _ _) := px_append HY5.out (keep_DY _ _ _ _ _ _ _ _ _ _) HU5.out hz1 hz2 (by have g2 := HKB.out.1; omega) (by have g1 := HQ.out.2.2; have g2 := HKB.out.1; omega)
              go_wp2_with fail
              refine H6.out.mono ?_
              rintro e w6 ⟨rfl, h6⟩
              have HP6 : Hid (Px w w6 tp lg (l ++ rec1 dl) (rs ++ [dl]) false (DY (.slice ab kb cb) l (.slice ar kr cr) rs bx c m (.slice da dk dc) (.slice a5 k5 c5) (rec1 dl))) := h6
              clear h6 H6 HY5 e0 e1 e2
              obtain ⟨d0, d1, d2, _⟩ := (HP6.out.weak (fun _ _ h => h.1)).cells
              go_wp2_with fail
              refine (code_nil _).mono ?_
              rintro e w7 ⟨rfl, rfl⟩
              obtain ⟨a7, k7, c7, w7, hrun7, a8, k8, c8, w8, hrun8, HX8⟩ := px_grow (t := k5) HP6.out (Nat.le_refl _) (by omega) (by have := HK5.out.1; omega)
              rw [List.take_of_length_le (by rw [HK5.out.2]; exact Nat.le_refl _)] at HX8
              go_wp2_with (at_builtin; first | refine wpList_run rfl (.tmp 93) (.tmp 94) 31 rfl _ _ _ rfl rfl hrun7 ?_ | refine wpList_run rfl (.tmp 95) (.tmp 96) 31 rfl _ _ _ rfl rfl hrun8 ?_)
              obtain ⟨_, _, f2, hlt8⟩ := HX8.out.cells
              have hu8 : Slc (fun k => k < w.heap.size) w8.drew (.slice da dk dc) dl := HDL.out.below HX8.out.below.drew (Nat.le_refl _)
              obtain ⟨HA9, HB9, HC9⟩ := px_copy (HX8.out.later (keep_DX _ _ _ _ _ _ _ _) ((Below.refl _ _).drew)) hu8 (by have g1 := HQ.out.2.2; have g2 := HKB.out.1; have g3 := HKR.out; omega)
              rw [show w8.drew.heap.size = w8.heap.size from rfl] at HA9 HB9 HC9
              have HK : Hid (∀ W, Below w8.heap.size w8 W → (Below w8.heap.size w8 W ∧ W.cell? ⟨bx, 2, none⟩ = some (.slice da dk dc))) := fun W hW => ⟨hW, by rw [hW.cell (p := ⟨bx, 2, none⟩) hlt8]; exact f2⟩
              have hS8 : (Below w8.heap.size w8 w8.drew ∧ w8.drew.cell? ⟨bx, 2, none⟩ = some (.slice da dk dc)) := HK.out _ (Below.refl _ _).drew
              clear hrun7 hrun8 hu8 HX8 HP6 HU5 d0 d1 d2
              go_region_held3 (fun W => (Below w8.heap.size w8 W ∧ W.cell? ⟨bx, 2, none⟩ = some (.slice da dk dc)))
                (first | assumption | exact HK.out _ ((Below.refl _ _).drew.alloc (Nat.le_refl _) _) | exact HK.out _ (((Below.refl _ _).drew.alloc (Nat.le_refl _) _).alloc (by simp) _) | exact HK.out _ ((Below.refl _ _).drew.trans hb10.out) | exact HK.out _ ((Below.refl _ _).drew.trans hb9.out) | exact HK.out _ (((Below.refl _ _).drew.trans hb9.out).alloc hb9.out.size _))
                (first
                  | (obtain ⟨a10, k10, c10, w10, hrun10, hb10, HP10⟩ := H10.out; refine step_runW (w0 := w9) (by with_reducible rfl) (by rfl) (.tmp 100) (.tmp 103) 32 (by rfl) _ _ _ (by rfl) (by rfl) hrun10 ?_)
                  | (obtain ⟨a10, k10, c10, w10, hrun10, hb10, HP10⟩ := H10.out; refine step_runW (w0 := w9.alloc (.cells #[.slice da dk dc] 31)) (by with_reducible rfl) (by rfl) (.tmp 100) (.tmp 103) 32 (by rfl) _ _ _ (by rfl) (by rfl) hrun10 ?_)
                  | (obtain ⟨a9, k9, c9, w9, hrun9, hb9, H10⟩ := HA9.out; refine step_runW (w0 := (w8.alloc (.cells #[] 31)).drew) (by with_reducible rfl) (by rfl) (.tmp 98) (.tmp 99) 32 (by rfl) _ _ _ (by rfl) (by rfl) hrun9 ?_)
                  | (obtain ⟨a9, k9, c9, w9, hrun9, hb9, H10⟩ := HB9.out; refine step_runW (w0 := ((w8.alloc (.cells #[] 31)).alloc (.cells #[.slice da dk dc] 31)).drew) (by with_reducible rfl) (by rfl) (.tmp 98) (.tmp 99) 32 (by rfl) _ _ _ (by rfl) (by rfl) hrun9 ?_)
                  | (obtain ⟨a9, k9, c9, w9, hrun9, hb9, H10⟩ := HC9.out; refine step_runW (w0 := ((w8.alloc (.cells #[.slice da dk dc] 31)).alloc (.cells #[] 31)).drew) (by with_reducible rfl) (by rfl) (.tmp 98) (.tmp 99) 32 (by rfl) _ _ _ (by rfl) (by rfl) hrun9 ?_))
              all_goals as_aux_lemma =>
                have HGd : Hid (Good dl) := ⟨by have := HDK.out; omega, by have := HDK.out; omega⟩
                clear HA9 HB9 HC9 hrun9 hrun10 hb9 hb10 H10 hS8 HK f2
                have HG : Hid (∀ b ∈ rs ++ [dl], Good b) := fun b hb => (by rcases List.mem_append.1 hb with hb | hb; exact HQ.out.2.1 b hb; simp only [List.mem_singleton] at hb; subst hb; exact HGd.out)
                have HN : Hid ((rs ++ [dl]).length ≤ 1048576) := by show _ ≤ _; have g1 := HQ.out.2.2; have g2 := HKB.out.1; simp; omega
                go_wp2_with fail
                obtain ⟨T, cB, hRc, hSm, hBy, hSy⟩ := (HP10.out).tail HG.out HN.out
                go_region_held (fun W => (Below w10.heap.size w10 W ∧ (convert 31 9 (.slice a8 k8 c8)).run Try.prog W = .ok (.string T) W)) (first | assumption | exact ⟨(Below.refl _ _).drew, cB⟩)
                  (first
                    | (go_at_call 17; refine (hRc.out _ (by assumption)).mono ?_; rintro e w21 ⟨a21, k21, c21, rfl, hk21, hS21⟩)
                    | (go_at_call 16; refine (hSm.out _ _ _ _ (by assumption) hk21.out).mono ?_; rintro e w22 ⟨rfl, hS22⟩)
                    | (go_at_call 18; refine (hBy.out _ (by assumption)).mono ?_; rintro e w23 ⟨a23, k23, c23, rfl, hc23, hS23⟩)
                    | (go_at_call 19; refine (hSy.out _ (by assumption)).mono ?_; rintro e w24 ⟨rfl, rfl⟩))
                all_goals
                  have HL : Hid (Px w w24 tp lg (l ++ rec1 dl) (rs ++ [dl]) false (DB (.slice a8 k8 c8) (l ++ rec1 dl) (.slice a10 k10 c10) (rs ++ [dl]))) := (HP10.out).later (keep_DB _ _ _ _) hS23.1
                  have HQ2 : Hid ((false = false → l ++ rec1 dl = laid (rs ++ [dl])) ∧ (∀ b ∈ rs ++ [dl], Good b) ∧ (rs ++ [dl]).length ≤ (l ++ rec1 dl).length) := ⟨fun _ => by rw [HQ.out.1 trivial, laid_snoc], HG.out, by have g1 := HQ.out.2.2; have g3 := rec1_len dl; have g4 := digs_pos dl.length; simp only [List.length_append, List.length_singleton]; omega⟩
                  clear hS21 hS22 hS23 cB hRc hSm hBy hSy hc23 hk21
                  go_wp2
                  go_roundw
                  case rel => exact ⟨j + 1, lg, l ++ rec1 dl, rs ++ [dl], false, a8, k8, c8, a10, k10, c10, by omega, by omega, by go_num, rfl, rfl, rfl, rfl, HL, HQ2⟩
                  case measure => simp [intOf]; omega
      · have hfar : 70000 < dk ∨ (dk ≤ 70000 ∧ 300000 < kb) := by omega
        clear hdk
        rcases hfar with hf | ⟨hf1, hf2⟩
        all_goals
          go_wp2
          go_ret
          exact ⟨rfl, HE.out.trans ((Below.refl _ _).alloc HE.out.size _)⟩
    · by_cases hjn : j < n
      · have hj60 : 60 ≤ j := by omega
        clear hlt
        go_wp2
        go_ret
        exact ⟨rfl, HE.out⟩
      · clear hlt
        go_wp2
        go_ret
        exact ⟨rfl, HE.out⟩

theorem logPlays_walk (a : Option Addr) (n cap : Nat) (w : World) (h : DeedsIn w a n ∧ n ≤ maxLen) :
    Calls Try.prog 3 #[.slice a n cap] w fun e w' => e = .returned (.bool true) ∧ Below w.heap.size w w' := logPlays_core a n cap w h.1
end Go.Proofs.Ytfcnbdnmnmihjaa
