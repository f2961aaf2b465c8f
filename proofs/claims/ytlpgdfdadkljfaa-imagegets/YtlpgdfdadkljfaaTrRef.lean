/-
  The document's answer for trees: its 'whole' and its 'Check'.
-/
import Derived.Test.YtlpgdfdadkljfaaMgE
import Derived.Test.YtlpgdfdadkljfaaRtRefUnder
import Derived.Deep.RegionHeld
import Derived.BigQuiet
namespace Go.Proofs.Ytlpgdfdadkljfaa.Tree
open Go.RowKit Route

/-- A place, as a number. -/
def placeI : Option Nat → Int
  | none => -1
  | some i => (i : Int)

set_option maxHeartbeats 4000000 in
set_option maxRecDepth 100000 in
theorem whole_any (p : ByteArray) (sz : Int) (ka : Option Addr) (kn kc : Nat) (ks : List ByteArray) (w : World) (hn0 : kn = ks.length) (hl0 : Lies w ka ks) (hnm : kn ≤ 1000000) (hks : ∀ j, j < kn → (ks.getD j ByteArray.empty).size ≤ 1000000) :
    Calls Try.prog 37 #[.agg #[.string p, .int .i64 sz, .slice ka kn kc]] w fun e w' => e = .returned (.bool (restB sz 0 ks)) ∧ Below w.heap.size w w' := by
  have HN : Hid (kn = ks.length) := hn0
  have HL : Hid (Lies (w.alloc (.cells #[.string p, .int .i64 sz, .slice ka kn kc] 57)) ka ks) := hl0.below ((Below.refl _ _).alloc (Nat.le_refl _) _) (Nat.le_refl _)
  have HS : Hid (∀ j, j < kn → (ks.getD j ByteArray.empty).size ≤ 1000000) := hks
  have HB : Hid (Below w.heap.size w (w.alloc (.cells #[.string p, .int .i64 sz, .slice ka kn kc] 57))) := (Below.refl _ _).alloc (Nat.le_refl _) _
  obtain ⟨r, hr⟩ : ∃ r, r = restB sz 0 ks := ⟨_, rfl⟩
  have HR : Hid (r = restB sz 0 (ks.drop 0)) := by rw [List.drop_zero]; exact hr
  rw [← hr]
  clear hn0 hl0 hks hr
  go_enter Try.func37, Try.ntmps37
  go_wp2
  go_loop [2, 3, 4] (fun t2 t3 t4 => ∃ (i s : Nat), t2 = .bool false ∧ t3 = .int .i64 (s : Int) ∧ t4 = .int .i64 (i : Int) ∧ i ≤ kn ∧ s ≤ 64 * i ∧ Hid (r = restB sz s (ks.drop i))) (fun _ _ t4 => kn - (intOf t4).toNat)
  case atStart => exact ⟨0, 0, rfl, rfl, rfl, Nat.zero_le _, by omega, HR⟩
  case round =>
    obtain ⟨i, s, rfl, rfl, rfl, hi, hs, HI⟩ := hrel
    clear HR
    by_cases hin : i < kn
    · obtain ⟨x, hx, hc⟩ := HL.out.cellAt (j := i) (by rw [← HN.out]; exact hin)
      subst hx
      have HD := drop_text (l := ks) (i := i) (by rw [← HN.out]; exact hin)
      have hz1 := HS.out i hin
      generalize ks.getD i ByteArray.empty = k at hc HD hz1
      obtain ⟨z, hz⟩ : ∃ z, z = k.size := ⟨_, rfl⟩
      have hlen := Tree.len_text k z hz
      have HI2 : Hid (r = (decide (1 ≤ z ∧ z ≤ 64) && restB sz (s + z) (ks.drop (i + 1)))) := by show _ = _; rw [HI.out, HD, restB, hz]
      rw [← hz] at hz1
      clear HD HI hz
      by_cases h1 : z < 1
      · have hr : r = false := by rw [HI2.out, decide_eq_false (by omega), Bool.false_and]
        go_wp2
        go_ret
        exact ⟨by first | rfl | (rw [hr]; rfl), HB.out⟩
      by_cases h2 : 64 < z
      · have hr : r = false := by rw [HI2.out, decide_eq_false (by omega), Bool.false_and]
        go_wp2
        go_ret
        exact ⟨by first | rfl | (rw [hr]; rfl), HB.out⟩
      have HI3 : Hid (r = restB sz (s + z) (ks.drop (i + 1))) := by show _ = _; rw [HI2.out, decide_eq_true (by omega), Bool.true_and]
      clear HI2
      go_wp2
      go_round
      case rel => exact ⟨i + 1, s + z, rfl, by go_num, by go_num, by omega, by omega, HI3⟩
      case measure => simp [intOf]; omega
    · have HRR : Hid (r = decide ((s : Int) = sz ∧ s ≤ 1024)) := by
        show _ = _
        rw [HI.out, List.drop_eq_nil_of_le (by rw [← HN.out]; omega), restB]
      clear HI
      by_cases he : (s : Int) = sz
      · have HE : Hid ((s : Int) = sz) := he
        have hd : ((s : Int) == sz) = true := by simp [he]
        clear he
        have hr : r = decide ((s : Int) ≤ 1024) := by rw [HRR.out]; exact decide_eq_decide.2 ⟨fun h => by omega, fun h => ⟨HE.out, by omega⟩⟩
        go_wp2
        go_ret
        exact ⟨by first | rfl | (rw [hr]; rfl), HB.out⟩
      · have hd : ((s : Int) == sz) = false := by simp [he]
        have hr : r = false := by rw [HRR.out, decide_eq_false (fun h => he h.1)]
        clear he
        go_wp2
        go_ret
        exact ⟨by first | rfl | (rw [hr]; rfl), HB.out⟩

/-- What is amiss with an entry, in the answer's own order. -/
theorem codeOf_eq {l : List (ByteArray × Int × List ByteArray)} {i : Nat} (hi : i < l.length) :
    codeOf (l.take i) (entOf l i) = if isPath (entOf l i).1 = false then 2 else if ((decide (0 < i) && !lt (entOf l (i - 1)).1 (entOf l i).1) || (l.take i).any fun x => isUnder x.1 (entOf l i).1) = true then 4 else if restB (entOf l i).2.1 0 (entOf l i).2.2 = false then 1 else 0 := by
  unfold codeOf
  have h : (∃ x, (l.take i).getLast? = some x ∧ lt x.1 (entOf l i).1 = false) ↔ (decide (0 < i) && !lt (entOf l (i - 1)).1 (entOf l i).1) = true := by
    rcases Nat.eq_zero_or_pos i with rfl | h0
    · simp
    · obtain ⟨k, rfl⟩ : ∃ k, i = k + 1 := ⟨i - 1, by omega⟩
      rw [take_succ_ent (by omega)]
      simp
  simp only [h, Bool.or_eq_true]

set_option maxHeartbeats 4000000 in
set_option maxRecDepth 100000 in
theorem refCheck_large (a : Option Addr) (n cap : Nat) (w : World) (h : 32 < n) (hn : n ≤ 1000000) :
    Calls Try.prog 22 #[.slice a n cap] w fun e w' => e = .returned (.tuple #[.int .i64 7, .int .i64 (-1)]) ∧ w' = w := by
  go_enter Try.func22, Try.ntmps22
  go_wp2
  go_ret2
  exact ⟨rfl, rfl⟩

set_option maxHeartbeats 4000000 in
set_option maxRecDepth 100000 in
theorem refCheck_core (a : Option Addr) (n cap : Nat) (l : List (ByteArray × Int × List ByteArray)) (c : Nat) (pl : Option Nat) (w : World) (hl : EntsOk n l) (hl0 : LiesE w a l) (hn : n ≤ 32)
    (h0 : (∀ j, j < n → codeOf (l.take j) (entOf l j) = 0) → c = 0 ∧ pl = none)
    (h1 : ∀ j, j < n → (∀ k, k < j → codeOf (l.take k) (entOf l k) = 0) → codeOf (l.take j) (entOf l j) ≠ 0 → c = codeOf (l.take j) (entOf l j) ∧ pl = some j) :
    Calls Try.prog 22 #[.slice a n cap] w fun e w' => e = .returned (.tuple #[.int .i64 (c : Int), .int .i64 (placeI pl)]) ∧ Below w.heap.size w w' := by
  have HN : Hid (n = l.length) := hl.1
  have HL : Hid (LiesE w a l) := hl0
  have HSH : Hid (∀ j, j < n → shortE (entOf l j)) := hl.2.2
  have H0 : Hid ((∀ j, j < n → codeOf (l.take j) (entOf l j) = 0) → (.tuple #[.int .i64 (c : Int), .int .i64 (placeI pl)] : Value) = .tuple #[.int .i64 0, .int .i64 (-1)]) := fun h => by obtain ⟨rfl, rfl⟩ := h0 h; rfl
  have H1 : Hid (∀ j, j < n → (∀ k, k < j → codeOf (l.take k) (entOf l k) = 0) → ∀ d : Nat, codeOf (l.take j) (entOf l j) = d → d ≠ 0 → (.tuple #[.int .i64 (c : Int), .int .i64 (placeI pl)] : Value) = .tuple #[.int .i64 (d : Int), .int .i64 (j : Int)]) := by
    intro j hj h d hd hne
    obtain ⟨rfl, rfl⟩ := h1 j hj h (by omega)
    rw [hd]; rfl
  obtain ⟨R, hR⟩ : ∃ R : Value, R = .tuple #[.int .i64 (c : Int), .int .i64 (placeI pl)] := ⟨_, rfl⟩
  rw [← hR] at H0 H1 ⊢
  clear hl hl0 h0 h1 hR
  go_enter Try.func22, Try.ntmps22
  go_wp2
  go_loopw [2, 3, 4, 5, 6, 7, 8] (fun t2 t3 t4 _ _ _ _ wr => ∃ i : Nat, t2 = .int .i64 0 ∧ t3 = .int .i64 0 ∧ t4 = .int .i64 (i : Int) ∧ i ≤ n ∧ Below w.heap.size w wr ∧ Hid (∀ k, k < i → codeOf (l.take k) (entOf l k) = 0)) (fun _ _ t4 _ _ _ _ _ => n - (intOf t4).toNat)
  case atStart => exact ⟨0, rfl, rfl, rfl, Nat.zero_le _, Below.refl _ _, fun k hk => by omega⟩
  case round =>
    obtain ⟨i, rfl, rfl, rfl, hi, hbr, HI⟩ := hrel
    by_cases hin : i < n
    · have HLR : Hid (LiesE wr a l) := HL.out.below hbr (Nat.le_refl _)
      obtain ⟨x, hx, g0, g1, ka, kc, g2, hk⟩ := HLR.out.at (j := i) (by rw [← HN.out]; exact hin)
      subst hx
      have hcode := codeOf_eq (l := l) (i := i) (by rw [← HN.out]; exact hin)
      have hsh := HSH.out i hin
      have HPV : Hid (∀ k, k < n → (entOf l k).1.size ≤ 5000) := fun k hk => (HSH.out k hk).1
      obtain ⟨PV, hPV⟩ : ∃ PV : ByteArray, PV = (entOf l (i - 1)).1 := ⟨_, rfl⟩
      rw [← hPV] at hcode
      have HPV2 : Hid (PV = (entOf l (i - 1)).1) := hPV
      have hR1 := H1.out i hin HI.out
      have HIN : Hid (codeOf (l.take i) (entOf l i) = 0 → ∀ k, k < i + 1 → codeOf (l.take k) (entOf l k) = 0) := fun h k hk => by
        by_cases e : k = i
        · subst e; exact h
        · exact HI.out k (by omega)
      generalize codeOf (l.take i) (entOf l i) = cd at hcode hR1 HIN
      generalize entOf l i = en at g0 g1 g2 hk hcode hsh
      obtain ⟨p, sz, ks⟩ := en
      have hix := index_ent x n cap i hin
      simp only at g0 g1 g2 hk hcode
      have hps : p.size ≤ 5000 := hsh.1
      have HPA : Hid (∀ W, Calls Try.prog 35 #[.string p] W fun e w' => e = .returned (.bool (isPath p)) ∧ Below W.heap.size W w') := fun W => path_any p W (by omega)
      have HUN : Hid (∀ k, k < n → ∀ W, Calls Try.prog 36 #[.string (entOf l k).1, .string p] W fun e w' => e = .returned (.bool (isUnder (entOf l k).1 p)) ∧ Below W.heap.size W w') := fun k hk W => refUnder_any _ p W (by have := HPV.out k hk; omega) (by omega)
      obtain ⟨kn, hkn⟩ : ∃ kn, kn = ks.length := ⟨_, rfl⟩
      rw [← hkn] at g2
      have HWH : Hid (∀ W, Below wr.heap.size wr W → Calls Try.prog 37 #[.agg #[.string p, .int .i64 sz, .slice ka kn kc]] W fun e w' => e = .returned (.bool (restB sz 0 ks)) ∧ Below W.heap.size W w') := fun W hb => whole_any p sz ka kn kc ks W hkn (hk.1.below hb (Nat.le_refl _)) (by have := hsh.2.1; simp only at this; omega) (fun j hj => by have := hsh.2.2 j (by simp only; omega); simp only at this; omega)
      generalize restB sz 0 ks = r at hcode HWH
      have HQ0 : Hid (∀ W, Below wr.heap.size wr W → W.cell? (x.add (i * 3)) = some (.string p) ∧ W.cell? ⟨(x.add (i * 3)).block, (x.add (i * 3)).off + 1, none⟩ = some (.int .i64 sz) ∧ W.cell? ⟨(x.add (i * 3)).block, (x.add (i * 3)).off + 2, none⟩ = some (.slice ka kn kc)) := fun W hb => ⟨cell_kept hb g0, cell_kept hb g1, cell_kept hb g2⟩
      have HCD : Hid (cd = if isPath p = false then 2 else if ((decide (0 < i) && !lt PV p) || (l.take i).any fun x => isUnder x.1 p) = true then 4 else if r = false then 1 else 0) := hcode
      have HR1 : Hid (∀ d : Nat, cd = d → d ≠ 0 → R = .tuple #[.int .i64 (d : Int), .int .i64 (i : Int)]) := hR1
      have HBR : Hid (Below w.heap.size w wr) := hbr
      clear hk hsh hkn hcode hR1 hPV hbr g1 g2
      generalize hq : x.add (i * 3) = q at g0 hix HQ0
      cases hP : isPath p with
      | false =>
        rw [hP] at HPA HCD
        have HE : Hid (R = .tuple #[.int .i64 2, .int .i64 (i : Int)]) := HR1.out 2 HCD.out (by omega)
        clear hP HCD hq
        go_wp2_with fail
        refine (HPA.out _).mono ?_
        rintro e w1 ⟨rfl, hb1⟩
        go_wp2
        go_ret2
        exact ⟨by rw [HE.out]; rfl, HBR.out.trans (hb1.mono HBR.out.size)⟩
      | true =>
        rw [hP] at HPA HCD
        clear hP
        go_wp2_with fail
        refine (HPA.out _).mono ?_
        rintro e w1 ⟨rfl, hb1⟩
        have HB1 : Hid (Below wr.heap.size wr w1) := hb1
        have HB01 : Hid (Below w.heap.size w w1) := HBR.out.trans (hb1.mono HBR.out.size)
        have HL1 : Hid (LiesE w1 (some x) l) := HLR.out.below hb1 (Nat.le_refl _)
        have d0 := (HQ0.out w1 hb1).1
        have hCD : cd = if ((decide (0 < i) && !lt PV p) || (l.take i).any fun x => isUnder x.1 p) = true then 4 else if r = false then 1 else 0 := HCD.out
        have HCD2 : Hid (cd = if ((decide (0 < i) && !lt PV p) || (l.take i).any fun x => isUnder x.1 p) = true then 4 else if r = false then 1 else 0) := hCD
        clear hb1 g0 HLR HCD hCD
        by_cases hi0 : 0 < i
        case' pos =>
          obtain ⟨x6, hx6, z0, _⟩ := HL1.out.at (j := i - 1) (by rw [← HN.out]; omega)
          simp only [Option.some.injEq] at hx6
          subst hx6
          rw [← HPV2.out] at z0
          have hix6 := index_at_ent x n cap (i - 1) ((i : Int) - 1) (by omega) (by omega)
          generalize x.add ((i - 1) * 3) = q6 at z0 hix6
          obtain ⟨b0, hb0⟩ : ∃ b0, b0 = !lt PV p := ⟨_, rfl⟩
          have HGE : Hid ((!Op.bytesLess PV.toList p.toList) = b0) := hb0.symm
          have HB0 : Hid (b0 = (decide (0 < i) && !lt PV p)) := by show _ = _; rw [decide_eq_true hi0, Bool.true_and]; exact hb0
          have hdi : decide (0 < i) = true := decide_eq_true hi0
          clear hb0
          go_wp2_with fail
          go_quiet (fail)
          rw [HGE.out]
        case' neg =>
          have HB0 : Hid (false = (decide (0 < i) && !lt PV p)) := by show _ = _; rw [decide_eq_false hi0, Bool.false_and]
          have hdi : decide (0 < i) = false := decide_eq_false hi0
          go_wp2_with fail
          go_quiet (fail)
        all_goals
          go_wp2
          go_loopw [6, 7] (fun t6 t7 wz => ∃ (k : Nat) (b : Bool), t6 = .bool b ∧ t7 = .int .i64 (k : Int) ∧ k ≤ i ∧ Below w1.heap.size w1 wz ∧ Hid (b = ((decide (0 < i) && !lt PV p) || (l.take k).any fun x => isUnder x.1 p))) (fun _ t7 _ => i - (intOf t7).toNat)
          case atStart => exact ⟨0, _, rfl, rfl, Nat.zero_le _, below_drewN (Below.refl _ _) _, by show _ = _; rw [List.take_zero, List.any_nil, Bool.or_false]; exact HB0.out⟩
          case round =>
            obtain ⟨k, b, rfl, rfl, hki, hbz, HK⟩ := hrel
            have HBZ : Hid (Below w1.heap.size w1 wr) := hbz
            have HB0Z : Hid (Below w.heap.size w wr) := HB01.out.trans (hbz.mono HB01.out.size)
            obtain ⟨f0, f1, f2⟩ := HQ0.out wr (HB1.out.trans (hbz.mono HB1.out.size))
            by_cases hk : k < i
            · obtain ⟨x7, hx7, e0, _⟩ := (HL1.out.below hbz (Nat.le_refl _)).at (j := k) (by rw [← HN.out]; omega)
              simp only [Option.some.injEq] at hx7
              subst hx7
              have hix7 := index_ent x n cap k (by omega)
              have hun := HUN.out k (by omega)
              have HK2 : Hid (((decide (0 < i) && !lt PV p) || (l.take (k + 1)).any fun x => isUnder x.1 p) = (b || isUnder (entOf l k).1 p)) := by
                show _ = _
                rw [take_succ_ent (by rw [← HN.out]; omega), List.any_append, ← Bool.or_assoc, ← HK.out]
                simp
              generalize (entOf l k).1 = pk at e0 hun HK2
              generalize x.add (k * 3) = q7 at e0 hix7
              generalize isUnder pk p = u at hun HK2
              cases b with
              | true =>
                have HK3 : Hid (true = ((decide (0 < i) && !lt PV p) || (l.take (k + 1)).any fun x => isUnder x.1 p)) := by show _ = _; rw [HK2.out]; rfl
                clear hun HK HK2 hbz
                go_wp2_with fail
                go_quiet (fail)
                go_wp2
                go_roundw
                case rel => exact ⟨k + 1, true, rfl, by go_num, by omega, below_drewN HBZ.out _, HK3⟩
                case measure => simp [intOf]; omega
              | false =>
                have HK3 : Hid (u = ((decide (0 < i) && !lt PV p) || (l.take (k + 1)).any fun x => isUnder x.1 p)) := by show _ = _; rw [HK2.out]; rfl
                have HR : Hid (∀ W, (Below wr.heap.size wr W ∧ W.cell? q = some (.string p) ∧ W.cell? q7 = some (.string pk)) → Calls Try.prog 36 #[.string pk, .string p] W fun e w' => e = .returned (.bool u) ∧ (Below wr.heap.size wr w' ∧ w'.cell? q = some (.string p) ∧ w'.cell? q7 = some (.string pk))) := by
                  rintro W ⟨b0, c0, c1⟩
                  refine (hun W).mono ?_
                  rintro e w' ⟨rfl, hb⟩
                  exact ⟨rfl, b0.trans (hb.mono b0.size), cell_kept hb c0, cell_kept hb c1⟩
                clear hun HK HK2 hbz
                go_wp2_with fail
                go_region_held (fun W => (Below wr.heap.size wr W ∧ W.cell? q = some (.string p) ∧ W.cell? q7 = some (.string pk)))
                  (first | assumption | exact ⟨(Below.refl _ _).drew, by simpa using f0, by simpa using e0⟩)
                  (first | (go_at_call 36; refine (HR.out _ (by assumption)).mono ?_; rintro e w2 ⟨rfl, hb2⟩))
                all_goals
                  have HB2 : Hid (Below w1.heap.size w1 w2) := HBZ.out.trans (hb2.1.mono HBZ.out.size)
                  clear hb2 HR
                  go_wp2
                  go_roundw
                  case rel => exact ⟨k + 1, u, rfl, by go_num, by omega, HB2.out, HK3⟩
                  case measure => simp [intOf]; omega
            · have HK4 : Hid (b = ((decide (0 < i) && !lt PV p) || (l.take i).any fun x => isUnder x.1 p)) := by
                have hki' : k = i := by omega
                show _ = _
                rw [HK.out, hki']
              have HC3 : Hid (cd = if b = true then 4 else if r = false then 1 else 0) := by show _ = _; rw [HK4.out]; exact HCD2.out
              have HWZ : Hid (Calls Try.prog 37 #[.agg #[.string p, .int .i64 sz, .slice ka kn kc]] wr fun e w' => e = .returned (.bool r) ∧ Below wr.heap.size wr w') := HWH.out wr (HB1.out.trans (hbz.mono HB1.out.size))
              clear HK HK4 HCD2 hbz
              cases b with
              | true =>
                have HE : Hid (R = .tuple #[.int .i64 4, .int .i64 (i : Int)]) := HR1.out 4 (by rw [HC3.out]; rfl) (by omega)
                go_wp2
                go_ret2
                exact ⟨by rw [HE.out]; rfl, HB0Z.out⟩
              | false =>
                go_wp2_with fail
                refine HWZ.out.mono ?_
                rintro e w3 ⟨rfl, hb3⟩
                have HB3 : Hid (Below w.heap.size w w3) := HB0Z.out.trans (hb3.mono HB0Z.out.size)
                clear hb3
                cases r with
                | false =>
                  have HE : Hid (R = .tuple #[.int .i64 1, .int .i64 (i : Int)]) := HR1.out 1 (by rw [HC3.out]; rfl) (by omega)
                  go_wp2
                  go_ret2
                  exact ⟨by rw [HE.out]; rfl, HB3.out⟩
                | true =>
                  have HI1 : Hid (∀ k, k < i + 1 → codeOf (l.take k) (entOf l k) = 0) := HIN.out (by rw [HC3.out]; rfl)
                  go_wp2
                  go_roundw
                  case rel => exact ⟨i + 1, rfl, rfl, by go_num, by omega, HB3.out, HI1⟩
                  case measure => simp [intOf]; omega
    · have HE : Hid (R = .tuple #[.int .i64 0, .int .i64 (-1)]) := H0.out fun j hj => HI.out j (by omega)
      go_wp2
      go_ret2
      exact ⟨by rw [HE.out]; rfl, hbr⟩
theorem checkAns_all {l : List (ByteArray × Int × List ByteArray)} (hn : l.length ≤ 32) (h : ∀ j, j < l.length → codeOf (l.take j) (entOf l j) = 0) : checkAns l = (0, none) := by
  rw [checkAns, if_neg (by omega), firstBad_all _ _ fun j _ hj => h j (by omega)]

theorem checkAns_at {l : List (ByteArray × Int × List ByteArray)} {j : Nat} (hn : l.length ≤ 32) (hj : j < l.length) (h0 : ∀ k, k < j → codeOf (l.take k) (entOf l k) = 0) (h1 : codeOf (l.take j) (entOf l j) ≠ 0) : checkAns l = (codeOf (l.take j) (entOf l j), some j) := by
  rw [checkAns, if_neg (by omega)]
  cases e : firstBad l 0 l.length with
  | none => exact absurd (firstBad_none _ _ e j (Nat.zero_le _) (by omega)) h1
  | some x =>
    obtain ⟨c, i⟩ := x
    obtain ⟨_, h2, h3, h4⟩ := firstBad_some _ _ e
    have hij : i = j := by
      rcases Nat.lt_trichotomy i j with h | h | h
      · exact absurd (h4 ▸ h0 i h) h3
      · exact h
      · exact absurd (firstBad_first _ _ e j (Nat.zero_le _) h) h1
    subst hij
    rw [h4]

/-- What the answer's 'Check' tells, of any entries that are few and short. -/
theorem refCheck_ans (a : Option Addr) (n cap : Nat) (l : List (ByteArray × Int × List ByteArray)) (w : World) (hl : EntsOk n l) (hl0 : LiesE w a l) :
    Calls Try.prog 22 #[.slice a n cap] w fun e w' => e = .returned (.tuple #[.int .i64 ((checkAns l).1 : Int), .int .i64 (placeI (checkAns l).2)]) ∧ Below w.heap.size w w' := by
  have hn := hl.1
  by_cases h : 32 < n
  · refine (refCheck_large a n cap w h (by have := hl.2.1; omega)).mono ?_
    rintro e w' ⟨rfl, rfl⟩
    rw [checkAns, if_pos (by omega)]
    exact ⟨rfl, Below.refl _ _⟩
  · refine refCheck_core a n cap l _ _ w hl hl0 (by omega) ?_ ?_
    · intro h0
      rw [checkAns_all (by omega) fun j hj => h0 j (by omega)]
      exact ⟨rfl, rfl⟩
    · intro j hj h0 h1
      rw [checkAns_at (by omega) (by omega) h0 h1]
      exact ⟨rfl, rfl⟩

/-- Check, of however many entries. -/
theorem refCheck_wide (a : Option Addr) (n cap : Nat) (l : List (ByteArray × Int × List ByteArray)) (w : World) (hn : n = l.length) (hm : n ≤ 1000000) (hs : ∀ j, j < n → shortE (entOf l j)) (hl0 : LiesE w a l) :
    Calls Try.prog 22 #[.slice a n cap] w fun e w' => e = .returned (.tuple #[.int .i64 ((checkAns l).1 : Int), .int .i64 (placeI (checkAns l).2)]) ∧ Below w.heap.size w w' := by
  by_cases h : 32 < n
  · refine (refCheck_large a n cap w h hm).mono ?_
    rintro e w' ⟨rfl, rfl⟩
    rw [checkAns, if_pos (by omega)]
    exact ⟨rfl, Below.refl _ _⟩
  · exact refCheck_ans a n cap l w ⟨hn, by omega, hs⟩ hl0

end Go.Proofs.Ytlpgdfdadkljfaa.Tree
