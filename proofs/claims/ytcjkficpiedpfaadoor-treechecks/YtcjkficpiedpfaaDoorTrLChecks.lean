/-
  TreeChecks, walked: whatever entries and text, the call returns true, and makes memory of its own alone.
-/
import Derived.Test.YtcjkficpiedpfaaDoorTrChecksNot
namespace Go.Proofs.YtcjkficpiedpfaaDoor.Tree
open Go.RowKit Route Chunk

theorem tree_path {l : List (ByteArray × Int × List ByteArray)} (ht : isTree l) {j : Nat} (hj : j < l.length) : isPath (entOf l j).1 = true := by
  have h := ht.2 j hj
  rw [codeOf_eq hj] at h
  cases e : isPath (entOf l j).1 with
  | true => rfl
  | false => rw [e, if_pos rfl] at h; cases h

theorem tree_step {l : List (ByteArray × Int × List ByteArray)} (ht : isTree l) {j : Nat} (hj : j + 1 < l.length) : lt (entOf l j).1 (entOf l (j + 1)).1 = true := by
  have h := ht.2 (j + 1) hj
  rw [codeOf_eq hj, tree_path ht hj, if_neg (by simp)] at h
  rw [decide_eq_true (Nat.succ_pos j), Bool.true_and, Nat.add_sub_cancel] at h
  cases e : lt (entOf l j).1 (entOf l (j + 1)).1 with
  | true => rfl
  | false => rw [e] at h; simp at h

theorem tree_lt {l : List (ByteArray × Int × List ByteArray)} (ht : isTree l) (i : Nat) : ∀ k, i + k + 1 < l.length → lt (entOf l i).1 (entOf l (i + k + 1)).1 = true
  | 0, h => tree_step ht h
  | k + 1, h => lt_trans (tree_lt ht i k (by omega)) (tree_step ht (j := i + k + 1) h)

theorem tree_one {l : List (ByteArray × Int × List ByteArray)} (ht : isTree l) {i j : Nat} (hi : i < l.length) (hj : j < l.length) (h : (entOf l i).1 = (entOf l j).1) : i = j := by
  rcases Nat.lt_trichotomy i j with h1 | h1 | h1
  · have := tree_lt ht i (j - i - 1) (by omega)
    rw [show i + (j - i - 1) + 1 = j by omega] at this
    exact absurd h (lt_ne this)
  · exact h1
  · have := tree_lt ht j (i - j - 1) (by omega)
    rw [show j + (i - j - 1) + 1 = i by omega] at this
    exact absurd h.symm (lt_ne this)

theorem slice_head (p : ByteArray) (k : Nat) (h : k + 1 ≤ p.size) (w : World) : (Instr.slice 9 (.string p) none (some (.int .i64 ((k : Int) + 1))) none).run Tryd.prog w = .ok (.string (p.extract 0 (k + 1))) w := by
  have := run_slice_string_h (P := Tryd.prog) (t := 9) (w := w) (s := p) Tryd.underlying9 .i64 ((k : Int) + 1) (by omega) (by omega)
  rw [this, show ((k : Int) + 1).toNat = k + 1 by omega]

theorem belowL_next {path : ByteArray} {l : List (ByteArray × Int × List ByteArray)} {i : Nat} (hi : i < l.length) : belowL path (l.take (i + 1)) = belowL path (l.take i) ++ (if (decide (path = ⟨#[]⟩) || isUnder path (entOf l i).1) = true then [(entOf l i).1] else []) := by
  rw [take_succ_ent hi, belowL_app]
  congr 1
  rw [belowL, List.filter_cons]
  split <;> rfl

set_option maxHeartbeats 8000000 in
set_option maxRecDepth 100000 in
theorem checks_tree (a : Option Addr) (n cap : Nat) (l : List (ByteArray × Int × List ByteArray)) (path : ByteArray) (w : World) (hg : Known w) (hl : EntsIn w a n cap l) (hp : path.size ≤ 2000) (hok : EntsOk n l) (ht : isTree l)
    (p' : ByteArray) (sz' : Int) (ks' : List ByteArray) (E : Value) (fnd : Nat → Int) (hks : ks'.length ≤ 1200)
    (hfd : ∀ W, Below w.heap.size w W → Calls Tryd.prog 12 #[.slice a n cap, .string path] W fun e w' => ∃ v, e = .returned (.tuple #[.agg #[.string p', .int .i64 sz', v], E]) ∧ Strs W.heap.size v ks' W w')
    (hf0 : fnd 0 = -1) (hf1 : ∀ i, i < n → (entOf l i).1 = path → fnd (i + 1) = (i : Int)) (hf2 : ∀ i, i < n → (entOf l i).1 ≠ path → fnd (i + 1) = fnd i)
    (hend : (fnd n = -1 ∧ p' = ⟨#[]⟩ ∧ sz' = 0 ∧ ks' = [] ∧ E = .iface 39 (.int .i64 3)) ∨ ∃ j, j < n ∧ fnd n = (j : Int) ∧ entOf l j = (p', sz', ks') ∧ E = .nilIface) :
    Calls Tryd.prog 3 #[.slice a n cap, .string path] w fun e w' => e = .returned (.bool true) ∧ Below w.heap.size w w' := by
  have hsh : Hid (∀ W, Below w.heap.size w W → Calls Tryd.prog 10 #[.slice a n cap] W fun e w' => Shorts e n l ∧ w' = W) := fun W hb => short_any a n cap l W hl.1 (hl.2.1.below hb (Nat.le_refl _))
  have hck : Hid (∀ W, Below w.heap.size w W → Calls Tryd.prog 11 #[.slice a n cap] W fun e w' => e = .returned .nilIface ∧ Below W.heap.size W w') := fun W hb => check_tree a n cap l W hok (hl.2.1.below hb (Nat.le_refl _)) hl.2.2 ht
  have HFD : Hid (∀ W, Below w.heap.size w W → Calls Tryd.prog 12 #[.slice a n cap, .string path] W fun e w' => ∃ v, e = .returned (.tuple #[.agg #[.string p', .int .i64 sz', v], E]) ∧ Strs W.heap.size v ks' W w') := hfd
  have hbl : Hid (∀ W, Below w.heap.size w W → Calls Tryd.prog 13 #[.slice a n cap, .string path] W fun e w' => ∃ v, e = .returned v ∧ Strs W.heap.size v (belowL path l) W w') := fun W hb => below_ok a n cap l path W hok (hl.2.1.below hb (Nat.le_refl _)) hl.2.2 ht hp
  have hrc : Hid (∀ W, Below w.heap.size w W → Calls Tryd.prog 14 #[.slice a n cap] W fun e w' => e = .returned (.tuple #[.int .i64 0, .int .i64 (-1)]) ∧ Below W.heap.size W w') := fun W hb => by
    have := refCheck_ans a n cap l W hok (hl.2.1.below hb (Nat.le_refl _))
    rw [checkAns_all ht.1 ht.2] at this
    exact this
  have hto : Hid (∀ W, Calls Tryd.prog 15 #[.nilIface, .int .i64 0, .int .i64 (-1)] W fun e w' => e = .returned (.bool true) ∧ w' = W) := fun W => told_none .nilIface 0 W fun W => code_nil W
  have hup := up_any w hg
  obtain ⟨S, hS⟩ : ∃ S, S = belowL path l := ⟨_, rfl⟩
  obtain ⟨L, hL⟩ : ∃ L, L = S.length := ⟨_, rfl⟩
  have hLn : L ≤ n := by rw [hL, hS, hl.1]; exact belowL_len path l
  have HSM : Hid (∀ (a a' : Option Addr) (cap cap' : Nat) W, Lies W a S → Lies W a' S → Calls Tryd.prog 17 #[.slice a L cap, .slice a' L cap'] W fun e w' => e = .returned (.bool true) ∧ Below W.heap.size W w') := by
    intro a a' cap cap' W h1 h2
    have := Chunk.same_any a S L cap a' S L cap' W hL h1 hL h2 (by have := hok.2.1; omega) (by have := hok.2.1; omega)
    rw [decide_eq_true rfl] at this
    exact this
  obtain ⟨kn, hkn⟩ : ∃ kn, kn = ks'.length := ⟨_, rfl⟩
  have HSE : Hid (∀ (ka ka' : Option Addr) (kc kc' : Nat) W, Lies W ka ks' → Lies W ka' ks' → Calls Tryd.prog 16 #[.agg #[.string p', .int .i64 sz', .slice ka kn kc], .agg #[.string p', .int .i64 sz', .slice ka' kn kc']] W fun e w' => e = .returned (.bool true) ∧ Below W.heap.size W w') := by
    intro ka ka' kc kc' W h1 h2
    have := sameE_any p' p' sz' sz' ka ka' kn kn kc kc' ks' ks' W hkn h1 hkn h2 (by omega) (by omega)
    rw [decide_eq_true ⟨rfl, rfl, rfl⟩] at this
    exact this
  have HPT : Hid (∀ i, i < n → isPath (entOf l i).1 = true) := fun i hi => tree_path ht (by rw [← hl.1]; exact hi)
  have HPS : Hid (∀ i, i < n → (entOf l i).1.size ≤ 2000) := fun i hi => (hok.2.2 i hi).1
  have HBN : Hid (∀ i, i < n → belowL path (l.take (i + 1)) = belowL path (l.take i) ++ (if (decide (path = ⟨#[]⟩) || isUnder path (entOf l i).1) = true then [(entOf l i).1] else [])) := fun i hi => belowL_next (by rw [← hl.1]; exact hi)
  obtain ⟨z, hz⟩ : ∃ z, z = path.size := ⟨_, rfl⟩
  have hlen := Tree.len_text path z hz
  have HZ : Hid (z = path.size) := hz
  have hadd : ∀ W : World, (Op.stringOp .add path ⟨#[47]⟩).run Tryd.prog W = .ok (.string (path ++ ⟨#[47]⟩)) W := fun W => run_string_add_sum W _ _ (by show path.size + 1 ≤ _; omega)
  rw [← hz] at hp
  have HN : Hid (n = l.length) := hl.1
  have HLE : Hid (LiesE w a l) := hl.2.1
  have HS : Hid (S = belowL path l) := hS
  have HL : Hid (L = S.length) := hL
  have HKN : Hid (kn = ks'.length) := hkn
  have HF0 : Hid (fnd 0 = -1) := hf0
  have HF1 : Hid (∀ i, i < n → (entOf l i).1 = path → fnd (i + 1) = (i : Int)) := hf1
  have HF2 : Hid (∀ i, i < n → (entOf l i).1 ≠ path → fnd (i + 1) = fnd i) := hf2
  have HEND : Hid ((fnd n = -1 ∧ p' = ⟨#[]⟩ ∧ sz' = 0 ∧ ks' = [] ∧ E = .iface 39 (.int .i64 3)) ∨ ∃ j, j < n ∧ fnd n = (j : Int) ∧ entOf l j = (p', sz', ks') ∧ E = .nilIface) := hend
  have hnm : n ≤ 100 := hok.2.1
  clear hg hl hz hok ht hks hfd hf0 hf1 hf2 hend hS hL hkn
  go_enter Tryd.func3, Tryd.ntmps3
  go_wp2_with fail
  refine hup.mono ?_
  rintro e w1 ⟨rfl, hb1⟩
  go_wp2_with fail
  refine (hsh.out _ hb1).mono ?_
  rintro e w2 ⟨⟨b, rfl, hb⟩, rfl⟩
  clear hb hup
  cases b with
  | false =>
    go_wp2
    go_ret
    exact ⟨rfl, hb1⟩
  | true =>
    go_wp2_with fail
    refine (hck.out _ hb1).mono ?_
    rintro e w3 ⟨rfl, hb3⟩
    have HB3 : Hid (Below w.heap.size w w3) := hb1.trans (hb3.mono hb1.size)
    clear hb1 hb3
    go_wp2_with fail
    refine (HFD.out _ HB3.out).mono ?_
    rintro e w4 ⟨v4, rfl, hs4⟩
    obtain ⟨a4, cap4, rfl, _, _, hl4⟩ := hs4.liesN HKN.out
    have HK4 : Hid (Lies w4 a4 ks') := hl4
    have HB4 : Hid (Below w.heap.size w w4) := HB3.out.trans (hs4.2.1.mono HB3.out.size)
    clear hs4 hl4
    go_wp2_with fail
    refine (hbl.out _ (HB4.out.alloc HB4.out.size _)).mono ?_
    rintro e w5 ⟨v5, rfl, hs5⟩
    rw [← HS.out] at hs5
    obtain ⟨a5, cap5, rfl, _, _, hl5⟩ := hs5.liesN HL.out
    obtain ⟨y0, y1, y2, hb45, _⟩ := ent_box hs5.2.1
    have HK5 : Hid (Lies w5 a4 ks') := HK4.out.below hb45 (Nat.le_refl _)
    have HB5 : Hid (Below w.heap.size w w5) := HB4.out.trans (hb45.mono HB4.out.size)
    have HL5 : Hid (Lies w5 a5 S) := hl5
    clear hs5 hl5 hb45
    go_wp2_with fail
    refine (hrc.out _ HB5.out).mono ?_
    rintro e w6 ⟨rfl, hb6⟩
    have HB56 : Hid (Below w5.heap.size w5 w6) := hb6
    have HB6 : Hid (Below w.heap.size w w6) := HB5.out.trans (hb6.mono HB5.out.size)
    have HY6 : Hid (w6.cell? ⟨w4.heap.size, 0, none⟩ = some (.string p') ∧ w6.cell? ⟨w4.heap.size, 1, none⟩ = some (.int .i64 sz') ∧ w6.cell? ⟨w4.heap.size, 2, none⟩ = some (.slice a4 kn cap4)) := ⟨cell_kept hb6 y0, cell_kept hb6 y1, cell_kept hb6 y2⟩
    clear hb6 y0 y1 y2
    go_wp2_with fail
    refine (hto.out w6).mono ?_
    rintro e w7 ⟨rfl, rfl⟩
    go_wp2
    go_loopw [13, 14, 15, 16] (fun t13 t14 t15 _ wr => ∃ (i : Nat) (f : Int), t13 = .int .i64 f ∧ t15 = .int .i64 (i : Int) ∧ i ≤ n ∧ Strs w7.heap.size t14 (belowL path (l.take i)) w7 wr ∧ Hid (f = fnd i)) (fun _ _ t15 _ _ => n - (intOf t15).toNat)
    case atStart => exact ⟨0, -1, rfl, rfl, Nat.zero_le _, by rw [List.take_zero]; exact Strs.nil w7, HF0.out.symm⟩
    case round =>
      obtain ⟨i, f, rfl, rfl, hi, hst, HFI⟩ := hrel
      by_cases hin : i < n
      · have HBW : Hid (Below w.heap.size w wr) := HB6.out.trans (hst.2.1.mono HB6.out.size)
        obtain ⟨x, hx, g0, g1, ka, kc, g2, hk⟩ := (HLE.out.below HBW.out (Nat.le_refl _)).at (j := i) (by rw [← HN.out]; exact hin)
        subst hx
        have HT := HBN.out i hin
        have hF1 := HF1.out i hin
        have hF2 := HF2.out i hin
        have hpt := HPT.out i hin
        have hps := HPS.out i hin
        have HTL : Hid ((belowL path (l.take i)).length ≤ 100) := by
          show _ ≤ _
          have := belowL_len path (l.take i)
          rw [List.length_take] at this; omega
        generalize (entOf l i).1 = p at g0 HT hF1 hF2 hpt hps
        have hix := index_ent x n cap i hin
        have hub := under_begins path p hpt
        rw [hub] at HT
        generalize x.add (i * 3) = q at g0 hix
        generalize belowL path (l.take i) = d at hst HT HTL
        obtain ⟨zp, hzp⟩ : ∃ zp, zp = p.size := ⟨_, rfl⟩
        have hlenp := Tree.len_text p zp hzp
        rw [← hzp] at hps HT
        rw [← HZ.out] at HT
        have hsl : z + 1 < zp → ∀ W, (Instr.slice 9 (.string p) none (some (.int .i64 ((z : Int) + 1))) none).run Tryd.prog W = .ok (.string (p.extract 0 (z + 1))) W := fun h W => slice_head p z (by rw [← hzp]; omega) W
        generalize p.extract 0 (z + 1) = X at hsl HT
        have HT2 : Hid (belowL path (l.take (i + 1)) = d ++ (if (decide (path = ⟨#[]⟩) || decide (z + 1 < zp ∧ X = path ++ ⟨#[47]⟩)) = true then [p] else [])) := HT
        have HFF1 : Hid (p = path → fnd (i + 1) = (i : Int)) := hF1
        have HFF2 : Hid (p ≠ path → fnd (i + 1) = fnd i) := hF2
        have HSL : Hid (z + 1 < zp → ∀ W, (Instr.slice 9 (.string p) none (some (.int .i64 ((z : Int) + 1))) none).run Tryd.prog W = .ok (.string X) W) := hsl
        have HZP : Hid (zp = p.size) := hzp
        clear hk HBW HT hF1 hF2 hpt hub hzp hsl g1 g2
        generalize path ++ ⟨#[47]⟩ = Y at hadd HT2
        obtain ⟨be, hbe⟩ : ∃ be, be = decide (p = path) := ⟨_, rfl⟩
        have hpe : (p.toList == path.toList) = be := by rw [str_eq, hbe]
        have HFE : Hid ((bif be then (i : Int) else f) = fnd (i + 1)) := by
          show _ = _
          by_cases h : p = path
          · rw [hbe, decide_eq_true h, HFF1.out h]; rfl
          · rw [hbe, decide_eq_false h, HFF2.out h, ← HFI.out]; rfl
        have HST : Hid (Strs w7.heap.size u14 d w7 wr) := hst
        clear hbe HFF1 HFF2 hst
        by_cases hd : path = ⟨#[]⟩
        · have HT3 : Hid (belowL path (l.take (i + 1)) = d ++ [p]) := by
            show _ = _
            rw [HT2.out, decide_eq_true hd, Bool.true_or, if_pos rfl]
          have hem : path.toList.isEmpty = true := by rw [hd, ByteArray.toList_eq]; rfl
          clear hd HT2
          cases be
          all_goals
            go_wp2_with (at_builtin; refine wpList_str rfl (.tmp 111) (.tmp 117) rfl w7.heap.size _ d rfl w7 wr p HST.out rfl (by have := HTL.out; omega) ?_; intro v' w9 hb9)
            go_roundw
            case rel => exact ⟨i + 1, _, rfl, by go_num, by omega, by rw [HT3.out]; exact hb9, by show _ = _; exact HFE.out⟩
            case measure => simp [intOf]; omega
        · have hem := not_none hd
          by_cases hlt : z + 1 < zp
          · have hsl := HSL.out hlt
            by_cases hxy : X = Y
            · have HT3 : Hid (belowL path (l.take (i + 1)) = d ++ [p]) := by
                show _ = _
                rw [HT2.out, decide_eq_true (p := z + 1 < zp ∧ X = Y) ⟨hlt, hxy⟩, Bool.or_true, if_pos rfl]
              have hx : (X.toList == Y.toList) = true := by rw [str_eq, decide_eq_true hxy]
              clear hd HT2 hxy
              cases be
              all_goals
                go_wp2_with (at_builtin; refine wpList_str rfl (.tmp 111) (.tmp 117) rfl w7.heap.size _ d rfl w7 wr p HST.out rfl (by have := HTL.out; omega) ?_; intro v' w9 hb9)
                go_roundw
                case rel => exact ⟨i + 1, _, rfl, by go_num, by omega, by rw [HT3.out]; exact hb9, by show _ = _; exact HFE.out⟩
                case measure => simp [intOf]; omega
            · have HT3 : Hid (belowL path (l.take (i + 1)) = d) := by
                show _ = _
                rw [HT2.out, decide_eq_false hd, decide_eq_false (p := z + 1 < zp ∧ X = Y) (fun h => hxy h.2), Bool.or_false, if_neg Bool.false_ne_true, List.append_nil]
              have hx : (X.toList == Y.toList) = false := by rw [str_eq, decide_eq_false hxy]
              clear hd HT2 hxy
              cases be
              all_goals
                go_wp2
                go_roundw
                case rel => exact ⟨i + 1, _, rfl, by go_num, by omega, by rw [HT3.out]; exact HST.out, by show _ = _; exact HFE.out⟩
                case measure => simp [intOf]; omega
          · have HT3 : Hid (belowL path (l.take (i + 1)) = d) := by
              show _ = _
              rw [HT2.out, decide_eq_false hd, decide_eq_false (p := z + 1 < zp ∧ X = Y) (fun h => hlt h.1), Bool.or_false, if_neg Bool.false_ne_true, List.append_nil]
            clear hd HT2
            cases be
            all_goals
              go_wp2
              go_roundw
              case rel => exact ⟨i + 1, _, rfl, by go_num, by omega, by rw [HT3.out]; exact HST.out, by show _ = _; exact HFE.out⟩
              case measure => simp [intOf]; omega
      · have hst2 : Strs w7.heap.size u14 S w7 wr := by
          rw [List.take_of_length_le (by rw [← HN.out]; omega), ← HS.out] at hst
          exact hst
        have hfn : f = fnd n := by
          rw [HFI.out, show i = n by omega]
        obtain ⟨a8, cap8, rfl, _, _, hl8⟩ := hst2.liesN HL.out
        have HB7r : Hid (Below w7.heap.size w7 wr) := hst2.2.1
        have HB0r : Hid (Below w.heap.size w wr) := HB6.out.trans (HB7r.out.mono HB6.out.size)
        have HCS : Hid (Calls Tryd.prog 17 #[.slice a5 L cap5, .slice a8 L cap8] wr fun e w' => e = .returned (.bool true) ∧ Below wr.heap.size wr w') := HSM.out a5 a8 cap5 cap8 wr ((HL5.out.below HB56.out (Nat.le_refl _)).below HB7r.out (Nat.le_refl _)) hl8
        have HKr : Hid (Lies wr a4 ks') := (HK5.out.below HB56.out (Nat.le_refl _)).below HB7r.out (Nat.le_refl _)
        obtain ⟨y0, y1, y2⟩ := HY6.out
        have c0 := cell_kept HB7r.out y0
        have c1 := cell_kept HB7r.out y1
        have c2 := cell_kept HB7r.out y2
        have HEN := HEND.out
        clear hst hst2 hl8 HFI y0 y1 y2 HEND HY6
        rcases HEN with ⟨h1, rfl, rfl, rfl, rfl⟩ | ⟨j, hj, h1, he, rfl⟩
        · rw [h1] at hfn
          have hk0 : kn = 0 := by rw [HKN.out]; rfl
          subst hfn
          subst hk0
          have heq : ∀ w, (binOp .eql 26 (.iface 39 (.int .i64 3)) (.iface 39 (.int .i64 3))).run Tryd.prog w = .ok (.bool true) w := fun w => by kernel_rfl
          clear h1
          go_wp2_with fail
          refine HCS.out.mono ?_
          rintro e w9 ⟨rfl, hb9⟩
          have d0 := cell_kept hb9 c0
          have d1 := cell_kept hb9 c1
          have d2 := cell_kept hb9 c2
          have HB9 : Hid (Below w.heap.size w w9) := HB0r.out.trans (hb9.mono HB0r.out.size)
          clear hb9 c0 c1 c2
          go_wp2_with fail
          refine (HSE.out a4 none cap4 0 w9 (.inl rfl) (.inl rfl)).mono ?_
          rintro e w10 ⟨rfl, hb10⟩
          go_wp2
          go_ret
          exact ⟨rfl, HB9.out.trans (hb10.mono HB9.out.size)⟩
        · rw [h1] at hfn
          subst hfn
          have heq := eqNil0
          obtain ⟨x, hx, g0, g1, ka, kc, g2, hk⟩ := (HLE.out.below HB0r.out (Nat.le_refl _)).at (j := j) (by rw [← HN.out]; exact hj)
          subst hx
          rw [he] at g0 g1 g2 hk
          simp only at g0 g1 g2 hk
          rw [← HKN.out] at g2
          have hix := index_ent x n cap j hj
          generalize x.add (j * 3) = q at g0 g1 g2 hix
          have HKI : Hid (Lies wr ka ks') := hk.1
          clear h1 he hk
          go_wp2_with fail
          refine HCS.out.mono ?_
          rintro e w9 ⟨rfl, hb9⟩
          have d0 := cell_kept hb9 c0
          have d1 := cell_kept hb9 c1
          have d2 := cell_kept hb9 c2
          have f0 := cell_kept hb9 g0
          have f1 := cell_kept hb9 g1
          have f2 := cell_kept hb9 g2
          have HB9 : Hid (Below w.heap.size w w9) := HB0r.out.trans (hb9.mono HB0r.out.size)
          have HR : Hid (∀ W, (Below w9.heap.size w9 W ∧ (W.cell? ⟨w4.heap.size, 0, none⟩ = some (.string p') ∧ W.cell? ⟨w4.heap.size, 1, none⟩ = some (.int .i64 sz') ∧ W.cell? ⟨w4.heap.size, 2, none⟩ = some (.slice a4 kn cap4)) ∧ W.cell? q = some (.string p') ∧ W.cell? ⟨q.block, q.off + 1, none⟩ = some (.int .i64 sz') ∧ W.cell? ⟨q.block, q.off + 2, none⟩ = some (.slice ka kn kc)) →
              Calls Tryd.prog 16 #[.agg #[.string p', .int .i64 sz', .slice a4 kn cap4], .agg #[.string p', .int .i64 sz', .slice ka kn kc]] W fun e w' => e = .returned (.bool true) ∧ (Below w9.heap.size w9 w' ∧ (w'.cell? ⟨w4.heap.size, 0, none⟩ = some (.string p') ∧ w'.cell? ⟨w4.heap.size, 1, none⟩ = some (.int .i64 sz') ∧ w'.cell? ⟨w4.heap.size, 2, none⟩ = some (.slice a4 kn cap4)) ∧ w'.cell? q = some (.string p') ∧ w'.cell? ⟨q.block, q.off + 1, none⟩ = some (.int .i64 sz') ∧ w'.cell? ⟨q.block, q.off + 2, none⟩ = some (.slice ka kn kc))) := by
            rintro W ⟨b0, ⟨k0, k1, k2⟩, m0, m1, m2⟩
            refine (HSE.out a4 ka cap4 kc W ((HKr.out.below hb9 (Nat.le_refl _)).below b0 (Nat.le_refl _)) ((HKI.out.below hb9 (Nat.le_refl _)).below b0 (Nat.le_refl _))).mono ?_
            rintro e w' ⟨rfl, hb⟩
            exact ⟨rfl, b0.trans (hb.mono b0.size), ⟨cell_kept hb k0, cell_kept hb k1, cell_kept hb k2⟩, cell_kept hb m0, cell_kept hb m1, cell_kept hb m2⟩
          clear hb9 c0 c1 c2 g0 g1 g2
          go_wp2_with fail
          go_region_held (fun W => (Below w9.heap.size w9 W ∧ (W.cell? ⟨w4.heap.size, 0, none⟩ = some (.string p') ∧ W.cell? ⟨w4.heap.size, 1, none⟩ = some (.int .i64 sz') ∧ W.cell? ⟨w4.heap.size, 2, none⟩ = some (.slice a4 kn cap4)) ∧ W.cell? q = some (.string p') ∧ W.cell? ⟨q.block, q.off + 1, none⟩ = some (.int .i64 sz') ∧ W.cell? ⟨q.block, q.off + 2, none⟩ = some (.slice ka kn kc)))
            (first | assumption | exact ⟨(Below.refl _ _).drew, ⟨by simpa using d0, by simpa using d1, by simpa using d2⟩, by simpa using f0, by simpa using f1, by simpa using f2⟩)
            (first | (go_at_call 16; refine (HR.out _ (by assumption)).mono ?_; rintro e w10 ⟨rfl, hb10⟩))
          all_goals
            go_wp2
            go_ret
            exact ⟨rfl, HB9.out.trans (hb10.1.mono HB9.out.size)⟩

theorem treeChecks_walk (a : Option Addr) (l : List (ByteArray × Int × List ByteArray)) (n cap : Nat) (path : ByteArray) (w : World) (hg : Known w) (hl : EntsIn w a n cap l) (hp : path.size ≤ maxLen) :
    Calls Tryd.prog 3 #[.slice a n cap, .string path] w fun e w' => e = .returned (.bool true) ∧ Below w.heap.size w w' := by
  by_cases h : n ≤ 100 ∧ (∀ j, j < n → shortE (entOf l j)) ∧ path.size ≤ 2000
  · have hok : EntsOk n l := ⟨hl.1, h.1, h.2.1⟩
    by_cases ht : isTree l
    · by_cases hx : ∃ j, j < n ∧ (entOf l j).1 = path
      · obtain ⟨j, hj, he⟩ := hx
        refine checks_tree a n cap l path w hg hl h.2.2 hok ht path (entOf l j).2.1 (entOf l j).2.2 .nilIface (fun i => if j < i then (j : Int) else -1) (hok.2.2 j hj).2.1 ?_ ?_ ?_ ?_ (.inr ⟨j, hj, if_pos hj, by rw [← he], rfl⟩)
        · intro W hb
          refine find_core _ a n cap l path W hok (hl.2.1.below hb (Nat.le_refl _)) hl.2.2 ht ?_ ?_
          · intro k hk hke v w' hs
            have : k = j := tree_one ht (by rw [← hl.1]; exact hk) (by rw [← hl.1]; exact hj) (by rw [hke, he])
            subst this
            exact ⟨v, rfl, hs⟩
          · intro hne
            exact absurd he (hne j hj)
        · simp
        · intro i hi hie
          have : i = j := tree_one ht (by rw [← hl.1]; exact hi) (by rw [← hl.1]; exact hj) (by rw [hie, he])
          subst this
          simp
        · intro i hi hie
          have hij : i ≠ j := fun e => hie (by rw [e]; exact he)
          by_cases h1 : j < i
          · simp only [if_pos h1, if_pos (show j < i + 1 by omega)]
          · simp only [if_neg h1, if_neg (show ¬ j < i + 1 by omega)]
      · refine checks_tree a n cap l path w hg hl h.2.2 hok ht ⟨#[]⟩ 0 [] (.iface 39 (.int .i64 3)) (fun _ => -1) (by simp) ?_ rfl (fun i hi hie => absurd ⟨i, hi, hie⟩ hx) (fun _ _ _ => rfl) (.inl ⟨rfl, rfl, rfl, rfl, rfl⟩)
        intro W hb
        refine find_core _ a n cap l path W hok (hl.2.1.below hb (Nat.le_refl _)) hl.2.2 ht ?_ ?_
        · intro k hk hke
          exact absurd ⟨k, hk, hke⟩ hx
        · intro _ w' hbb
          exact ⟨_, rfl, World.ownsRow_nil w' _ 9 1, hbb, hbb.size⟩
    · exact checks_not a n cap l path w hg hl h.2.2 hok ht
  · exact checks_far a n cap l path w hg hl hp h
end Go.Proofs.YtcjkficpiedpfaaDoor.Tree
