/-
  A path's entry: the program's 'Find'.
-/
import Derived.Test.YtcjkficpiedpfaaDoorTrCopy
namespace Go.Proofs.YtcjkficpiedpfaaDoor.Tree
open Go.RowKit Route Chunk

theorem ErrV.far {B : Nat} {w : World} {v : Value} {c : Nat} {pl : Option Nat} (h : ErrV B w v c pl) {g i : Nat} {x : Value} (hg : g < B) : ErrV B (w.setCell ⟨g, i, none⟩ x) v c pl := by
  rcases h with h | h | ⟨h0, k, g', h1, h2, h3, h4, h5⟩
  · exact .inl h
  · exact .inr (.inl h)
  · refine .inr (.inr ⟨h0, k, g', h1, h2, h3, ?_, ?_⟩)
    · rw [World.cell?_setCell_far _ _ _ _ (show g ≠ g' by omega)]; exact h4
    · rw [World.cell?_setCell_far _ _ _ _ (show g ≠ g' by omega)]; exact h5

theorem ErrV.mono {B B' : Nat} {w : World} {v : Value} {c : Nat} {pl : Option Nat} (h : ErrV B w v c pl) (hB : B' ≤ B) : ErrV B' w v c pl := by
  rcases h with h | h | ⟨h0, k, g', h1, h2, h3, h4⟩
  · exact .inl h
  · exact .inr (.inl h)
  · exact .inr (.inr ⟨h0, k, g', h1, h2, Nat.le_trans hB h3, h4⟩)

theorem ErrV.below {B : Nat} {w w' : World} {v : Value} {c : Nat} {pl : Option Nat} (h : ErrV B w v c pl) (hb : Below w.heap.size w w') : ErrV B w' v c pl := by
  rcases h with h | h | ⟨h0, k, g', h1, h2, h3, h4, h5⟩
  · exact .inl h
  · exact .inr (.inl h)
  · exact .inr (.inr ⟨h0, k, g', h1, h2, h3, cell_kept hb h4, cell_kept hb h5⟩)

/-- An error that is one: what the walks ask of it. -/
def Bad (v : Value) : Prop := (∀ W, (binOp .neq 26 v .nilIface).run Tryd.prog W = .ok (.bool true) W) ∧ (∀ t W, (eqGuard .neq 26 (.tmp t) (.const .nilIface) v .nilIface).run Tryd.prog W = .ok () W)

theorem ErrV.bad {B : Nat} {w : World} {v : Value} {c : Nat} {pl : Option Nat} (h : ErrV B w v c pl) (hc : c ≠ 0) : Bad v := by
  rcases h with h | ⟨_, _, rfl⟩ | ⟨_, k, g', _, rfl, _⟩
  · exact absurd h.1 hc
  · exact ⟨fun W => by kernel_rfl, fun t W => by kernel_rfl⟩
  · exact ⟨fun W => by kernel_rfl, fun t W => by kernel_rfl⟩

/-- Is it a tree? -/
def isTree (l : List (ByteArray × Int × List ByteArray)) : Prop := l.length ≤ 32 ∧ ∀ j, j < l.length → codeOf (l.take j) (entOf l j) = 0

theorem checkAns_tree {l : List (ByteArray × Int × List ByteArray)} : (checkAns l).1 = 0 ↔ isTree l := by
  unfold checkAns isTree
  by_cases h : 32 < l.length
  · rw [if_pos h]
    exact ⟨fun h => by simp at h, fun h => by omega⟩
  · rw [if_neg h]
    cases e : firstBad l 0 l.length with
    | none => exact ⟨fun _ => ⟨by omega, fun j hj => firstBad_none _ _ e j (Nat.zero_le _) (by omega)⟩, fun _ => rfl⟩
    | some x =>
      obtain ⟨c, i⟩ := x
      obtain ⟨_, h2, h3, h4⟩ := firstBad_some _ _ e
      exact ⟨fun h => absurd h h3, fun h => absurd (h4 ▸ h.2 i (by omega)) h3⟩

/-- What 'Check' tells, of any entries that are few and short. -/
theorem check_ans (a : Option Addr) (n cap : Nat) (l : List (ByteArray × Int × List ByteArray)) (w : World) (hl : EntsOk n l) (hl0 : LiesE w a l) (hc : n ≤ cap) :
    Calls Tryd.prog 11 #[.slice a n cap] w fun e w' => (∃ v, e = .returned v ∧ ErrV w.heap.size w' v (checkAns l).1 (checkAns l).2) ∧ Below w.heap.size w w' := by
  have hn := hl.1
  by_cases h : 32 < n
  · refine (check_large a n cap w h).mono ?_
    rintro e w' ⟨rfl, rfl⟩
    rw [checkAns, if_pos (by omega)]
    exact ⟨⟨_, rfl, .inr (.inl ⟨by decide, rfl, rfl⟩)⟩, Below.refl _ _⟩
  · refine check_core a n cap l _ _ w hl hl0 hc (by omega) ?_ ?_
    · intro h0
      have e : checkAns l = (0, none) := by
        rw [checkAns, if_neg (by omega), firstBad_all _ _ fun j _ hj => h0 j (by omega)]
      rw [e]; exact ⟨rfl, rfl⟩
    · intro j hj h0 h1
      have e : checkAns l = (codeOf (l.take j) (entOf l j), some j) := by
        rw [checkAns, if_neg (by omega)]
        cases e : firstBad l 0 l.length with
        | none => exact absurd (firstBad_none _ _ e j (Nat.zero_le _) (by omega)) h1
        | some x =>
          obtain ⟨c, i⟩ := x
          obtain ⟨_, h2, h3, h4⟩ := firstBad_some _ _ e
          have hij : i = j := by
            rcases Nat.lt_trichotomy i j with h | h | h
            · exact absurd (h4 ▸ h0 i h) h3
            · exact h
            · have := firstBad_first _ _ e j (Nat.zero_le _) h
              exact absurd this h1
          subst hij
          rw [h4]
      rw [e]; exact ⟨rfl, rfl⟩

theorem check_tree (a : Option Addr) (n cap : Nat) (l : List (ByteArray × Int × List ByteArray)) (w : World) (hl : EntsOk n l) (hl0 : LiesE w a l) (hc : n ≤ cap) (ht : isTree l) :
    Calls Tryd.prog 11 #[.slice a n cap] w fun e w' => e = .returned .nilIface ∧ Below w.heap.size w w' := by
  refine (check_ans a n cap l w hl hl0 hc).mono ?_
  rintro e w' ⟨⟨v, rfl, h⟩, hb⟩
  have h0 := checkAns_tree.2 ht
  rcases h with ⟨_, _, rfl⟩ | ⟨h, _⟩ | ⟨h, _⟩
  · exact ⟨rfl, hb⟩
  · exact absurd h0 h
  · exact absurd h0 h

set_option maxHeartbeats 4000000 in
set_option maxRecDepth 100000 in
theorem find_bad (a : Option Addr) (n cap : Nat) (l : List (ByteArray × Int × List ByteArray)) (path : ByteArray) (w : World) (hl : EntsOk n l) (hl0 : LiesE w a l) (hc : n ≤ cap) (ht : ¬ isTree l) :
    Calls Tryd.prog 12 #[.slice a n cap, .string path] w fun e w' => (∃ v, e = .returned (.tuple #[.agg #[.string ⟨#[]⟩, .int .i64 0, .slice none 0 0], v]) ∧ ErrV w.heap.size w' v (checkAns l).1 (checkAns l).2) ∧ Below w.heap.size w w' := by
  have hne : (checkAns l).1 ≠ 0 := fun h => ht (checkAns_tree.1 h)
  have hck : Hid (∀ W, LiesE W a l → Calls Tryd.prog 11 #[.slice a n cap] W fun e w' => (∃ v, e = .returned v ∧ ErrV W.heap.size w' v (checkAns l).1 (checkAns l).2) ∧ Below W.heap.size W w') := fun W h => check_ans a n cap l W hl h hc
  have HL : Hid (LiesE w a l) := hl0
  generalize (checkAns l).1 = c at hck hne
  generalize (checkAns l).2 = pl at hck
  clear hl hl0 hc ht
  go_enter Tryd.func12, Tryd.ntmps12
  go_wp2_with fail
  refine (hck.out _ (HL.out.below ((Below.refl _ _).alloc (Nat.le_refl _) _) (Nat.le_refl _))).mono ?_
  rintro e w1 ⟨⟨v, rfl, hv⟩, hb1⟩
  obtain ⟨hv1, hv2⟩ := hv.bad hne
  obtain ⟨g0, g1, g2, hbw, hlt⟩ := ent_box hb1
  have hf : ∀ i, w1.frozen? ⟨w.heap.size, i, none⟩ = false := fun i => by
    rw [hb1.frozen (by show w.heap.size < _; simp)]
    exact World.frozen?_alloc_at _ _ _ _ rfl
  have HV : Hid (ErrV (w.heap.size + 1) w1 v c pl) := by
    have e : (w.alloc (.cells #[.string ⟨#[]⟩, .int .i64 0, .slice none 0 0] 30)).heap.size = w.heap.size + 1 := by simp
    rw [← e]; exact hv
  have hf0 := hf 0
  have hf1 := hf 1
  have hf2 := hf 2
  have HBW : Hid (Below w.heap.size w w1) := hbw
  clear hv hb1 hck hf hbw
  go_wp2
  refine bodyPost_ret (v := .tuple #[.agg #[.string ⟨#[]⟩, .int .i64 0, .slice none 0 0], v]) (by simp [results, Tryd.results12, go_sem, g0, g1, g2]) rfl ?_
  exact ⟨⟨_, rfl, (((HV.out.far (by omega)).far (by omega)).far (by omega)).mono (by omega)⟩, ((HBW.out.setCell (show w.heap.size ≤ w.heap.size from Nat.le_refl _) _).setCell (show w.heap.size ≤ w.heap.size from Nat.le_refl _) _).setCell (show w.heap.size ≤ w.heap.size from Nat.le_refl _) _⟩

theorem ne_text {p q : ByteArray} (h : p ≠ q) : (p.toList == q.toList) = false := by rw [str_eq, decide_eq_false h]

set_option maxHeartbeats 4000000 in
set_option maxRecDepth 100000 in
theorem find_core (T : Ending → World → Prop) (a : Option Addr) (n cap : Nat) (l : List (ByteArray × Int × List ByteArray)) (path : ByteArray) (w : World) (hl : EntsOk n l) (hl0 : LiesE w a l) (hc : n ≤ cap) (ht : isTree l)
    (hhit : ∀ j, j < n → (entOf l j).1 = path → ∀ v w', Strs w.heap.size v (entOf l j).2.2 w w' → T (.returned (.tuple #[.agg #[.string path, .int .i64 (entOf l j).2.1, v], .nilIface])) w')
    (hmiss : (∀ k, k < n → (entOf l k).1 ≠ path) → ∀ w', Below w.heap.size w w' → T (.returned (.tuple #[.agg #[.string ⟨#[]⟩, .int .i64 0, .slice none 0 0], .iface 39 (.int .i64 3)])) w') :
    Calls Tryd.prog 12 #[.slice a n cap, .string path] w T := by
  have hck : Hid (∀ W, LiesE W a l → Calls Tryd.prog 11 #[.slice a n cap] W fun e w' => e = .returned .nilIface ∧ Below W.heap.size W w') := fun W h => check_tree a n cap l W hl h hc ht
  have HL : Hid (LiesE w a l) := hl0
  have HN : Hid (n = l.length) := hl.1
  have hnm : n ≤ 100 := hl.2.1
  have HH : Hid (∀ j, j < n → (entOf l j).1 = path → ∀ v w', Strs w.heap.size v (entOf l j).2.2 w w' → T (.returned (.tuple #[.agg #[.string path, .int .i64 (entOf l j).2.1, v], .nilIface])) w') := hhit
  have HM : Hid ((∀ k, k < n → (entOf l k).1 ≠ path) → ∀ w', Below w.heap.size w w' → T (.returned (.tuple #[.agg #[.string ⟨#[]⟩, .int .i64 0, .slice none 0 0], .iface 39 (.int .i64 3)])) w') := hmiss
  have hcp : Hid (∀ j, j < n → ∀ (ka : Option Addr) (kc : Nat) W, Lies W ka (entOf l j).2.2 → Calls Tryd.prog 28 #[.agg #[.string (entOf l j).1, .int .i64 (entOf l j).2.1, .slice ka (entOf l j).2.2.length kc]] W fun e w' => ∃ v, e = .returned (.agg #[.string (entOf l j).1, .int .i64 (entOf l j).2.1, v]) ∧ Strs W.heap.size v (entOf l j).2.2 W w') := fun j hj ka kc W h => by
    obtain ⟨h1, h2, h3⟩ := hl.2.2 j hj
    exact copyOf_any _ _ ka _ kc _ W (by omega) rfl h (by omega) (fun k hk => Nat.le_trans (h3 k hk) (by omega))
  obtain ⟨Wa, hWa⟩ : ∃ Wa, Wa = w.alloc (.cells #[.string ⟨#[]⟩, .int .i64 0, .slice none 0 0] 30) := ⟨_, rfl⟩
  have HW : Hid (Wa = w.alloc (.cells #[.string ⟨#[]⟩, .int .i64 0, .slice none 0 0] 30)) := hWa
  have HWS : Hid (Wa.heap.size = w.heap.size + 1) := by rw [hWa]; show _ = _; simp
  have HF : Hid (∀ wr, Below Wa.heap.size Wa wr → wr.cell? ⟨w.heap.size, 0, none⟩ = some (.string ⟨#[]⟩) ∧ wr.cell? ⟨w.heap.size, 1, none⟩ = some (.int .i64 0) ∧ wr.cell? ⟨w.heap.size, 2, none⟩ = some (.slice none 0 0) ∧ Below w.heap.size w wr ∧ w.heap.size < wr.heap.size ∧ ∀ i, wr.frozen? ⟨w.heap.size, i, none⟩ = false) := by
    intro wr hb
    have e := HWS.out
    have hfz : ∀ i, wr.frozen? ⟨w.heap.size, i, none⟩ = false := fun i => by
      rw [hb.frozen (by show w.heap.size < _; omega), hWa]
      exact World.frozen?_alloc_at _ _ _ _ rfl
    rw [hWa] at hb
    obtain ⟨g0, g1, g2, g3, g4⟩ := ent_box hb
    exact ⟨g0, g1, g2, g3, g4, hfz⟩
  clear hl hl0 hc ht hhit hmiss hWa
  go_enter Tryd.func12, Tryd.ntmps12
  go_wp2_with fail
  rw [← HW.out]
  refine (hck.out _ (HL.out.below (B := w.heap.size) (by rw [HW.out]; exact (Below.refl _ _).alloc (Nat.le_refl _) _) (Nat.le_refl _))).mono ?_
  rintro e w1 ⟨rfl, hb1⟩
  clear hck
  go_wp2
  go_loopw [8, 17] (fun _ t17 wr => ∃ i : Nat, t17 = .int .i64 (i : Int) ∧ i ≤ n ∧ Below Wa.heap.size Wa wr ∧ Hid (∀ j, j < i → (entOf l j).1 ≠ path)) (fun _ t17 _ => n - (intOf t17).toNat)
  case atStart => exact ⟨0, rfl, Nat.zero_le _, hb1, fun j hj => by omega⟩
  case round =>
    obtain ⟨i, rfl, hi, hbr, HI⟩ := hrel
    clear hb1
    by_cases hin : i < n
    · obtain ⟨_, _, _, hbw, _, _⟩ := HF.out wr hbr
      obtain ⟨x, hx, g0, g1, ka, kc, g2, hk⟩ := (HL.out.below hbw (Nat.le_refl _)).at (j := i) (by rw [← HN.out]; exact hin)
      subst hx
      have hcc := hcp.out i hin ka kc
      have HHi := HH.out i hin
      have HI2 : Hid ((entOf l i).1 ≠ path → ∀ j, j < i + 1 → (entOf l j).1 ≠ path) := fun hq j hj => by
        by_cases hji : j = i
        · subst hji; exact hq
        · exact HI.out j (by omega)
      generalize entOf l i = en at g0 g1 g2 hk hcc HHi HI2
      obtain ⟨p, sz, ks⟩ := en
      have hix := index_ent x n cap i hin
      simp only at g0 g1 g2 hk hcc HHi HI2
      obtain ⟨kn, hkn⟩ : ∃ kn, kn = ks.length := ⟨_, rfl⟩
      have HK : Hid (kn = ks.length) := hkn
      rw [← hkn] at g2 hcc
      generalize x.add (i * 3) = q at g0 g1 g2 hix
      clear hkn
      by_cases hpq : p = path
      · subst hpq
        have HT : Hid (∀ v w', Strs w.heap.size v ks w w' → T (.returned (.tuple #[.agg #[.string p, .int .i64 sz, v], .nilIface])) w') := HHi rfl
        have HKL : Hid (Lies wr ka ks) := hk.1
        have HBR : Hid (Below Wa.heap.size Wa wr) := hbr
        clear HHi HI2 HI hk hbr hbw
        go_wp2_with fail
        refine (hcc _ (HKL.out.below ((Below.refl _ _).alloc (Nat.le_refl _) _) (Nat.le_refl _))).mono ?_
        rintro e w2 ⟨v, rfl, hst⟩
        obtain ⟨a3, cap3, rfl, _, _, _⟩ := hst.liesN HK.out
        have hb2 : Below Wa.heap.size Wa w2 := HBR.out.trans ((((Below.refl _ _).alloc (Nat.le_refl _) _).trans (hst.2.1.mono (by simp))).mono HBR.out.size)
        obtain ⟨d0, d1, d2, hbw2, hlt2, hfz⟩ := HF.out w2 hb2
        have f0 := hfz 0
        have f1 := hfz 1
        have f2 := hfz 2
        have HST : Hid (w2.ownsRow (w.heap.size + 1) 9 1 (.slice a3 kn cap3) ks.length (sv ks)) := own_mono hst.1 (by have h1 := HBR.out.size; have h2 := HWS.out; simp; omega)
        have HB2 : Hid (Below w.heap.size w w2) := hbw2
        clear hst hb2 hbw2 hfz hcc
        go_wp2
        refine bodyPost_ret (v := .tuple #[.agg #[.string p, .int .i64 sz, .slice a3 kn cap3], .nilIface]) (by simp [results, Tryd.results12, go_sem, d0, d1, d2]) rfl ?_
        refine HT.out _ _ ⟨?_, ((HB2.out.setCell (show w.heap.size ≤ w.heap.size from Nat.le_refl _) _).setCell (show w.heap.size ≤ w.heap.size from Nat.le_refl _) _).setCell (show w.heap.size ≤ w.heap.size from Nat.le_refl _) _, ?_⟩
        · exact own_mono (own_far (own_far (own_far HST.out (by omega)) (by omega)) (by omega)) (by omega)
        · have := HB2.out.size
          simp
          omega
      · have hne := ne_text hpq
        have HI3 : Hid (∀ j, j < i + 1 → (entOf l j).1 ≠ path) := HI2.out hpq
        have HBR : Hid (Below Wa.heap.size Wa wr) := hbr
        clear HHi HI2 HI hk hcc hpq hbr hbw
        go_wp2
        go_roundw
        case rel => exact ⟨i + 1, by go_num, by omega, HBR.out.alloc HBR.out.size _, HI3⟩
        case measure => simp [intOf]; omega
    · obtain ⟨d0, d1, d2, hbw2, hlt2, hfz⟩ := HF.out wr hbr
      have f0 := hfz 0
      have f1 := hfz 1
      have f2 := hfz 2
      have HB2 : Hid (Below w.heap.size w wr) := hbw2
      have HT : Hid (∀ w', Below w.heap.size w w' → T (.returned (.tuple #[.agg #[.string ⟨#[]⟩, .int .i64 0, .slice none 0 0], .iface 39 (.int .i64 3)])) w') := HM.out (fun k hk => HI.out k (by omega))
      clear hbw2 hfz HI hbr
      go_wp2
      refine bodyPost_ret (v := .tuple #[.agg #[.string ⟨#[]⟩, .int .i64 0, .slice none 0 0], .iface 39 (.int .i64 3)]) (by simp [results, Tryd.results12, go_sem, d0, d1, d2]) rfl ?_
      exact HT.out _ (((HB2.out.setCell (show w.heap.size ≤ w.heap.size from Nat.le_refl _) _).setCell (show w.heap.size ≤ w.heap.size from Nat.le_refl _) _).setCell (show w.heap.size ≤ w.heap.size from Nat.le_refl _) _)
end Go.Proofs.YtcjkficpiedpfaaDoor.Tree
