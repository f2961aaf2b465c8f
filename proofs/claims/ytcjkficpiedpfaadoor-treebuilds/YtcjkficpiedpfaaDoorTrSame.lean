/-
  Are two entries, or two rows of them, the same: the law's 'Same' and 'SameAll'; what a row that a call owns reads as.
-/
import Derived.Test.YtcjkficpiedpfaaDoorTrRow
import Derived.Test.YtcjkficpiedpfaaDoorTrFind
namespace Go.Proofs.YtcjkficpiedpfaaDoor.Tree
open Go.RowKit Route Chunk

theorem key_lies {B : Nat} {w : World} {v : Value} {l : List ByteArray} (h : w.ownsRow B 9 1 v l.length (sv l)) : ∃ a cap, v = .slice a l.length cap ∧ KeysIn w a cap l := by
  rcases h.2 with ⟨rfl, hn⟩ | ⟨g, cap, cur, rfl, hb, hg, hnc, hcm, hcs, ht⟩
  · have : l = [] := List.eq_nil_of_length_eq_zero hn
    subst this
    exact ⟨none, 0, rfl, .inl rfl, Nat.le_refl _, Nat.zero_le _, fun _ => rfl⟩
  · refine ⟨_, cap, rfl, .inr ⟨_, rfl, fun j hj => ?_⟩, hnc, hcm, fun h => by cases h⟩
    rw [Go.WideShapes.add_plain, Nat.zero_add, h.cellAt j (by omega), sv_at l j hj]

theorem zOf_mem {Z : List ((ByteArray × Int × List ByteArray) × Value)} {j : Nat} (h : j < Z.length) : zOf Z j ∈ Z := by
  simp [zOf, List.getD_eq_getElem?_getD, h]
theorem zOf_map {Z : List ((ByteArray × Int × List ByteArray) × Value)} {j : Nat} (h : j < Z.length) : entOf (Z.map (·.1)) j = (zOf Z j).1 := by
  simp [zOf, entOf, List.getD_eq_getElem?_getD, h]

/-- What a row of entries reads as. -/
theorem Ents.lies {B : Nat} {v : Value} {Z : List ((ByteArray × Int × List ByteArray) × Value)} {W0 w : World} (h : Ents B v Z W0 w) : ∃ a cap, v = .slice a Z.length cap ∧ Z.length ≤ cap ∧ LiesE w a (Z.map (·.1)) := by
  rcases h.1.2 with ⟨rfl, hn⟩ | ⟨g, cap, cur, rfl, hb, hg, hnc, hcm, hcs, ht⟩
  · have : Z = [] := List.eq_nil_of_length_eq_zero hn
    subst this
    exact ⟨none, 0, rfl, Nat.le_refl _, .inl rfl⟩
  · refine ⟨_, cap, rfl, hnc, .inr ⟨_, rfl, fun j hj => ?_⟩⟩
    have hj' : j < Z.length := by simpa using hj
    have hk := h.2.2.2 _ (zOf_mem hj')
    have ez := enc_key hk
    have c : ∀ k, k < 3 → w.cell? ⟨g, j * 3 + k, none⟩ = (enc (zOf Z j))[k]? := fun k hk => by
      rw [h.1.cellAt (j * 3 + k) (by omega), cellsOf_at Z j k hj' hk]
    have c0 := c 0 (by omega)
    have c1 := c 1 (by omega)
    have c2 := c 2 (by omega)
    rw [ez] at c0 c1 c2
    rw [zOf_map hj', Go.WideShapes.add_plain, Nat.zero_add]
    obtain ⟨ka, kc, e, hkk⟩ := key_lies hk
    refine ⟨c0, c1, ka, kc, ?_, hkk⟩
    rw [← e]
    exact c2

theorem Ents.liesN {B n : Nat} {v : Value} {Z : List ((ByteArray × Int × List ByteArray) × Value)} {W0 w : World} (h : Ents B v Z W0 w) (hn : n = Z.length) : ∃ a cap, v = .slice a n cap ∧ n ≤ cap ∧ LiesE w a (Z.map (·.1)) := by
  subst hn; exact h.lies

set_option maxHeartbeats 4000000 in
set_option maxRecDepth 100000 in
theorem sameE_any (p p' : ByteArray) (sz sz' : Int) (ka ka' : Option Addr) (kn kn' kc kc' : Nat) (ks ks' : List ByteArray) (w : World) (hkn : kn = ks.length) (hk : Lies w ka ks) (hkn' : kn' = ks'.length) (hk' : Lies w ka' ks') (hm : kn ≤ 1000000) (hm' : kn' ≤ 1000000) :
    Calls Tryd.prog 16 #[.agg #[.string p, .int .i64 sz, .slice ka kn kc], .agg #[.string p', .int .i64 sz', .slice ka' kn' kc']] w fun e w' => e = .returned (.bool (decide (p = p' ∧ sz = sz' ∧ ks = ks'))) ∧ Below w.heap.size w w' := by
  have hs : Hid (∀ W, Below w.heap.size w W → Calls Tryd.prog 17 #[.slice ka kn kc, .slice ka' kn' kc'] W fun e w' => e = .returned (.bool (decide (ks = ks'))) ∧ Below W.heap.size W w') := fun W hb => Chunk.same_any ka ks kn kc ka' ks' kn' kc' W hkn (hk.below hb (Nat.le_refl _)) hkn' (hk'.below hb (Nat.le_refl _)) (by omega) (by omega)
  clear hkn hk hkn' hk'
  by_cases hp : p = p'
  · subst hp
    by_cases hz : sz = sz'
    · subst hz
      have e : decide (p = p ∧ sz = sz ∧ ks = ks') = decide (ks = ks') := decide_eq_decide.2 ⟨fun h => h.2.2, fun h => ⟨rfl, rfl, h⟩⟩
      rw [e]
      generalize decide (ks = ks') = r at hs
      clear e
      go_enter Tryd.func16, Tryd.ntmps16
      go_wp2_with (go_at_call 17; refine (hs.out _ (((Below.refl _ _).alloc (Nat.le_refl _) _).alloc (by simp) _)).mono ?_; rintro e w1 ⟨rfl, hb1⟩)
      all_goals
        go_ret
        exact ⟨by simp_all, (((Below.refl w.heap.size w).alloc (Nat.le_refl _) _).alloc (by simp) _).trans (hb1.mono (by simp; omega))⟩
    · have e : decide (p = p ∧ sz = sz' ∧ ks = ks') = false := decide_eq_false (fun h => hz h.2.1)
      rw [e]
      have hd : (sz == sz') = false := by simp [hz]
      clear e hz
      go_enter Tryd.func16, Tryd.ntmps16
      go_wp2
      go_ret
      exact ⟨rfl, ((Below.refl w.heap.size w).alloc (Nat.le_refl _) _).alloc (by simp) _⟩
  · have e : decide (p = p' ∧ sz = sz' ∧ ks = ks') = false := decide_eq_false (fun h => hp h.1)
    rw [e]
    have hd := ne_text hp
    clear e hp
    go_enter Tryd.func16, Tryd.ntmps16
    go_wp2
    go_ret
    exact ⟨rfl, ((Below.refl w.heap.size w).alloc (Nat.le_refl _) _).alloc (by simp) _⟩

set_option maxHeartbeats 4000000 in
set_option maxRecDepth 100000 in
theorem sameAll_yes (a a' : Option Addr) (n cap cap' : Nat) (l : List (ByteArray × Int × List ByteArray)) (w : World) (hn0 : n = l.length) (hl : LiesE w a l) (hl' : LiesE w a' l) (hnm : n ≤ 1000) (hks : ∀ j, j < n → (entOf l j).2.2.length ≤ 1000000) :
    Calls Tryd.prog 21 #[.slice a n cap, .slice a' n cap'] w fun e w' => e = .returned (.bool true) ∧ Below w.heap.size w w' := by
  have HN : Hid (n = l.length) := hn0
  have HL : Hid (LiesE w a l) := hl
  have HL' : Hid (LiesE w a' l) := hl'
  have HS : Hid (∀ j, j < n → ∀ (ka ka' : Option Addr) (kc kc' : Nat) W, Lies W ka (entOf l j).2.2 → Lies W ka' (entOf l j).2.2 → Calls Tryd.prog 16 #[.agg #[.string (entOf l j).1, .int .i64 (entOf l j).2.1, .slice ka (entOf l j).2.2.length kc], .agg #[.string (entOf l j).1, .int .i64 (entOf l j).2.1, .slice ka' (entOf l j).2.2.length kc']] W fun e w' => e = .returned (.bool true) ∧ Below W.heap.size W w') := by
    intro j hj ka ka' kc kc' W h1 h2
    have := sameE_any (entOf l j).1 (entOf l j).1 (entOf l j).2.1 (entOf l j).2.1 ka ka' _ _ kc kc' _ _ W rfl h1 rfl h2 (hks j hj) (hks j hj)
    rw [decide_eq_true ⟨rfl, rfl, rfl⟩] at this
    exact this
  clear hn0 hl hl' hks
  go_enter Tryd.func21, Tryd.ntmps21
  go_wp2
  go_loopw [4, 5] (fun t4 t5 wr => ∃ i : Nat, t4 = .bool false ∧ t5 = .int .i64 (i : Int) ∧ i ≤ n ∧ Below w.heap.size w wr) (fun _ t5 _ => n - (intOf t5).toNat)
  case atStart => exact ⟨0, rfl, rfl, Nat.zero_le _, Below.refl _ _⟩
  case round =>
    obtain ⟨i, rfl, rfl, hi, hbr⟩ := hrel
    by_cases hin : i < n
    · obtain ⟨x, hx, g0, g1, ka, kc, g2, hk⟩ := (HL.out.below hbr (Nat.le_refl _)).at (j := i) (by rw [← HN.out]; exact hin)
      obtain ⟨x', hx', g0', g1', ka', kc', g2', hk'⟩ := (HL'.out.below hbr (Nat.le_refl _)).at (j := i) (by rw [← HN.out]; exact hin)
      subst hx
      subst hx'
      have hsm := HS.out i hin ka ka' kc kc'
      generalize entOf l i = en at g0 g1 g2 hk g0' g1' g2' hk' hsm
      obtain ⟨p, sz, ks⟩ := en
      have hix := index_ent x n cap i hin
      have hix' := index_ent x' n cap' i hin
      simp only at g0 g1 g2 hk g0' g1' g2' hk' hsm
      generalize ks.length = kn at g2 g2' hsm
      generalize x.add (i * 3) = q at g0 g1 g2 hix
      generalize x'.add (i * 3) = q' at g0' g1' g2' hix'
      have HR : Hid (∀ W, (Below wr.heap.size wr W ∧ (W.cell? q = some (.string p) ∧ W.cell? ⟨q.block, q.off + 1, none⟩ = some (.int .i64 sz) ∧ W.cell? ⟨q.block, q.off + 2, none⟩ = some (.slice ka kn kc)) ∧ W.cell? q' = some (.string p) ∧ W.cell? ⟨q'.block, q'.off + 1, none⟩ = some (.int .i64 sz) ∧ W.cell? ⟨q'.block, q'.off + 2, none⟩ = some (.slice ka' kn kc')) →
          Calls Tryd.prog 16 #[.agg #[.string p, .int .i64 sz, .slice ka kn kc], .agg #[.string p, .int .i64 sz, .slice ka' kn kc']] W fun e w' => e = .returned (.bool true) ∧ (Below wr.heap.size wr w' ∧ (w'.cell? q = some (.string p) ∧ w'.cell? ⟨q.block, q.off + 1, none⟩ = some (.int .i64 sz) ∧ w'.cell? ⟨q.block, q.off + 2, none⟩ = some (.slice ka kn kc)) ∧ w'.cell? q' = some (.string p) ∧ w'.cell? ⟨q'.block, q'.off + 1, none⟩ = some (.int .i64 sz) ∧ w'.cell? ⟨q'.block, q'.off + 2, none⟩ = some (.slice ka' kn kc'))) := by
        rintro W ⟨b0, ⟨d0, d1, d2⟩, e0, e1, e2⟩
        refine (hsm W (hk.1.below b0 (Nat.le_refl _)) (hk'.1.below b0 (Nat.le_refl _))).mono ?_
        rintro e w' ⟨rfl, hb⟩
        exact ⟨rfl, b0.trans (hb.mono b0.size), ⟨cell_kept hb d0, cell_kept hb d1, cell_kept hb d2⟩, cell_kept hb e0, cell_kept hb e1, cell_kept hb e2⟩
      have HBR : Hid (Below w.heap.size w wr) := hbr
      clear hsm hk hk' hbr
      go_wp2_with fail
      go_region_held (fun W => (Below wr.heap.size wr W ∧ (W.cell? q = some (.string p) ∧ W.cell? ⟨q.block, q.off + 1, none⟩ = some (.int .i64 sz) ∧ W.cell? ⟨q.block, q.off + 2, none⟩ = some (.slice ka kn kc)) ∧ W.cell? q' = some (.string p) ∧ W.cell? ⟨q'.block, q'.off + 1, none⟩ = some (.int .i64 sz) ∧ W.cell? ⟨q'.block, q'.off + 2, none⟩ = some (.slice ka' kn kc')))
        (first | assumption | exact ⟨(Below.refl _ _).drew, ⟨by simpa using g0, by simpa using g1, by simpa using g2⟩, by simpa using g0', by simpa using g1', by simpa using g2'⟩)
        (first | (go_at_call 16; refine (HR.out _ (by assumption)).mono ?_; rintro e w2 ⟨rfl, hb2⟩))
      all_goals
        have HB2 : Hid (Below w.heap.size w w2) := HBR.out.trans (hb2.1.mono HBR.out.size)
        clear hb2 HR
        go_wp2
        go_roundw
        case rel => exact ⟨i + 1, rfl, by go_num, by omega, HB2.out⟩
        case measure => simp [intOf]; omega
    · go_wp2
      go_ret
      exact ⟨rfl, hbr⟩
end Go.Proofs.YtcjkficpiedpfaaDoor.Tree
