/-
  The head of all laws.
-/
import Derived.Test.YtejhnobhpjlkaaaCtLaw2
namespace Go.Proofs.Ytejhnobhpjlkaaa.Cat
open Go.RowKit Route Tree Order

theorem bare_of {B c : Nat} {y : An} {w : World} (h : AnsV B (no c) (.returned y.val) w) : y.a = (c : Int) ∧ y.b = 0 := by
  obtain ⟨_, _, _, _, he, _⟩ := h
  simp [no] at he
  exact ⟨he.1, he.2.1⟩

set_option maxHeartbeats 4000000 in
set_option maxRecDepth 100000 in
theorem up_any (w : World) : Calls Try.prog 8 #[] w fun e w' => e = .returned (.bool true) ∧ Below w.heap.size w w' := by
  go_enter Try.func8, Try.ntmps8
  go_wp2_with fail
  refine (new_any w).mono ?_
  rintro e w1 ⟨rfl, hw1⟩
  have hC0 : Cat w.heap.size w.heap.size (.slice none 0 0) [] w1 := by rw [hw1]; exact cat_new (Nat.le_refl _)
  have hb0 : Below w.heap.size w w1 := by rw [hw1]; exact (Below.refl _ _).alloc (Nat.le_refl _) _
  have HC0 : Hid (Cat w.heap.size w.heap.size (.slice none 0 0) [] w1) := hC0
  have HB0 : Hid (Below w.heap.size w w1) := hb0
  have HD1 : Hid (Calls _ _ _ _ _) := do_law (c := 0) (k := 1) (m := 0) (nm := ⟨#[115]⟩) (pt := ⟨#[]⟩) (ks := []) hC0 hb0.size Inv.nil (by simp) (by decide) (by decide) (keys_none w1) (.inl (by decide))
  clear hw1 hC0 hb0
  go_wp2_with fail
  refine HD1.out.mono ?_
  rintro e w2 ⟨⟨a, b, s2, n2, c2, s3, n3, c3, s4, n4, c4⟩, v2, Z2, rfl, hN, hZ, hA⟩
  clear HD1
  have e1 : (step (List.map snapOf []) ⟨0, 1, 1, 0, ⟨#[115]⟩, ⟨#[]⟩, []⟩) = _ := step_begin
  have hA1 := hA.out
  have hZ1 := hZ.out
  rw [e1] at hA1 hZ1
  have ha : a = 0 := by simpa using (bare_of hA1).1
  subst ha
  have hC1 := hN.out.cat.below ((Below.refl w2.heap.size w2).alloc (Nat.le_refl _) (.cells #[.int .i64 0, .int .i64 b, .slice s2 n2 c2, .slice s3 n3 c3, .slice s4 n4 c4] 30))
  have hb1 : Below w.heap.size w (w2.alloc (.cells #[.int .i64 0, .int .i64 b, .slice s2 n2 c2, .slice s3 n3 c3, .slice s4 n4 c4] 30)) := (HB0.out.trans (hN.out.under HC0.out HB0.out.size)).alloc (Nat.le_trans HB0.out.size hN.out.turn.size) _
  have HX1 : Hid ((w2.alloc (.cells #[.int .i64 0, .int .i64 b, .slice s2 n2 c2, .slice s3 n3 c3, .slice s4 n4 c4] 30)).heap[w2.heap.size]? = some (.cells #[.int .i64 0, .int .i64 b, .slice s2 n2 c2, .slice s3 n3 c3, .slice s4 n4 c4] 30)) := heap_alloc_new w2 _
  have HD2 : Hid (Calls _ _ _ _ _) := do_law (c := 0) (k := 3) (m := 0) (nm := ⟨#[115]⟩) (pt := ⟨#[]⟩) (ks := []) hC1 hb1.size hZ1.2 (by have := inv_len hZ1.2; simpa using this) (by decide) (by decide) (keys_none _) (.inl (by decide))
  rw [hZ1.1] at HD2
  have e2 := step_commit
  simp only [e2] at HD2
  have HC1 : Hid (Cat w.heap.size w.heap.size v2 Z2 (w2.alloc (.cells #[.int .i64 0, .int .i64 b, .slice s2 n2 c2, .slice s3 n3 c3, .slice s4 n4 c4] 30))) := hC1
  have HB1 : Hid (Below w.heap.size w (w2.alloc (.cells #[.int .i64 0, .int .i64 b, .slice s2 n2 c2, .slice s3 n3 c3, .slice s4 n4 c4] 30))) := hb1
  clear hC1 hb1 hA hZ hN hA1 hZ1 HC0 HB0 e1 e2
  go_wp2_with fail
  refine HD2.out.mono ?_
  rintro e w3 ⟨⟨ax, bx, s2x, n2x, c2x, s3x, n3x, c3x, s4x, n4x, c4x⟩, v3, Z3, rfl, hN, hZ, hA⟩
  clear HD2
  have ha : ax = 0 := by simpa using (bare_of hA.out).1
  subst ha
  have hZ1 := hZ.out
  have HX1' : Hid ((w3.alloc (.cells #[.int .i64 0, .int .i64 bx, .slice s2x n2x c2x, .slice s3x n3x c3x, .slice s4x n4x c4x] 30)).heap[w2.heap.size]? = some (.cells #[.int .i64 0, .int .i64 b, .slice s2 n2 c2, .slice s3 n3 c3, .slice s4 n4 c4] 30)) := by
    have h1 := hN.out.stay HC1.out HX1.out (by decide) (by decide) (by decide)
    have h2 := h1.trans HX1.out
    exact (((Below.refl w3.heap.size w3).alloc (Nat.le_refl _) _).block _ (Array.getElem?_eq_some_iff.1 h2).1).trans h2
  have hC1 := hN.out.cat.below ((Below.refl w3.heap.size w3).alloc (Nat.le_refl _) (.cells #[.int .i64 0, .int .i64 bx, .slice s2x n2x c2x, .slice s3x n3x c3x, .slice s4x n4x c4x] 30))
  have hb1 : Below w.heap.size w (w3.alloc (.cells #[.int .i64 0, .int .i64 bx, .slice s2x n2x c2x, .slice s3x n3x c3x, .slice s4x n4x c4x] 30)) := (HB1.out.trans (hN.out.under HC1.out HB1.out.size)).alloc (Nat.le_trans HB1.out.size hN.out.turn.size) _
  have HX2 : Hid ((w3.alloc (.cells #[.int .i64 0, .int .i64 bx, .slice s2x n2x c2x, .slice s3x n3x c3x, .slice s4x n4x c4x] 30)).heap[w3.heap.size]? = some (.cells #[.int .i64 0, .int .i64 bx, .slice s2x n2x c2x, .slice s3x n3x c3x, .slice s4x n4x c4x] 30)) := heap_alloc_new w3 _
  have HD3 : Hid (Calls _ _ _ _ _) := do_law (c := 0) (k := 5) (m := 0) (nm := ⟨#[]⟩) (pt := ⟨#[]⟩) (ks := []) hC1 hb1.size hZ1.2 (by have := inv_len hZ1.2; simpa using this) (by decide) (by decide) (keys_none _) (.inl (by decide))
  rw [hZ1.1] at HD3
  have e2 := step_list
  simp only [e2] at HD3
  have HC2 : Hid (Cat w.heap.size w.heap.size v3 Z3 (w3.alloc (.cells #[.int .i64 0, .int .i64 bx, .slice s2x n2x c2x, .slice s3x n3x c3x, .slice s4x n4x c4x] 30))) := hC1
  have HB2 : Hid (Below w.heap.size w (w3.alloc (.cells #[.int .i64 0, .int .i64 bx, .slice s2x n2x c2x, .slice s3x n3x c3x, .slice s4x n4x c4x] 30))) := hb1
  clear hC1 hb1 hA hZ hN hZ1 HC1 HB1 HX1 e2
  go_wp2_with fail
  refine HD3.out.mono ?_
  rintro e w4 ⟨⟨ay, bY, s2y, n2y, c2y, s3y, n3y, c3y, s4y, n4y, c4y⟩, v4, Z4, rfl, hN, hZ, hA⟩
  clear HD3
  have hZ1 := hZ.out
  have HX1 : Hid ((w4.alloc (.cells #[.int .i64 ay, .int .i64 bY, .slice s2y n2y c2y, .slice s3y n3y c3y, .slice s4y n4y c4y] 30)).heap[w2.heap.size]? = some (.cells #[.int .i64 0, .int .i64 b, .slice s2 n2 c2, .slice s3 n3 c3, .slice s4 n4 c4] 30)) := by
    have h1 := hN.out.stay HC2.out HX1'.out (by decide) (by decide) (by decide)
    have h2 := h1.trans HX1'.out
    exact (((Below.refl w4.heap.size w4).alloc (Nat.le_refl _) _).block _ (Array.getElem?_eq_some_iff.1 h2).1).trans h2
  have HX2' : Hid ((w4.alloc (.cells #[.int .i64 ay, .int .i64 bY, .slice s2y n2y c2y, .slice s3y n3y c3y, .slice s4y n4y c4y] 30)).heap[w3.heap.size]? = some (.cells #[.int .i64 0, .int .i64 bx, .slice s2x n2x c2x, .slice s3x n3x c3x, .slice s4x n4x c4x] 30)) := by
    have h1 := hN.out.stay HC2.out HX2.out (by decide) (by decide) (by decide)
    have h2 := h1.trans HX2.out
    exact (((Below.refl w4.heap.size w4).alloc (Nat.le_refl _) _).block _ (Array.getElem?_eq_some_iff.1 h2).1).trans h2
  have hC1 := hN.out.cat.below ((Below.refl w4.heap.size w4).alloc (Nat.le_refl _) (.cells #[.int .i64 ay, .int .i64 bY, .slice s2y n2y c2y, .slice s3y n3y c3y, .slice s4y n4y c4y] 30))
  have hb1 : Below w.heap.size w (w4.alloc (.cells #[.int .i64 ay, .int .i64 bY, .slice s2y n2y c2y, .slice s3y n3y c3y, .slice s4y n4y c4y] 30)) := (HB2.out.trans (hN.out.under HC2.out HB2.out.size)).alloc (Nat.le_trans HB2.out.size hN.out.turn.size) _
  have HX3 : Hid ((w4.alloc (.cells #[.int .i64 ay, .int .i64 bY, .slice s2y n2y c2y, .slice s3y n3y c3y, .slice s4y n4y c4y] 30)).heap[w4.heap.size]? = some (.cells #[.int .i64 ay, .int .i64 bY, .slice s2y n2y c2y, .slice s3y n3y c3y, .slice s4y n4y c4y] 30)) := heap_alloc_new w4 _
  have HROW : Hid ((w4.alloc (.cells #[.int .i64 ay, .int .i64 bY, .slice s2y n2y c2y, .slice s3y n3y c3y, .slice s4y n4y c4y] 30)).ownsRow (w3.alloc (.cells #[.int .i64 0, .int .i64 bx, .slice s2x n2x c2x, .slice s3x n3x c3x, .slice s4x n4x c4x] 30)).heap.size 9 1 (.slice s2y n2y c2y) 1 [.string ⟨#[115]⟩]) := by
    obtain ⟨nv, kv, ev, Y, he, h1, _⟩ := hA.out
    simp at he
    obtain ⟨_, _, rfl, _⟩ := he
    exact own30_later h1 ((Below.refl w4.heap.size w4).alloc (Nat.le_refl _) _)
  have HD4 : Hid (Calls _ _ _ _ _) := do_law (c := 0) (k := 0) (m := 0) (nm := ⟨#[]⟩) (pt := ⟨#[]⟩) (ks := []) hC1 hb1.size hZ1.2 (by have := inv_len hZ1.2; simpa using this) (by decide) (by decide) (keys_none _) (.inl (by decide))
  rw [hZ1.1] at HD4
  simp only [step_none] at HD4
  have HC3 : Hid (Cat w.heap.size w.heap.size v4 Z4 (w4.alloc (.cells #[.int .i64 ay, .int .i64 bY, .slice s2y n2y c2y, .slice s3y n3y c3y, .slice s4y n4y c4y] 30))) := hC1
  have HB3 : Hid (Below w.heap.size w (w4.alloc (.cells #[.int .i64 ay, .int .i64 bY, .slice s2y n2y c2y, .slice s3y n3y c3y, .slice s4y n4y c4y] 30))) := hb1
  clear hC1 hb1 hA hZ hN hZ1 HC2 HB2 HX1' HX2
  go_wp2_with fail
  refine HD4.out.mono ?_
  rintro e w5 ⟨⟨az, bz, s2z, n2z, c2z, s3z, n3z, c3z, s4z, n4z, c4z⟩, v5, Z5, rfl, hN, hZ, hA⟩
  clear HD4
  have ha : az = 1 := by simpa using (bare_of hA.out).1
  subst ha
  have hb5 : Below w.heap.size w (w5.alloc (.cells #[.int .i64 1, .int .i64 bz, .slice s2z n2z c2z, .slice s3z n3z c3z, .slice s4z n4z c4z] 30)) := (HB3.out.trans (hN.out.under HC3.out HB3.out.size)).alloc (Nat.le_trans HB3.out.size hN.out.turn.size) _
  have hal : Below w5.heap.size w5 (w5.alloc (.cells #[.int .i64 1, .int .i64 bz, .slice s2z n2z c2z, .slice s3z n3z c3z, .slice s4z n4z c4z] 30)) := (Below.refl w5.heap.size w5).alloc (Nat.le_refl _) _
  have hst : ∀ {k : Nat} {c : Array Value}, (w4.alloc (.cells #[.int .i64 ay, .int .i64 bY, .slice s2y n2y c2y, .slice s3y n3y c3y, .slice s4y n4y c4y] 30)).heap[k]? = some (.cells c 30 (0, 0)) → (w5.alloc (.cells #[.int .i64 1, .int .i64 bz, .slice s2z n2z c2z, .slice s3z n3z c3z, .slice s4z n4z c4z] 30)).heap[k]? = some (.cells c 30 (0, 0)) := fun {k c} hk => by
    have h2 := (hN.out.stay HC3.out hk (by decide) (by decide) (by decide)).trans hk
    exact (hal.block _ (Array.getElem?_eq_some_iff.1 h2).1).trans h2
  have x1 := hst HX1.out
  have x2 := hst HX2'.out
  have x3 := hst HX3.out
  have hrow := own30_later (hN.out.keep HC3.out HROW.out (by decide) (by decide) (by decide)) hal
  have q1 : (w5.alloc (.cells #[.int .i64 1, .int .i64 bz, .slice s2z n2z c2z, .slice s3z n3z c3z, .slice s4z n4z c4z] 30)).cell? ⟨w2.heap.size, 0, none⟩ = some (.int .i64 0) := by rw [cell_of_row _ _ 0 _ _ (0, 0) x1]; rfl
  have q2 : (w5.alloc (.cells #[.int .i64 1, .int .i64 bz, .slice s2z n2z c2z, .slice s3z n3z c3z, .slice s4z n4z c4z] 30)).cell? ⟨w3.heap.size, 0, none⟩ = some (.int .i64 0) := by rw [cell_of_row _ _ 0 _ _ (0, 0) x2]; rfl
  have q3 : (w5.alloc (.cells #[.int .i64 1, .int .i64 bz, .slice s2z n2z c2z, .slice s3z n3z c3z, .slice s4z n4z c4z] 30)).cell? ⟨w4.heap.size, 2, none⟩ = some (.slice s2y n2y c2y) := by rw [cell_of_row _ _ 2 _ _ (0, 0) x3]; rfl
  have hq : ∃ g, s2y = some ⟨g, 0, none⟩ ∧ n2y = 1 ∧ (w5.alloc (.cells #[.int .i64 1, .int .i64 bz, .slice s2z n2z c2z, .slice s3z n3z c3z, .slice s4z n4z c4z] 30)).cell? ⟨g, 0, none⟩ = some (.string ⟨#[115]⟩) := by
    rcases hrow.2 with ⟨_, h0⟩ | ⟨g, cap, cur, e, _, hg, _⟩
    · simp at h0
    · simp at e
      obtain ⟨rfl, rfl, rfl⟩ := e
      refine ⟨g, rfl, rfl, ?_⟩
      have := hrow.cellAt 0 (by decide)
      simpa using this
  obtain ⟨g, rfl, rfl, q4⟩ := hq
  have HB5 : Hid (Below w.heap.size w (w5.alloc (.cells #[.int .i64 1, .int .i64 bz, .slice s2z n2z c2z, .slice s3z n3z c3z, .slice s4z n4z c4z] 30))) := hb5
  clear hb5 hal hst x1 x2 x3 hrow hN hZ hA HC3 HB3 HX1 HX2' HX3 HROW
  go_wp2
  exact bodyPost_ret (v := .bool true) (by simp [results, Try.results8, go_sem]) rfl ⟨rfl, HB5.out⟩
end Go.Proofs.Ytejhnobhpjlkaaa.Cat
