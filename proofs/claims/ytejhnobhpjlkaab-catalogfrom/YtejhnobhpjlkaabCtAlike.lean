/-
  The answer's Alike of two answers that read alike.
-/
import Derived.Test.YtejhnobhpjlkaabCtFew
namespace Go.Proofs.Ytejhnobhpjlkaab.Cat
open Go.RowKit Route Tree Order

set_option maxHeartbeats 4000000 in
set_option maxRecDepth 100000 in
theorem alike_yes {B1 B2 : Nat} {x : Ans} {w : World} (hx : AFew x) (y z : An) (h1 : AnsV B1 x (.returned y.val) w) (h2 : AnsV B2 x (.returned z.val) w) :
    Calls Try.prog 11 #[.agg #[.int .i64 y.a, .int .i64 y.b, .slice y.s2 y.n2 y.c2, .slice y.s3 y.n3 y.c3, .slice y.s4 y.n4 y.c4], .agg #[.int .i64 z.a, .int .i64 z.b, .slice z.s2 z.n2 z.c2, .slice z.s3 z.n3 z.c3, .slice z.s4 z.n4 z.c4]] w fun e w' => e = .returned (.bool true) ∧ Below w.heap.size w w' := by
  obtain ⟨e1, e2, z1, z2, z3, r2, r3, Y, hY, r4⟩ := h1.parts
  obtain ⟨f1, f2, z4, z5, z6, q2, q3, X, hX, q4⟩ := h2.parts
  clear z1 z2 z3 z4 z5 z6
  obtain ⟨ya, yb, s2, n2, c2, s3, n3, c3, s4, n4, c4⟩ := y
  obtain ⟨za, zb, t2, m2, d2, t3, m3, d3, t4, m4, d4⟩ := z
  simp only at e1 e2 r2 r3 r4 f1 f2 q2 q3 q4
  obtain ⟨l2, i2⟩ := texts_read r2
  obtain ⟨l3, i3⟩ := texts_read r3
  obtain ⟨l4, i4⟩ := ents_read hY r4
  obtain ⟨k2, j2⟩ := texts_read q2
  obtain ⟨k3, j3⟩ := texts_read q3
  obtain ⟨k4, j4⟩ := ents_read hX q4
  subst e1; subst e2
  obtain rfl : za = _ := f1
  obtain rfl : zb = _ := f2
  have H2 : Hid (∀ W, Below w.heap.size w W → Calls Try.prog 28 #[.slice s2 n2 c2, .slice t2 m2 d2] W fun e w' => e = .returned (.bool true) ∧ Below W.heap.size W w') := fun W hb => by
    have := Order.sameL_any s2 x.names n2 c2 t2 x.names m2 d2 W l2 (i2.below hb (Nat.le_refl _)) k2 (j2.below hb (Nat.le_refl _)) (by have := hx.names; omega) (by have := hx.names; omega)
    rw [decide_eq_true rfl] at this
    exact this
  have H3 : Hid (∀ W, Below w.heap.size w W → Calls Try.prog 28 #[.slice s3 n3 c3, .slice t3 m3 d3] W fun e w' => e = .returned (.bool true) ∧ Below W.heap.size W w') := fun W hb => by
    have := Order.sameL_any s3 x.keys n3 c3 t3 x.keys m3 d3 W l3 (i3.below hb (Nat.le_refl _)) k3 (j3.below hb (Nat.le_refl _)) (by have := hx.keys; omega) (by have := hx.keys; omega)
    rw [decide_eq_true rfl] at this
    exact this
  have H4 : Hid (∀ W, Below w.heap.size w W → Calls Try.prog 29 #[.slice s4 n4 c4, .slice t4 m4 d4] W fun e w' => e = .returned (.bool true) ∧ Below W.heap.size W w') := fun W hb => by
    obtain rfl : m4 = n4 := k4.trans l4.symm
    exact sameAll_yes s4 t4 m4 c4 d4 x.ents W l4 (i4.below hb (Nat.le_refl _)) (j4.below hb (Nat.le_refl _)) (by have := hx.ents; omega) (fun j hj => by have := hx.each (entOf x.ents j) (by simp [entOf, List.getD_eq_getElem?_getD, show j < x.ents.length by omega]); omega)
  have HW : Hid (Below w.heap.size w ((w.alloc (.cells #[.int .i64 (x.code : Int), .int .i64 x.n, .slice s2 n2 c2, .slice s3 n3 c3, .slice s4 n4 c4] 30)).alloc (.cells #[.int .i64 (x.code : Int), .int .i64 x.n, .slice t2 m2 d2, .slice t3 m3 d3, .slice t4 m4 d4] 30))) := ((Below.refl _ _).alloc (Nat.le_refl _) _).alloc (by simp) _
  clear r2 r3 r4 q2 q3 q4 l2 i2 l3 i3 l4 i4 k2 j2 k3 j3 k4 j4 hY hX h1 h2 hx
  generalize (x.code : Int) = xa at *
  generalize x.n = xb at *
  have HC : Hid (∀ W, Below ((w.alloc (.cells #[.int .i64 xa, .int .i64 xb, .slice s2 n2 c2, .slice s3 n3 c3, .slice s4 n4 c4] 30)).alloc (.cells #[.int .i64 xa, .int .i64 xb, .slice t2 m2 d2, .slice t3 m3 d3, .slice t4 m4 d4] 30)).heap.size ((w.alloc (.cells #[.int .i64 xa, .int .i64 xb, .slice s2 n2 c2, .slice s3 n3 c3, .slice s4 n4 c4] 30)).alloc (.cells #[.int .i64 xa, .int .i64 xb, .slice t2 m2 d2, .slice t3 m3 d3, .slice t4 m4 d4] 30)) W →
      (W.cell? ⟨w.heap.size, 3, none⟩ = some (.slice s3 n3 c3) ∧ W.cell? ⟨w.heap.size, 4, none⟩ = some (.slice s4 n4 c4) ∧ W.cell? ⟨w.heap.size + 1, 3, none⟩ = some (.slice t3 m3 d3) ∧ W.cell? ⟨w.heap.size + 1, 4, none⟩ = some (.slice t4 m4 d4)) ∧ Hid (Below w.heap.size w W)) := fun W hb =>
    ⟨⟨cell_kept hb (by simp), cell_kept hb (by simp), cell_kept hb (by simp), cell_kept hb (by simp)⟩, HW.out.trans (hb.mono HW.out.size)⟩
  go_enter Try.func11, Try.ntmps11
  go_wp2_with fail
  refine (H2.out _ HW.out).mono ?_
  rintro e w1 ⟨rfl, hb1⟩
  have HB1 : Hid (Below _ _ w1) := hb1
  obtain ⟨⟨a3, a4, b3, b4⟩, HX1⟩ := HC.out w1 hb1
  clear hb1
  go_wp2_with fail
  refine (H3.out _ HX1.out).mono ?_
  rintro e w2 ⟨rfl, hb2⟩
  have HB2 : Hid (Below _ _ w2) := HB1.out.trans (hb2.mono HB1.out.size)
  clear hb2 a3 a4 b3 b4 HX1
  obtain ⟨⟨a3, a4, b3, b4⟩, HX2⟩ := HC.out w2 HB2.out
  go_wp2_with fail
  refine (H4.out _ HX2.out).mono ?_
  rintro e w3 ⟨rfl, hb3⟩
  have HB3 : Hid (Below w.heap.size w w3) := HX2.out.trans (hb3.mono HX2.out.size)
  clear hb3
  go_wp2
  go_ret
  exact ⟨rfl, HB3.out⟩
end Go.Proofs.Ytejhnobhpjlkaab.Cat
