/-
  What the laws' walks are told of the arguments: deeds that came in.
-/
import Derived.Test.YtlpgdfdadkljfaaGreatCtShort
import Derived.ProofKit
import Derived.OpenShut
import Derived.ShutString
import Derived.ChangeOld
import Derived.ChangeSame
import Derived.Below
import Derived.SliceStrings
import Derived.Deep.Slices
namespace Go.Proofs.YtlpgdfdadkljfaaGreat
open Go.ChangeShapes Go.WideShapes Go.ChangeAt Go.RowKit Go.Deep Order Cat

theorem own : ownKnob Tryz.prog.godebug = none := by kernel_rfl
theorem laidOut : laidOutB Tryz.prog = true := by kernel_rfl

theorem list_of {α : Type} (d : α) {P : Nat → α → Prop} : ∀ n, (∀ j, j < n → ∃ r, P j r) → ∃ L : List α, n = L.length ∧ ∀ j, j < n → P j (L.getD j d)
  | 0, _ => ⟨[], rfl, fun j hj => by omega⟩
  | n + 1, h => by
    obtain ⟨L, hl, hL⟩ := list_of d n fun j hj => h j (by omega)
    obtain ⟨r, hr⟩ := h n (by omega)
    refine ⟨L ++ [r], by simp [hl], fun j hj => ?_⟩
    by_cases e : j < n
    · have := hL j e
      simpa [List.getD_eq_getElem?_getD, List.getElem?_append_left (show j < L.length by omega)] using this
    · obtain rfl : j = n := by omega
      simpa [List.getD_eq_getElem?_getD, hl] using hr

theorem cells_six {w : World} {a : Addr} {cs : List Value} (h : w.cells? 0 a 6 = some cs) : ∃ c0 c1 c2 c3 c4 c5, cs = [c0, c1, c2, c3, c4, c5] ∧ w.cell? a = some c0 ∧ w.cell? ⟨a.block, a.off + 1, none⟩ = some c1 ∧ w.cell? ⟨a.block, a.off + 1 + 1, none⟩ = some c2 ∧ w.cell? ⟨a.block, a.off + 1 + 2, none⟩ = some c3 ∧ w.cell? ⟨a.block, a.off + 1 + 3, none⟩ = some c4 ∧ w.cell? ⟨a.block, a.off + 1 + 4, none⟩ = some c5 := by
  unfold World.cells? at h
  rw [if_pos (Nat.zero_le _), show List.range 6 = [0, 1, 2, 3, 4, 5] from rfl] at h
  simp only [List.mapM_cons, List.mapM_nil, Option.bind_eq_bind, Option.bind_eq_some_iff, Option.pure_def, Option.some.injEq] at h
  obtain ⟨c0, h0, r1, ⟨c1, h1, r2, ⟨c2, h2, r3, ⟨c3, h3, r4, ⟨c4, h4, r5, ⟨c5, h5, r6, rfl, rfl⟩, rfl⟩, rfl⟩, rfl⟩, rfl⟩, rfl⟩ := h
  exact ⟨c0, c1, c2, c3, c4, c5, rfl, h0, h1, h2, h3, h4, h5⟩

/-- A deed that was read. -/
theorem deed_in {H : Type} {enc : TypeId × Value → H} {W : World} {p : Addr} {cs : List Value} {fuel : Nat} {x : DataW H × List MemPlace}
    (hc : W.cells? 0 p 6 = some cs) (hf : DataW.trod enc Tryz.prog W 0 (fun _ => true) true fuel 36 cs = some x) : ∃ r, DeedAt W p r := by
  obtain ⟨c0, c1, c2, c3, c4, c5, rfl, h0, h1, h2, h3, h4, h5⟩ := cells_six hc
  have n33 : Tryz.prog.cellsOf 34 = 5 := by kernel_rfl
  have n3 : Tryz.prog.cellsOf 3 = 1 := by kernel_rfl
  have n9 : Tryz.prog.cellsOf 9 = 1 := by kernel_rfl
  have n27 : Tryz.prog.cellsOf 28 = 1 := by kernel_rfl
  obtain ⟨xs, n, _, _, _, hxl, hfs⟩ := DataW.trod_struct Tryz.underlying36 hf
  have g0 : DataW.trod enc Tryz.prog W 0 (fun _ => true) true n 3 (([c0, c1, c2, c3, c4, c5].drop 0).take (Tryz.prog.cellsOf 3)) = xs[0]? := hfs 0 _ rfl
  have g1 : DataW.trod enc Tryz.prog W 0 (fun _ => true) true n 34 (([c0, c1, c2, c3, c4, c5].drop 1).take (Tryz.prog.cellsOf 34)) = xs[1]? := hfs 1 _ rfl
  rw [n3] at g0
  rw [n33] at g1
  obtain ⟨y0, e0⟩ : ∃ x, xs[0]? = some x := ⟨_, List.getElem?_eq_getElem (by rw [hxl]; decide)⟩
  obtain ⟨y1, e1⟩ : ∃ x, xs[1]? = some x := ⟨_, List.getElem?_eq_getElem (by rw [hxl]; decide)⟩
  obtain ⟨z0, k0, _, _⟩ := DataW.trod_int Tryz.underlying3 (g0.trans e0)
  obtain ⟨ys, m, _, _, _, hyl, hgs⟩ := DataW.trod_struct Tryz.underlying34 (g1.trans e1)
  have i0 : DataW.trod enc Tryz.prog W 0 (fun _ => true) true m 3 (([c1, c2, c3, c4, c5].drop 0).take (Tryz.prog.cellsOf 3)) = ys[0]? := hgs 0 _ rfl
  have i1 : DataW.trod enc Tryz.prog W 0 (fun _ => true) true m 9 (([c1, c2, c3, c4, c5].drop 1).take (Tryz.prog.cellsOf 9)) = ys[1]? := hgs 1 _ rfl
  have i2 : DataW.trod enc Tryz.prog W 0 (fun _ => true) true m 9 (([c1, c2, c3, c4, c5].drop 2).take (Tryz.prog.cellsOf 9)) = ys[2]? := hgs 2 _ rfl
  have i3 : DataW.trod enc Tryz.prog W 0 (fun _ => true) true m 28 (([c1, c2, c3, c4, c5].drop 3).take (Tryz.prog.cellsOf 28)) = ys[3]? := hgs 3 _ rfl
  have i4 : DataW.trod enc Tryz.prog W 0 (fun _ => true) true m 3 (([c1, c2, c3, c4, c5].drop 4).take (Tryz.prog.cellsOf 3)) = ys[4]? := hgs 4 _ rfl
  rw [n3] at i0 i4
  rw [n9] at i1 i2
  rw [n27] at i3
  obtain ⟨v0, f0⟩ : ∃ x, ys[0]? = some x := ⟨_, List.getElem?_eq_getElem (by rw [hyl]; decide)⟩
  obtain ⟨v1, f1⟩ : ∃ x, ys[1]? = some x := ⟨_, List.getElem?_eq_getElem (by rw [hyl]; decide)⟩
  obtain ⟨v2, f2⟩ : ∃ x, ys[2]? = some x := ⟨_, List.getElem?_eq_getElem (by rw [hyl]; decide)⟩
  obtain ⟨v3, f3⟩ : ∃ x, ys[3]? = some x := ⟨_, List.getElem?_eq_getElem (by rw [hyl]; decide)⟩
  obtain ⟨v4, f4⟩ : ∃ x, ys[4]? = some x := ⟨_, List.getElem?_eq_getElem (by rw [hyl]; decide)⟩
  obtain ⟨q0, p0, _, _⟩ := DataW.trod_int Tryz.underlying3 (i0.trans f0)
  obtain ⟨q1, p1, _, s1⟩ := DataW.trod_string Tryz.underlying9 (i1.trans f1)
  obtain ⟨q2, p2, _, s2⟩ := DataW.trod_string Tryz.underlying9 (i2.trans f2)
  obtain ⟨q4, p4, _, _⟩ := DataW.trod_int Tryz.underlying3 (i4.trans f4)
  simp at k0 p0 p1 p2 p4
  subst k0; subst p0; subst p1; subst p2; subst p4
  have i3' : DataW.trod enc Tryz.prog W 0 (fun _ => true) true m 28 [c4] = some v3 := i3.trans f3
  rcases open_strings Tryz.underlying28 Tryz.underlying9 n9 i3' with ⟨hcs, _⟩ | ⟨y, l', c, ss, hcs, _, hl, hm, hz, _, hcell, hwz⟩
  · simp only [List.cons.injEq, and_true] at hcs
    subst hcs
    exact ⟨⟨z0, 1, q0, q4, q1, q2, []⟩, none, 0, h0, h1, h2, h3, h4, h5, ⟨rfl, .inl rfl, s1, s2, Nat.le_refl _, Nat.zero_le _, fun s hs => (by cases hs), fun _ => rfl⟩, rfl⟩
  · simp only [List.cons.injEq, and_true] at hcs
    subst hcs
    have hz' : ss.length = c := by simpa using hz
    have hl2 : (ss.take l').length = l' := by rw [List.length_take]; omega
    refine ⟨⟨z0, 1, q0, q4, q1, q2, ss.take l'⟩, some y, c, h0, h1, h2, h3, by simpa only [hl2] using h4, h5, ⟨rfl, .inr ⟨y, rfl, fun j hj => ?_⟩, s1, s2, by simpa only [hl2] using hl, hm, fun s hs => hwz s (List.mem_of_mem_take hs), fun h => by cases h⟩, rfl⟩
    have hj' : j < l' := by have : j < (ss.take l').length := hj; omega
    rw [hcell j (by omega)]
    simp [List.getD_eq_getElem?_getD, hj']

/-- Deeds that came in. -/
theorem deeds_in {H : Type} {enc : TypeId × Value → H} {W : World} {a : Option Addr} {len cap : Nat} {d : DataW H} {p : List MemPlace}
    (h : DataW.Trod enc Tryz.prog W 0 (fun _ => true) true 22 (Value.slice a len cap) d p) : ∃ L : List Rq, len = L.length ∧ DeedsIn W a L ∧ len ≤ 9223372036854775807 := by
  obtain ⟨fuel, hf⟩ := h
  rcases open_slice Tryz.underlying22 hf with ⟨hcs, _⟩ | ⟨x, len', cap', m, n, D, Pl, hcs, _, hl, hmx, hm, _, hel⟩
  · simp [Value.cells] at hcs
    obtain ⟨rfl, rfl, rfl⟩ := hcs
    exact ⟨[], rfl, .inl rfl, Nat.zero_le _⟩
  · simp [Value.cells] at hcs
    obtain ⟨rfl, rfl, rfl⟩ := hcs
    have hm' : m = cap := by simpa using hm
    have n35 : Tryz.prog.cellsOf 36 = 6 := by kernel_rfl
    rw [n35] at hel
    obtain ⟨L, hL, hLj⟩ := list_of noRq (P := fun j r => DeedAt W (x.add (j * 6)) r) len fun j hj => by
      obtain ⟨cs', h1, h2⟩ := hel j (by omega)
      exact deed_in h1 h2
    exact ⟨L, hL, .inr ⟨x, rfl, fun j hj => hLj j (by omega)⟩, Nat.le_trans hl hmx⟩
end Go.Proofs.YtlpgdfdadkljfaaGreat
