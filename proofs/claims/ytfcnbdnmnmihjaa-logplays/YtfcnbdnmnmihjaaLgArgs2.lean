/-
  What the walk is told of a script that came in.
-/
import Derived.Test.YtfcnbdnmnmihjaaLgArgs
import Derived.Test.YtfcnbdnmnmihjaaLgPlay2
import Derived.Deep.Slices
namespace Go.Proofs.Ytfcnbdnmnmihjaa
open Go.ChangeShapes Go.WideShapes Go.ChangeAt Go.RowKit Go.Deep

theorem cells_three {w : World} {a : Addr} {cs : List Value} (h : w.cells? 0 a 3 = some cs) : ∃ c0 c1 c2, cs = [c0, c1, c2] ∧ w.cell? a = some c0 ∧ w.cell? ⟨a.block, a.off + 1, none⟩ = some c1 ∧ w.cell? ⟨a.block, a.off + 2, none⟩ = some c2 := by
  unfold World.cells? at h
  rw [if_pos (Nat.zero_le _), show List.range 3 = [0, 1, 2] from rfl] at h
  simp only [List.mapM_cons, List.mapM_nil, Option.bind_eq_bind, Option.bind_eq_some_iff, Option.pure_def, Option.some.injEq] at h
  obtain ⟨c0, h0, r1, ⟨c1, h1, r2, ⟨c2, h2, r3, rfl, rfl⟩, rfl⟩, rfl⟩ := h
  exact ⟨c0, c1, c2, rfl, h0, h1, h2⟩

/-- A deed that was read. -/
theorem deed_in {H : Type} {enc : TypeId × Value → H} {W : World} {p : Addr} {cs : List Value} {fuel : Nat} {x : DataW H × List MemPlace}
    (hc : W.cells? 0 p 3 = some cs) (hf : DataW.trod enc Try.prog W 0 (fun _ => true) true fuel 34 cs = some x) : DeedAt W p := by
  obtain ⟨c0, c1, c2, rfl, h0, h1, h2⟩ := cells_three hc
  obtain ⟨xs, n, _, _, _, hxl, hfs⟩ := DataW.trod_struct Try.underlying34 hf
  have n3 : Try.prog.cellsOf 3 = 1 := by kernel_rfl
  have n26 : Try.prog.cellsOf 31 = 1 := by kernel_rfl
  have g0 : DataW.trod enc Try.prog W 0 (fun _ => true) true n 3 (([c0, c1, c2].drop 0).take (Try.prog.cellsOf 3)) = xs[0]? := hfs 0 _ rfl
  have g1 : DataW.trod enc Try.prog W 0 (fun _ => true) true n 3 (([c0, c1, c2].drop 1).take (Try.prog.cellsOf 3)) = xs[1]? := hfs 1 _ rfl
  have g2 : DataW.trod enc Try.prog W 0 (fun _ => true) true n 31 (([c0, c1, c2].drop 2).take (Try.prog.cellsOf 31)) = xs[2]? := hfs 2 _ rfl
  rw [n3] at g0 g1
  rw [n26] at g2
  obtain ⟨y0, e0⟩ : ∃ x, xs[0]? = some x := ⟨_, List.getElem?_eq_getElem (by rw [hxl]; decide)⟩
  obtain ⟨y1, e1⟩ : ∃ x, xs[1]? = some x := ⟨_, List.getElem?_eq_getElem (by rw [hxl]; decide)⟩
  obtain ⟨y2, e2⟩ : ∃ x, xs[2]? = some x := ⟨_, List.getElem?_eq_getElem (by rw [hxl]; decide)⟩
  obtain ⟨z0, k0, _, hz0⟩ := DataW.trod_int Try.underlying3 (g0.trans e0)
  obtain ⟨z1, k1, _, hz1⟩ := DataW.trod_int Try.underlying3 (g1.trans e1)
  obtain ⟨a, k, cap, l, k2, hk1, hk2, hk3, hk4, hk5⟩ := bytes_read (v := c2) (g2.trans e2)
  simp at k0 k1
  subst k0; subst k1; subst k2
  exact ⟨z0, z1, a, k, cap, l, h0, h1, h2, i64_in hz0, i64_in hz1, a, k, cap, rfl, hk1, hk3, hk4, hk2, hk5, fun y hy => by subst hy; exact hk2.lt⟩

/-- Deeds that came in. -/
theorem deeds_in {H : Type} {enc : TypeId × Value → H} {W : World} {a : Option Addr} {len cap : Nat} {d : DataW H} {p : List MemPlace}
    (h : DataW.Trod enc Try.prog W 0 (fun _ => true) true 22 (Value.slice a len cap) d p) : DeedsIn W a len ∧ len ≤ maxLen := by
  obtain ⟨fuel, hf⟩ := h
  rcases open_slice Try.underlying22 hf with ⟨hcs, _⟩ | ⟨x, len', cap', m, n, D, Pl, hcs, _, hl, hcm, hm, _, hel⟩
  · simp [Value.cells] at hcs
    obtain ⟨rfl, rfl, rfl⟩ := hcs
    exact ⟨.inl rfl, Nat.zero_le _⟩
  · simp [Value.cells] at hcs
    obtain ⟨rfl, rfl, rfl⟩ := hcs
    have hm' : m = cap := by simpa using hm
    have n28 : Try.prog.cellsOf 34 = 3 := by kernel_rfl
    rw [n28] at hel
    refine ⟨.inr ⟨x, rfl, fun j hj => ?_⟩, Nat.le_trans hl hcm⟩
    obtain ⟨cs', h1, h2⟩ := hel j (by omega)
    exact deed_in h1 h2
end Go.Proofs.Ytfcnbdnmnmihjaa
