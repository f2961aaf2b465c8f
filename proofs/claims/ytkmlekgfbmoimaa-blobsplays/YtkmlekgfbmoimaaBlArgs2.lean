/-
  What BlobsPlays' walk is told of the script: deeds that came in.
-/
import Derived.Test.YtkmlekgfbmoimaaArgs
import Derived.Test.YtkmlekgfbmoimaaBlPlay2
import Derived.Deep.Slices
import Derived.ChangeSame
namespace Go.Proofs.Ytkmlekgfbmoimaa
open Go.ChangeShapes Go.WideShapes Go.ChangeAt Go.RowKit Go.Deep Route Blobs

theorem cells_three {w : World} {a : Addr} {cs : List Value} (h : w.cells? 0 a 3 = some cs) : ∃ c0 c1 c2, cs = [c0, c1, c2] ∧ w.cell? a = some c0 ∧ w.cell? ⟨a.block, a.off + 1, none⟩ = some c1 ∧ w.cell? ⟨a.block, a.off + 2, none⟩ = some c2 := by
  unfold World.cells? at h
  rw [if_pos (Nat.zero_le _), show List.range 3 = [0, 1, 2] from rfl] at h
  simp only [List.mapM_cons, List.mapM_nil, Option.bind_eq_bind, Option.bind_eq_some_iff, Option.pure_def, Option.some.injEq] at h
  obtain ⟨c0, h0, r1, ⟨c1, h1, r2, ⟨c2, h2, r3, rfl, rfl⟩, rfl⟩, rfl⟩ := h
  exact ⟨c0, c1, c2, rfl, h0, h1, h2⟩

/-- Texts in a slice that was read. -/
theorem keys_in {H : Type} {enc : TypeId × Value → H} {W : World} {v : Value} {fuel : Nat} {x : DataW H × List MemPlace}
    (hf : DataW.trod enc Try.prog W 0 (fun _ => true) true fuel 30 [v] = some x) :
    ∃ (a : Option Addr) (k cap : Nat) (l : List ByteArray), v = .slice a k cap ∧ k = l.length ∧ Lies W a l ∧ k ≤ maxLen ∧ ∀ s ∈ l, s.size ≤ maxLen := by
  rcases open_strings Try.underlying30 Try.underlying9 (by kernel_rfl) hf with ⟨hcs, _⟩ | ⟨y, l', c, ss, hcs, _, hl, hm, hz, _, hcell, hwz⟩
  · simp only [List.cons.injEq, and_true] at hcs
    subst hcs
    exact ⟨none, 0, 0, [], rfl, rfl, .inl rfl, Nat.zero_le _, fun s hs => by cases hs⟩
  · simp only [List.cons.injEq, and_true] at hcs
    subst hcs
    have hz' : ss.length = c := by simpa using hz
    have hl2 : (ss.take l').length = l' := by rw [List.length_take]; omega
    refine ⟨some y, l', c, ss.take l', rfl, hl2.symm, .inr ⟨y, rfl, fun j hj => ?_⟩, Nat.le_trans hl hm, fun s hs => hwz s (List.mem_of_mem_take hs)⟩
    rw [hl2] at hj
    rw [hcell j (by omega)]
    simp [List.getD_eq_getElem?_getD, hj]

/-- A deed that was read. -/
theorem deed_in {H : Type} {enc : TypeId × Value → H} {W : World} {p : Addr} {cs : List Value} {fuel : Nat} {x : DataW H × List MemPlace}
    (hc : W.cells? 0 p 3 = some cs) (hf : DataW.trod enc Try.prog W 0 (fun _ => true) true fuel 32 cs = some x) : DeedAt W p := by
  obtain ⟨c0, c1, c2, rfl, h0, h1, h2⟩ := cells_three hc
  obtain ⟨xs, n, _, _, _, hxl, hfs⟩ := DataW.trod_struct Try.underlying32 hf
  have n9 : Try.prog.cellsOf 9 = 1 := by kernel_rfl
  have n3 : Try.prog.cellsOf 3 = 1 := by kernel_rfl
  have n30 : Try.prog.cellsOf 30 = 1 := by kernel_rfl
  have g0 : DataW.trod enc Try.prog W 0 (fun _ => true) true n 3 (([c0, c1, c2].drop 0).take (Try.prog.cellsOf 3)) = xs[0]? := hfs 0 _ rfl
  have g1 : DataW.trod enc Try.prog W 0 (fun _ => true) true n 9 (([c0, c1, c2].drop 1).take (Try.prog.cellsOf 9)) = xs[1]? := hfs 1 _ rfl
  have g2 : DataW.trod enc Try.prog W 0 (fun _ => true) true n 30 (([c0, c1, c2].drop 2).take (Try.prog.cellsOf 30)) = xs[2]? := hfs 2 _ rfl
  rw [n3] at g0
  rw [n9] at g1
  rw [n30] at g2
  obtain ⟨y0, e0⟩ : ∃ x, xs[0]? = some x := ⟨_, List.getElem?_eq_getElem (by rw [hxl]; decide)⟩
  obtain ⟨y1, e1⟩ : ∃ x, xs[1]? = some x := ⟨_, List.getElem?_eq_getElem (by rw [hxl]; decide)⟩
  obtain ⟨y2, e2⟩ : ∃ x, xs[2]? = some x := ⟨_, List.getElem?_eq_getElem (by rw [hxl]; decide)⟩
  obtain ⟨z, k0, _, hz⟩ := DataW.trod_int Try.underlying3 (g0.trans e0)
  obtain ⟨s, k1, _, hs⟩ := DataW.trod_string Try.underlying9 (g1.trans e1)
  obtain ⟨a, k, cap, l, k2, hk⟩ := keys_in (v := c2) (g2.trans e2)
  simp at k0 k1
  subst k0; subst k1; subst k2
  have hb := bounds_i64 hz
  exact ⟨z, s, a, k, cap, l, h0, h1, h2, ⟨by omega, by omega⟩, hs, hk⟩

/-- Deeds that came in. -/
theorem deeds_in {H : Type} {enc : TypeId × Value → H} {W : World} {a : Option Addr} {len cap : Nat} {d : DataW H} {p : List MemPlace}
    (h : DataW.Trod enc Try.prog W 0 (fun _ => true) true 22 (Value.slice a len cap) d p) : DeedsIn W a len ∧ len ≤ maxLen := by
  obtain ⟨fuel, hf⟩ := h
  rcases open_slice Try.underlying22 hf with ⟨hcs, _⟩ | ⟨x, len', cap', m, n, D, Pl, hcs, _, hl, hmx, hm, _, hel⟩
  · simp [Value.cells] at hcs
    obtain ⟨rfl, rfl, rfl⟩ := hcs
    exact ⟨.inl rfl, Nat.zero_le _⟩
  · simp [Value.cells] at hcs
    obtain ⟨rfl, rfl, rfl⟩ := hcs
    have hm' : m = cap := by simpa using hm
    have n32 : Try.prog.cellsOf 32 = 3 := by kernel_rfl
    rw [n32] at hel
    refine ⟨.inr ⟨x, rfl, fun i hi => ?_⟩, Nat.le_trans hl hmx⟩
    obtain ⟨cs', h1, h2⟩ := hel i (by omega)
    exact deed_in h1 h2
end Go.Proofs.Ytkmlekgfbmoimaa
