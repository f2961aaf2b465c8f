/-
  What the laws' walks are told of the arguments: snapshots that came in.
-/
import Derived.Test.YtlpgdfdadkljfaaCtFrom
import Derived.ProofKit
import Derived.OpenShut
import Derived.ShutString
import Derived.ChangeOld
import Derived.ChangeSame
import Derived.Below
import Derived.SliceStrings
import Derived.Deep.Slices
namespace Go.Proofs.Ytlpgdfdadkljfaa
open Go.ChangeShapes Go.WideShapes Go.ChangeAt Go.RowKit Go.Deep Route Tree Order Cat

theorem own : ownKnob Try.prog.godebug = none := by kernel_rfl
theorem laidOut : laidOutB Try.prog = true := by kernel_rfl

theorem list_of {α : Type} (d : α) {P : Nat → α → Prop} : ∀ n, (∀ j, j < n → ∃ r, P j r) → ∃ L : List α, n = L.length ∧ ∀ j, j < n → P j (L.getD j d)
  | 0, _ => ⟨[], rfl, fun j hj => by omega⟩
  | n + 1, h => by
    obtain ⟨L, hl, hL⟩ := list_of d n fun j hj => h j (by omega)
    obtain ⟨r, hr⟩ := h n (by omega)
    refine ⟨L ++ [r], by simp [hl], fun j hj => ?_⟩
    by_cases e : j < n
    · have := hL j e
      simpa [List.getD_eq_getElem?_getD, List.getElem?_append_left (show j < L.length by omega)] using this
    · obtain rfl : j = n := by omega
      simpa [List.getD_eq_getElem?_getD, hl] using hr

theorem cells_three {w : World} {a : Addr} {cs : List Value} (h : w.cells? 0 a 3 = some cs) : ∃ c0 c1 c2, cs = [c0, c1, c2] ∧ w.cell? a = some c0 ∧ w.cell? ⟨a.block, a.off + 1, none⟩ = some c1 ∧ w.cell? ⟨a.block, a.off + 2, none⟩ = some c2 := by
  unfold World.cells? at h
  rw [if_pos (Nat.zero_le _), show List.range 3 = [0, 1, 2] from rfl] at h
  simp only [List.mapM_cons, List.mapM_nil, Option.bind_eq_bind, Option.bind_eq_some_iff, Option.pure_def, Option.some.injEq] at h
  obtain ⟨c0, h0, r1, ⟨c1, h1, r2, ⟨c2, h2, r3, rfl, rfl⟩, rfl⟩, rfl⟩ := h
  exact ⟨c0, c1, c2, rfl, h0, h1, h2⟩

theorem cells_four {w : World} {a : Addr} {cs : List Value} (h : w.cells? 0 a 4 = some cs) : ∃ c0 c1 c2 c3, cs = [c0, c1, c2, c3] ∧ w.cell? a = some c0 ∧ w.cell? ⟨a.block, a.off + 1, none⟩ = some c1 ∧ w.cell? ⟨a.block, a.off + 2, none⟩ = some c2 ∧ w.cell? ⟨a.block, a.off + 3, none⟩ = some c3 := by
  unfold World.cells? at h
  rw [if_pos (Nat.zero_le _), show List.range 4 = [0, 1, 2, 3] from rfl] at h
  simp only [List.mapM_cons, List.mapM_nil, Option.bind_eq_bind, Option.bind_eq_some_iff, Option.pure_def, Option.some.injEq] at h
  obtain ⟨c0, h0, r1, ⟨c1, h1, r2, ⟨c2, h2, r3, ⟨c3, h3, r4, rfl, rfl⟩, rfl⟩, rfl⟩, rfl⟩ := h
  exact ⟨c0, c1, c2, c3, rfl, h0, h1, h2, h3⟩

/-- Texts in a slice that was read. -/
theorem keys_in {H : Type} {enc : TypeId × Value → H} {W : World} {v : Value} {fuel : Nat} {x : DataW H × List MemPlace}
    (hf : DataW.trod enc Try.prog W 0 (fun _ => true) true fuel 33 [v] = some x) :
    ∃ (a : Option Addr) (cap : Nat) (l : List ByteArray), v = .slice a l.length cap ∧ KeysIn W a cap l := by
  rcases open_strings Try.underlying33 Try.underlying9 (by kernel_rfl) hf with ⟨hcs, _⟩ | ⟨y, l', c, ss, hcs, _, hl, hm, hz, _, hcell, _⟩
  · simp only [List.cons.injEq, and_true] at hcs
    subst hcs
    exact ⟨none, 0, [], rfl, .inl rfl, Nat.le_refl _, Nat.zero_le _, fun _ => rfl⟩
  · simp only [List.cons.injEq, and_true] at hcs
    subst hcs
    have hz' : ss.length = c := by simpa using hz
    have hl2 : (ss.take l').length = l' := by rw [List.length_take]; omega
    refine ⟨some y, c, ss.take l', by rw [hl2], .inr ⟨y, rfl, fun j hj => ?_⟩, by rw [hl2]; exact hl, hm, fun h => (by cases h)⟩
    rw [hl2] at hj
    rw [hcell j (by omega)]
    simp [List.getD_eq_getElem?_getD, hj]

/-- An entry that was read. -/
theorem ent_in {H : Type} {enc : TypeId × Value → H} {W : World} {p : Addr} {cs : List Value} {fuel : Nat} {x : DataW H × List MemPlace}
    (hc : W.cells? 0 p 3 = some cs) (hf : DataW.trod enc Try.prog W 0 (fun _ => true) true fuel 57 cs = some x) : ∃ e, EntAt W p e := by
  obtain ⟨c0, c1, c2, rfl, h0, h1, h2⟩ := cells_three hc
  obtain ⟨xs, n, _, _, _, hxl, hfs⟩ := DataW.trod_struct Try.underlying57 hf
  have n9 : Try.prog.cellsOf 9 = 1 := by kernel_rfl
  have n3 : Try.prog.cellsOf 3 = 1 := by kernel_rfl
  have n28 : Try.prog.cellsOf 33 = 1 := by kernel_rfl
  have g0 : DataW.trod enc Try.prog W 0 (fun _ => true) true n 9 (([c0, c1, c2].drop 0).take (Try.prog.cellsOf 9)) = xs[0]? := hfs 0 _ rfl
  have g1 : DataW.trod enc Try.prog W 0 (fun _ => true) true n 3 (([c0, c1, c2].drop 1).take (Try.prog.cellsOf 3)) = xs[1]? := hfs 1 _ rfl
  have g2 : DataW.trod enc Try.prog W 0 (fun _ => true) true n 33 (([c0, c1, c2].drop 2).take (Try.prog.cellsOf 33)) = xs[2]? := hfs 2 _ rfl
  rw [n9] at g0
  rw [n3] at g1
  rw [n28] at g2
  obtain ⟨y0, e0⟩ : ∃ x, xs[0]? = some x := ⟨_, List.getElem?_eq_getElem (by rw [hxl]; decide)⟩
  obtain ⟨y1, e1⟩ : ∃ x, xs[1]? = some x := ⟨_, List.getElem?_eq_getElem (by rw [hxl]; decide)⟩
  obtain ⟨y2, e2⟩ : ∃ x, xs[2]? = some x := ⟨_, List.getElem?_eq_getElem (by rw [hxl]; decide)⟩
  obtain ⟨s, k0, _⟩ := DataW.trod_string Try.underlying9 (g0.trans e0)
  obtain ⟨z, k1, _⟩ := DataW.trod_int Try.underlying3 (g1.trans e1)
  obtain ⟨a, cap, l, k2, hk⟩ := keys_in (v := c2) (g2.trans e2)
  simp at k0 k1
  subst k0; subst k1; subst k2
  exact ⟨(s, z, l), h0, h1, a, cap, h2, hk⟩

/-- Entries in a slice that was read. -/
theorem ents_in {H : Type} {enc : TypeId × Value → H} {W : World} {v : Value} {fuel : Nat} {x : DataW H × List MemPlace}
    (hf : DataW.trod enc Try.prog W 0 (fun _ => true) true fuel 50 [v] = some x) : ∃ (a : Option Addr) (cap : Nat) (l : List Ent), v = .slice a l.length cap ∧ l.length ≤ cap ∧ (a = none → cap = 0) ∧ LiesE W a l := by
  rcases open_slice Try.underlying50 hf with ⟨hcs, _⟩ | ⟨y, len', cap', m, n, D, Pl, hcs, _, hl, _, hm, _, hel⟩
  · simp only [List.cons.injEq, and_true] at hcs
    subst hcs
    exact ⟨none, 0, [], rfl, Nat.le_refl _, fun _ => rfl, .inl rfl⟩
  · simp only [List.cons.injEq, and_true] at hcs
    subst hcs
    have hm' : m = cap' := by simpa using hm
    have n30 : Try.prog.cellsOf 57 = 3 := by kernel_rfl
    rw [n30] at hel
    obtain ⟨L, hL, hLj⟩ := list_of (α := Ent) (ByteArray.empty, 0, []) (P := fun j e => EntAt W (y.add (j * 3)) e) len' fun j hj => by
      obtain ⟨cs', h1, h2⟩ := hel j (by omega)
      exact ent_in h1 h2
    exact ⟨some y, cap', L, by rw [hL], by rw [← hL]; exact hl, (fun h => by cases h), .inr ⟨y, rfl, fun j hj => hLj j (by omega)⟩⟩

/-- A snapshot that was read. -/
theorem snap_in {H : Type} {enc : TypeId × Value → H} {W : World} {p : Addr} {cs : List Value} {fuel : Nat} {x : DataW H × List MemPlace}
    (hc : W.cells? 0 p 4 = some cs) (hf : DataW.trod enc Try.prog W 0 (fun _ => true) true fuel 52 cs = some x) : ∃ s, SnapIn W p s := by
  obtain ⟨c0, c1, c2, c3, rfl, h0, h1, h2, h3⟩ := cells_four hc
  obtain ⟨xs, n, _, _, _, hxl, hfs⟩ := DataW.trod_struct Try.underlying52 hf
  have n9 : Try.prog.cellsOf 9 = 1 := by kernel_rfl
  have n3 : Try.prog.cellsOf 3 = 1 := by kernel_rfl
  have n4 : Try.prog.cellsOf 4 = 1 := by kernel_rfl
  have n50 : Try.prog.cellsOf 50 = 1 := by kernel_rfl
  have g0 : DataW.trod enc Try.prog W 0 (fun _ => true) true n 3 (([c0, c1, c2, c3].drop 0).take (Try.prog.cellsOf 3)) = xs[0]? := hfs 0 _ rfl
  have g1 : DataW.trod enc Try.prog W 0 (fun _ => true) true n 9 (([c0, c1, c2, c3].drop 1).take (Try.prog.cellsOf 9)) = xs[1]? := hfs 1 _ rfl
  have g2 : DataW.trod enc Try.prog W 0 (fun _ => true) true n 4 (([c0, c1, c2, c3].drop 2).take (Try.prog.cellsOf 4)) = xs[2]? := hfs 2 _ rfl
  have g3 : DataW.trod enc Try.prog W 0 (fun _ => true) true n 50 (([c0, c1, c2, c3].drop 3).take (Try.prog.cellsOf 50)) = xs[3]? := hfs 3 _ rfl
  rw [n3] at g0
  rw [n9] at g1
  rw [n4] at g2
  rw [n50] at g3
  obtain ⟨y0, e0⟩ : ∃ x, xs[0]? = some x := ⟨_, List.getElem?_eq_getElem (by rw [hxl]; decide)⟩
  obtain ⟨y1, e1⟩ : ∃ x, xs[1]? = some x := ⟨_, List.getElem?_eq_getElem (by rw [hxl]; decide)⟩
  obtain ⟨y2, e2⟩ : ∃ x, xs[2]? = some x := ⟨_, List.getElem?_eq_getElem (by rw [hxl]; decide)⟩
  obtain ⟨y3, e3⟩ : ∃ x, xs[3]? = some x := ⟨_, List.getElem?_eq_getElem (by rw [hxl]; decide)⟩
  obtain ⟨z, k0, _⟩ := DataW.trod_int Try.underlying3 (g0.trans e0)
  obtain ⟨s, k1, _⟩ := DataW.trod_string Try.underlying9 (g1.trans e1)
  obtain ⟨b, k2, _⟩ := DataW.trod_bool Try.underlying4 (g2.trans e2)
  obtain ⟨a, cap, l, k3, hk1, hk2, hk3⟩ := ents_in (v := c3) (g3.trans e3)
  simp at k0 k1 k2
  subst k0; subst k1; subst k2; subst k3
  exact ⟨(z, s, b, l), h0, h1, h2, a, cap, h3, hk1, hk2, hk3⟩

/-- Snapshots that came in. -/
theorem snaps_in {H : Type} {enc : TypeId × Value → H} {W : World} {a : Option Addr} {len cap : Nat} {d : DataW H} {p : List MemPlace}
    (h : DataW.Trod enc Try.prog W 0 (fun _ => true) true 22 (Value.slice a len cap) d p) : ∃ S : List Snap, len = S.length ∧ LiesN W a S ∧ len ≤ 9223372036854775807 := by
  obtain ⟨fuel, hf⟩ := h
  rcases open_slice Try.underlying22 hf with ⟨hcs, _⟩ | ⟨x, len', cap', m, n, D, Pl, hcs, _, hl, hmx, hm, _, hel⟩
  · simp [Value.cells] at hcs
    obtain ⟨rfl, rfl, rfl⟩ := hcs
    exact ⟨[], rfl, .inl rfl, Nat.zero_le _⟩
  · simp [Value.cells] at hcs
    obtain ⟨rfl, rfl, rfl⟩ := hcs
    have hm' : m = cap := by simpa using hm
    have n35 : Try.prog.cellsOf 52 = 4 := by kernel_rfl
    rw [n35] at hel
    obtain ⟨L, hL, hLj⟩ := list_of noSnap (P := fun j r => SnapIn W (x.add (j * 4)) r) len fun j hj => by
      obtain ⟨cs', h1, h2⟩ := hel j (by omega)
      exact snap_in h1 h2
    exact ⟨L, hL, .inr ⟨x, rfl, fun j hj => hLj j (by omega)⟩, Nat.le_trans hl hmx⟩
end Go.Proofs.Ytlpgdfdadkljfaa
