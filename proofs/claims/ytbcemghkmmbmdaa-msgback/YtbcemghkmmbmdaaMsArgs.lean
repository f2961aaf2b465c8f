/-
  What the laws' walks are told of the arguments: messages that came in.
-/
import Derived.Test.YtbcemghkmmbmdaaMsMay3
import Derived.ProofKit
import Derived.OpenShut
import Derived.ShutString
import Derived.ChangeOld
import Derived.ChangeSame
import Derived.Below
import Derived.SliceStrings
import Derived.Deep.Slices
namespace Go.Proofs.Ytbcemghkmmbmdaa
open Go.ChangeShapes Go.WideShapes Go.ChangeAt Go.RowKit Go.Deep Route Msg

theorem own : ownKnob Try.prog.godebug = none := by kernel_rfl
theorem laidOut : laidOutB Try.prog = true := by kernel_rfl

theorem list_of {α : Type} (d : α) {P : Nat → α → Prop} : ∀ n, (∀ j, j < n → ∃ r, P j r) → ∃ L : List α, n = L.length ∧ ∀ j, j < n → P j (L.getD j d)
  | 0, _ => ⟨[], rfl, fun j hj => by omega⟩
  | n + 1, h => by
    obtain ⟨L, hl, hL⟩ := list_of d n fun j hj => h j (by omega)
    obtain ⟨r, hr⟩ := h n (by omega)
    refine ⟨L ++ [r], by simp [hl], fun j hj => ?_⟩
    by_cases e : j < n
    · have := hL j e
      simpa [List.getD_eq_getElem?_getD, List.getElem?_append_left (show j < L.length by omega)] using this
    · obtain rfl : j = n := by omega
      simpa [List.getD_eq_getElem?_getD, hl] using hr

theorem cells_three {w : World} {a : Addr} {cs : List Value} (h : w.cells? 0 a 3 = some cs) : ∃ c0 c1 c2, cs = [c0, c1, c2] ∧ w.cell? a = some c0 ∧ w.cell? ⟨a.block, a.off + 1, none⟩ = some c1 ∧ w.cell? ⟨a.block, a.off + 2, none⟩ = some c2 := by
  unfold World.cells? at h
  rw [if_pos (Nat.zero_le _), show List.range 3 = [0, 1, 2] from rfl] at h
  simp only [List.mapM_cons, List.mapM_nil, Option.bind_eq_bind, Option.bind_eq_some_iff, Option.pure_def, Option.some.injEq] at h
  obtain ⟨c0, h0, r1, ⟨c1, h1, r2, ⟨c2, h2, r3, rfl, rfl⟩, rfl⟩, rfl⟩ := h
  exact ⟨c0, c1, c2, rfl, h0, h1, h2⟩

theorem cells_four {w : World} {a : Addr} {cs : List Value} (h : w.cells? 0 a 4 = some cs) : ∃ c0 c1 c2 c3, cs = [c0, c1, c2, c3] ∧ w.cell? a = some c0 ∧ w.cell? ⟨a.block, a.off + 1, none⟩ = some c1 ∧ w.cell? ⟨a.block, a.off + 2, none⟩ = some c2 ∧ w.cell? ⟨a.block, a.off + 3, none⟩ = some c3 := by
  unfold World.cells? at h
  rw [if_pos (Nat.zero_le _), show List.range 4 = [0, 1, 2, 3] from rfl] at h
  simp only [List.mapM_cons, List.mapM_nil, Option.bind_eq_bind, Option.bind_eq_some_iff, Option.pure_def, Option.some.injEq] at h
  obtain ⟨c0, h0, r1, ⟨c1, h1, r2, ⟨c2, h2, r3, ⟨c3, h3, r4, rfl, rfl⟩, rfl⟩, rfl⟩, rfl⟩ := h
  exact ⟨c0, c1, c2, c3, rfl, h0, h1, h2, h3⟩

/-- Numbers in a slice that was read. -/
theorem ints_in {H : Type} {enc : TypeId × Value → H} {W : World} {v : Value} {fuel : Nat} {x : DataW H × List MemPlace}
    (hf : DataW.trod enc Try.prog W 0 (fun _ => true) true fuel 87 [v] = some x) : ∃ (a : Option Addr) (cap : Nat) (l : List Int), v = .slice a l.length cap ∧ LiesI W a l := by
  rcases open_ints Try.underlying87 Try.underlying3 (by kernel_rfl) hf with ⟨hcs, _⟩ | ⟨y, l', c, zs, hcs, _, hl, hm, hz, _, hcell, _⟩
  · simp only [List.cons.injEq, and_true] at hcs
    subst hcs
    exact ⟨none, 0, [], rfl, .inl rfl⟩
  · simp only [List.cons.injEq, and_true] at hcs
    subst hcs
    have hz' : zs.length = c := by simpa using hz
    have hl2 : (zs.take l').length = l' := by rw [List.length_take]; omega
    refine ⟨some y, c, zs.take l', by rw [hl2], .inr ⟨y, rfl, fun j hj => ?_⟩⟩
    rw [hl2] at hj
    rw [hcell j (by omega)]
    simp [inAt, List.getD_eq_getElem?_getD, hj]

/-- A proof that was read. -/
theorem pf_in {H : Type} {enc : TypeId × Value → H} {W : World} {p : Addr} {cs : List Value} {fuel : Nat} {x : DataW H × List MemPlace}
    (hc : W.cells? 0 p 4 = some cs) (hf : DataW.trod enc Try.prog W 0 (fun _ => true) true fuel 89 cs = some x) : ∃ e, PfIn W p e := by
  obtain ⟨c0, c1, c2, c3, rfl, h0, h1, h2, h3⟩ := cells_four hc
  obtain ⟨xs, n, _, _, _, hxl, hfs⟩ := DataW.trod_struct Try.underlying89 hf
  have Nint : Try.prog.cellsOf 3 = 1 := by kernel_rfl
  have Nstr : Try.prog.cellsOf 9 = 1 := by kernel_rfl
  have Nints : Try.prog.cellsOf 87 = 1 := by kernel_rfl
  have g0 : DataW.trod enc Try.prog W 0 (fun _ => true) true n 3 (([c0, c1, c2, c3].drop 0).take (Try.prog.cellsOf 3)) = xs[0]? := hfs 0 _ rfl
  have g1 : DataW.trod enc Try.prog W 0 (fun _ => true) true n 3 (([c0, c1, c2, c3].drop 1).take (Try.prog.cellsOf 3)) = xs[1]? := hfs 1 _ rfl
  have g2 : DataW.trod enc Try.prog W 0 (fun _ => true) true n 9 (([c0, c1, c2, c3].drop 2).take (Try.prog.cellsOf 9)) = xs[2]? := hfs 2 _ rfl
  have g3 : DataW.trod enc Try.prog W 0 (fun _ => true) true n 87 (([c0, c1, c2, c3].drop 3).take (Try.prog.cellsOf 87)) = xs[3]? := hfs 3 _ rfl
  rw [Nint] at g0
  rw [Nint] at g1
  rw [Nstr] at g2
  rw [Nints] at g3
  obtain ⟨y0, e0⟩ : ∃ x, xs[0]? = some x := ⟨_, List.getElem?_eq_getElem (by rw [hxl]; decide)⟩
  obtain ⟨y1, e1⟩ : ∃ x, xs[1]? = some x := ⟨_, List.getElem?_eq_getElem (by rw [hxl]; decide)⟩
  obtain ⟨y2, e2⟩ : ∃ x, xs[2]? = some x := ⟨_, List.getElem?_eq_getElem (by rw [hxl]; decide)⟩
  obtain ⟨y3, e3⟩ : ∃ x, xs[3]? = some x := ⟨_, List.getElem?_eq_getElem (by rw [hxl]; decide)⟩
  obtain ⟨z0, k0, _⟩ := DataW.trod_int Try.underlying3 (g0.trans e0)
  obtain ⟨z1, k1, _⟩ := DataW.trod_int Try.underlying3 (g1.trans e1)
  obtain ⟨z2, k2, _⟩ := DataW.trod_string Try.underlying9 (g2.trans e2)
  obtain ⟨a3, cap3, l3, k3, hk3⟩ := ints_in (v := c3) (g3.trans e3)
  simp at k0 k1 k2
  subst k0; subst k1; subst k2; subst k3
  exact ⟨(z0, z1, z2, l3), h0, h1, h2, a3, cap3, h3, hk3⟩
theorem pfs_in {H : Type} {enc : TypeId × Value → H} {W : World} {v : Value} {fuel : Nat} {x : DataW H × List MemPlace}
    (hf : DataW.trod enc Try.prog W 0 (fun _ => true) true fuel 22 [v] = some x) : ∃ (a : Option Addr) (cap : Nat) (l : List Pf), v = .slice a l.length cap ∧ LiesP W a l := by
  rcases open_slice Try.underlying22 hf with ⟨hcs, _⟩ | ⟨y, len', cap', m, n, D, Pl, hcs, _, hl, _, hm, _, hel⟩
  · simp only [List.cons.injEq, and_true] at hcs
    subst hcs
    exact ⟨none, 0, [], rfl, .inl rfl⟩
  · simp only [List.cons.injEq, and_true] at hcs
    subst hcs
    have hm' : m = cap' := by simpa using hm
    have n30 : Try.prog.cellsOf 89 = 4 := by kernel_rfl
    rw [n30] at hel
    obtain ⟨L, hL, hLj⟩ := list_of (α := Pf) noPf (P := fun j e => PfIn W (y.add (j * 4)) e) len' fun j hj => by
      obtain ⟨cs', h1, h2⟩ := hel j (by omega)
      exact pf_in h1 h2
    exact ⟨some y, cap', L, by rw [hL], .inr ⟨y, rfl, fun j hj => hLj j (by omega)⟩⟩

/-- A change that was read. -/
theorem ch_in {H : Type} {enc : TypeId × Value → H} {W : World} {p : Addr} {cs : List Value} {fuel : Nat} {x : DataW H × List MemPlace}
    (hc : W.cells? 0 p 3 = some cs) (hf : DataW.trod enc Try.prog W 0 (fun _ => true) true fuel 61 cs = some x) : ∃ e, ChIn W p e := by
  obtain ⟨c0, c1, c2, rfl, h0, h1, h2⟩ := cells_three hc
  obtain ⟨xs, n, _, _, _, hxl, hfs⟩ := DataW.trod_struct Try.underlying61 hf
  have Nint : Try.prog.cellsOf 3 = 1 := by kernel_rfl
  have Npfs : Try.prog.cellsOf 22 = 1 := by kernel_rfl
  have g0 : DataW.trod enc Try.prog W 0 (fun _ => true) true n 3 (([c0, c1, c2].drop 0).take (Try.prog.cellsOf 3)) = xs[0]? := hfs 0 _ rfl
  have g1 : DataW.trod enc Try.prog W 0 (fun _ => true) true n 3 (([c0, c1, c2].drop 1).take (Try.prog.cellsOf 3)) = xs[1]? := hfs 1 _ rfl
  have g2 : DataW.trod enc Try.prog W 0 (fun _ => true) true n 22 (([c0, c1, c2].drop 2).take (Try.prog.cellsOf 22)) = xs[2]? := hfs 2 _ rfl
  rw [Nint] at g0
  rw [Nint] at g1
  rw [Npfs] at g2
  obtain ⟨y0, e0⟩ : ∃ x, xs[0]? = some x := ⟨_, List.getElem?_eq_getElem (by rw [hxl]; decide)⟩
  obtain ⟨y1, e1⟩ : ∃ x, xs[1]? = some x := ⟨_, List.getElem?_eq_getElem (by rw [hxl]; decide)⟩
  obtain ⟨y2, e2⟩ : ∃ x, xs[2]? = some x := ⟨_, List.getElem?_eq_getElem (by rw [hxl]; decide)⟩
  obtain ⟨z0, k0, _⟩ := DataW.trod_int Try.underlying3 (g0.trans e0)
  obtain ⟨z1, k1, _⟩ := DataW.trod_int Try.underlying3 (g1.trans e1)
  obtain ⟨a2, cap2, l2, k2, hk2⟩ := pfs_in (v := c2) (g2.trans e2)
  simp at k0 k1
  subst k0; subst k1; subst k2
  exact ⟨(z0, z1, l2), h0, h1, a2, cap2, h2, hk2⟩
theorem chs_in {H : Type} {enc : TypeId × Value → H} {W : World} {v : Value} {fuel : Nat} {x : DataW H × List MemPlace}
    (hf : DataW.trod enc Try.prog W 0 (fun _ => true) true fuel 23 [v] = some x) : ∃ (a : Option Addr) (cap : Nat) (l : List Ch), v = .slice a l.length cap ∧ LiesC W a l := by
  rcases open_slice Try.underlying23 hf with ⟨hcs, _⟩ | ⟨y, len', cap', m, n, D, Pl, hcs, _, hl, _, hm, _, hel⟩
  · simp only [List.cons.injEq, and_true] at hcs
    subst hcs
    exact ⟨none, 0, [], rfl, .inl rfl⟩
  · simp only [List.cons.injEq, and_true] at hcs
    subst hcs
    have hm' : m = cap' := by simpa using hm
    have n30 : Try.prog.cellsOf 61 = 3 := by kernel_rfl
    rw [n30] at hel
    obtain ⟨L, hL, hLj⟩ := list_of (α := Ch) noCh (P := fun j e => ChIn W (y.add (j * 3)) e) len' fun j hj => by
      obtain ⟨cs', h1, h2⟩ := hel j (by omega)
      exact ch_in h1 h2
    exact ⟨some y, cap', L, by rw [hL], .inr ⟨y, rfl, fun j hj => hLj j (by omega)⟩⟩

set_option maxRecDepth 100000 in
/-- A message that came in. -/
theorem msg_in {H : Type} {enc : TypeId × Value → H} {W : World} {v : Value} {d : DataW H} {p : List MemPlace}
    {b0 : Nat} (hv : Value.okWide Try.prog W .any b0 25 v) (h : DataW.Trod enc Try.prog W 0 (fun _ => true) true 25 v d p) :
    ∃ (m : Ms) (a : Option Addr) (kn cap : Nat) (a' : Option Addr) (kn' cap' : Nat), v = .agg (msV m a kn cap a' kn' cap') ∧ MsIn W m a kn a' kn' := by
  obtain ⟨cs, rfl, hcs⟩ := okWide_struct Try.underlying25 hv
  obtain ⟨fuel, hf⟩ := h
  have n26 : Try.prog.cellsOf 25 = 7 := by kernel_rfl
  have Nint : Try.prog.cellsOf 3 = 1 := by kernel_rfl
  have Nstr : Try.prog.cellsOf 9 = 1 := by kernel_rfl
  have Npfs : Try.prog.cellsOf 22 = 1 := by kernel_rfl
  have Nchs : Try.prog.cellsOf 23 = 1 := by kernel_rfl
  obtain ⟨xs, n, _, _, _, hxl, hfs⟩ := DataW.trod_struct Try.underlying25 hf
  rw [n26] at hcs
  obtain ⟨l⟩ := cs
  match l, hcs with
  | [c0, c1, c2, c3, c4, c5, c6], _ =>
    have g0 : DataW.trod enc Try.prog W 0 (fun _ => true) true n 3 (([c0, c1, c2, c3, c4, c5, c6].drop 0).take (Try.prog.cellsOf 3)) = xs[0]? := hfs 0 _ rfl
    have g1 : DataW.trod enc Try.prog W 0 (fun _ => true) true n 3 (([c0, c1, c2, c3, c4, c5, c6].drop 1).take (Try.prog.cellsOf 3)) = xs[1]? := hfs 1 _ rfl
    have g2 : DataW.trod enc Try.prog W 0 (fun _ => true) true n 3 (([c0, c1, c2, c3, c4, c5, c6].drop 2).take (Try.prog.cellsOf 3)) = xs[2]? := hfs 2 _ rfl
    have g3 : DataW.trod enc Try.prog W 0 (fun _ => true) true n 3 (([c0, c1, c2, c3, c4, c5, c6].drop 3).take (Try.prog.cellsOf 3)) = xs[3]? := hfs 3 _ rfl
    have g4 : DataW.trod enc Try.prog W 0 (fun _ => true) true n 9 (([c0, c1, c2, c3, c4, c5, c6].drop 4).take (Try.prog.cellsOf 9)) = xs[4]? := hfs 4 _ rfl
    have g5 : DataW.trod enc Try.prog W 0 (fun _ => true) true n 22 (([c0, c1, c2, c3, c4, c5, c6].drop 5).take (Try.prog.cellsOf 22)) = xs[5]? := hfs 5 _ rfl
    have g6 : DataW.trod enc Try.prog W 0 (fun _ => true) true n 23 (([c0, c1, c2, c3, c4, c5, c6].drop 6).take (Try.prog.cellsOf 23)) = xs[6]? := hfs 6 _ rfl
    rw [Nint] at g0
    rw [Nint] at g1
    rw [Nint] at g2
    rw [Nint] at g3
    rw [Nstr] at g4
    rw [Npfs] at g5
    rw [Nchs] at g6
    obtain ⟨y0, e0⟩ : ∃ x, xs[0]? = some x := ⟨_, List.getElem?_eq_getElem (by rw [hxl]; decide)⟩
    obtain ⟨y1, e1⟩ : ∃ x, xs[1]? = some x := ⟨_, List.getElem?_eq_getElem (by rw [hxl]; decide)⟩
    obtain ⟨y2, e2⟩ : ∃ x, xs[2]? = some x := ⟨_, List.getElem?_eq_getElem (by rw [hxl]; decide)⟩
    obtain ⟨y3, e3⟩ : ∃ x, xs[3]? = some x := ⟨_, List.getElem?_eq_getElem (by rw [hxl]; decide)⟩
    obtain ⟨y4, e4⟩ : ∃ x, xs[4]? = some x := ⟨_, List.getElem?_eq_getElem (by rw [hxl]; decide)⟩
    obtain ⟨y5, e5⟩ : ∃ x, xs[5]? = some x := ⟨_, List.getElem?_eq_getElem (by rw [hxl]; decide)⟩
    obtain ⟨y6, e6⟩ : ∃ x, xs[6]? = some x := ⟨_, List.getElem?_eq_getElem (by rw [hxl]; decide)⟩
    obtain ⟨z0, k0, _⟩ := DataW.trod_int Try.underlying3 (g0.trans e0)
    obtain ⟨z1, k1, _⟩ := DataW.trod_int Try.underlying3 (g1.trans e1)
    obtain ⟨z2, k2, _⟩ := DataW.trod_int Try.underlying3 (g2.trans e2)
    obtain ⟨z3, k3, _⟩ := DataW.trod_int Try.underlying3 (g3.trans e3)
    obtain ⟨z4, k4, _⟩ := DataW.trod_string Try.underlying9 (g4.trans e4)
    obtain ⟨a5, cap5, l5, k5, hk5⟩ := pfs_in (v := c5) (g5.trans e5)
    obtain ⟨a6, cap6, l6, k6, hk6⟩ := chs_in (v := c6) (g6.trans e6)
    simp at k0 k1 k2 k3 k4
    subst k0; subst k1; subst k2; subst k3; subst k4; subst k5; subst k6
    exact ⟨⟨z0, z1, z2, z3, z4, l5, l6⟩, a5, l5.length, cap5, a6, l6.length, cap6, rfl, rfl, hk5, rfl, hk6⟩
end Go.Proofs.Ytbcemghkmmbmdaa
