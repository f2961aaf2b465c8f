/-
  What the walks are told of the arguments: bytes that came in, a number.
-/
import Derived.Test.YtfcnbdnmnmihjaaLgMem
import Derived.ProofKit
import Derived.OpenShut
import Derived.ShutString
import Derived.ChangeOld
import Derived.Below
import Derived.Deep.Slices
namespace Go.Proofs.Ytfcnbdnmnmihjaa
open Go.ChangeShapes Go.WideShapes Go.ChangeAt Go.RowKit Go.Deep

theorem own : ownKnob Try.prog.godebug = none := by kernel_rfl
theorem laidOut : laidOutB Try.prog = true := by kernel_rfl

theorem i64_in {n : Int} (h : (Lit.int .i64 n).wf = true) : -9223372036854775808 ≤ n ∧ n ≤ 9223372036854775807 := by
  have hb := bounds_i64 h
  omega

theorem u8_nat {n : Int} (h : (Lit.int .u8 n).wf = true) : n = ((UInt8.ofNat n.toNat).toNat : Int) := by
  have hb := bounds_u8 h
  rw [u8_small (by omega)]; omega

/-- A slice of bytes that came in. -/
theorem bytes_in {H : Type} {enc : TypeId × Value → H} {W : World} {a : Option Addr} {len cap : Nat} {d : DataW H} {p : List MemPlace}
    (h : DataW.Trod enc Try.prog W 0 (fun _ => true) true 31 (Value.slice a len cap) d p) :
    ∃ l : List UInt8, Hid (len = l.length) ∧ Lies W a l ∧ len ≤ cap ∧ cap ≤ maxLen ∧ (a = none → len = 0 ∧ cap = 0) := by
  obtain ⟨fuel, hf⟩ := h
  rcases open_ints Try.underlying31 Try.underlying5 (by kernel_rfl) hf with ⟨hcs, _⟩ | ⟨x, l', c, zs, hcs, _, hl, hm, hz, _, hcell, hwz⟩
  · simp [Value.cells] at hcs
    obtain ⟨rfl, rfl, rfl⟩ := hcs
    exact ⟨[], rfl, Or.inl rfl, Nat.le_refl _, Nat.zero_le _, fun _ => ⟨rfl, rfl⟩⟩
  · simp [Value.cells] at hcs
    obtain ⟨rfl, rfl, rfl⟩ := hcs
    have hz' : zs.length = cap := by simpa using hz
    refine ⟨(zs.take len).map (fun z => UInt8.ofNat z.toNat), by show _ = _; simp; omega, Or.inr ⟨x, rfl, fun j u hj => ?_⟩, hl, hm, fun h => by cases h⟩
    simp only [bv, List.getElem?_map, List.getElem?_take, Option.map_map, Option.map_eq_some_iff] at hj
    obtain ⟨z, hz1, hz2⟩ := hj
    split at hz1
    · have hjl : j < zs.length := (List.getElem?_eq_some_iff.1 hz1).1
      have hzz : zs.getD j 0 = z := by simp [List.getD_eq_getElem?_getD, hz1]
      rw [hcell j hjl, hzz, ← hz2]
      show some (Value.int .u8 z) = some (Value.int .u8 ((UInt8.ofNat z.toNat).toNat : Int))
      rw [← u8_nat (hwz z (List.mem_of_getElem? hz1))]
    · cases hz1

/-- A slice of bytes that was read. -/
theorem bytes_read {H : Type} {enc : TypeId × Value → H} {W : World} {v : Value} {fuel : Nat} {x : DataW H × List MemPlace}
    (hf : DataW.trod enc Try.prog W 0 (fun _ => true) true fuel 31 [v] = some x) : ∃ a k cap l, v = .slice a k cap ∧ Hid (k = l.length) ∧ Lies W a l ∧ k ≤ cap ∧ cap ≤ maxLen ∧ (a = none → k = 0 ∧ cap = 0) := by
  obtain ⟨d, p⟩ := x
  have hs : ∃ a k cap, v = .slice a k cap := by
    rcases open_ints Try.underlying31 Try.underlying5 (by kernel_rfl) hf with ⟨hcs, _⟩ | ⟨y, l', c, zs, hcs, _⟩
    · simp only [List.cons.injEq, and_true] at hcs; exact ⟨_, _, _, hcs⟩
    · simp only [List.cons.injEq, and_true] at hcs; exact ⟨_, _, _, hcs⟩
  obtain ⟨a, k, cap, rfl⟩ := hs
  obtain ⟨l, h1⟩ := bytes_in (a := a) (len := k) (cap := cap) (d := d) (p := p) ⟨fuel, hf⟩
  exact ⟨a, k, cap, l, rfl, h1⟩

theorem cells_one {w : World} {a : Addr} {cs : List Value} (h : w.cells? 0 a 1 = some cs) : ∃ c0, cs = [c0] ∧ w.cell? a = some c0 := by
  unfold World.cells? at h
  rw [if_pos (Nat.zero_le _), show List.range 1 = [0] from rfl] at h
  simp only [List.mapM_cons, List.mapM_nil, Option.bind_eq_bind, Option.bind_eq_some_iff, Option.pure_def, Option.some.injEq] at h
  obtain ⟨c0, h0, r1, rfl, rfl⟩ := h
  exact ⟨c0, rfl, h0⟩

/-- A list of things, each of which is there. -/
theorem list_of {α : Type} (d : α) (P : Nat → α → Prop) : ∀ n, (∀ j, j < n → ∃ x, P j x) → ∃ l : List α, l.length = n ∧ ∀ j (h : j < l.length), P j l[j]
  | 0, _ => ⟨[], rfl, fun j h => absurd h (by simp)⟩
  | n + 1, h => by
    obtain ⟨l, hl, hp⟩ := list_of d P n fun j hj => h j (by omega)
    obtain ⟨x, hx⟩ := h n (by omega)
    refine ⟨l ++ [x], by simp [hl], fun j hj => ?_⟩
    by_cases hlt : j < l.length
    · rw [List.getElem_append_left hlt]; exact hp j hlt
    · simp only [List.length_append, List.length_singleton] at hj
      have e : j = l.length := by omega
      subst e
      rw [List.getElem_append_right (Nat.le_refl _)]
      simp only [Nat.sub_self, List.getElem_cons_zero]
      rw [hl]; exact hx

/-- Rows of bytes that came in. -/
theorem rows_in {H : Type} {enc : TypeId × Value → H} {W : World} {a : Option Addr} {len cap : Nat} {d : DataW H} {p : List MemPlace}
    (h : DataW.Trod enc Try.prog W 0 (fun _ => true) true 32 (Value.slice a len cap) d p) :
    ∃ rs : List (List UInt8), Hid (len = rs.length) ∧ SRows (fun k => k < W.heap.size) W a rs ∧ len ≤ cap ∧ cap ≤ maxLen ∧ (a = none → len = 0 ∧ cap = 0) := by
  obtain ⟨fuel, hf⟩ := h
  rcases open_slice Try.underlying32 hf with ⟨hcs, _⟩ | ⟨x, len', cap', m, n, D, Pl, hcs, _, hl, hcm, hm, _, hel⟩
  · simp [Value.cells] at hcs
    obtain ⟨rfl, rfl, rfl⟩ := hcs
    exact ⟨[], rfl, .inl rfl, Nat.le_refl _, Nat.zero_le _, fun _ => ⟨rfl, rfl⟩⟩
  · simp [Value.cells] at hcs
    obtain ⟨rfl, rfl, rfl⟩ := hcs
    have hm' : m = cap := by simpa using hm
    have n31 : Try.prog.cellsOf 31 = 1 := by kernel_rfl
    rw [n31] at hel
    have key : ∀ j, j < len → ∃ r : List UInt8, ∃ u, W.cell? (x.add j) = some u ∧ Slc (fun k => k < W.heap.size) W u r := by
      intro j hj
      obtain ⟨cs', h1, h2⟩ := hel j (by omega)
      rw [Nat.mul_one] at h1
      obtain ⟨c0, rfl, hc0⟩ := cells_one h1
      obtain ⟨a', k', c', l', rfl, e1, e2, e3, e4, e5⟩ := bytes_read h2
      exact ⟨l', _, hc0, a', k', c', rfl, e1, e3, e4, e2, e5, fun y hy => by subst hy; exact e2.lt⟩
    obtain ⟨rs, hrs, hP⟩ := list_of [] (fun j r => ∃ u, W.cell? (x.add j) = some u ∧ Slc (fun k => k < W.heap.size) W u r) len key
    refine ⟨rs, hrs.symm, ?_, hl, hcm, fun h => by cases h⟩
    by_cases h0 : rs = []
    · exact .inl h0
    · have hp : 0 < rs.length := by cases rs with | nil => exact absurd rfl h0 | cons _ _ => simp
      refine .inr ⟨x, rfl, ?_, hP⟩
      obtain ⟨u, h1, _⟩ := hP 0 hp
      have := World.block_lt_of_cell? W _ h1
      rwa [addr_add_block] at this
end Go.Proofs.Ytfcnbdnmnmihjaa
