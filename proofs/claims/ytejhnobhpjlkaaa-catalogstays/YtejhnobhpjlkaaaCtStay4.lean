/-
  What was told is copied; what is told again.
-/
import Derived.Test.YtejhnobhpjlkaaaCtStay3
namespace Go.Proofs.Ytejhnobhpjlkaaa.Cat
open Go.RowKit Route Tree Order

theorem snaps_copy {w3 w8 w9 : World} {p nv cv : Nat} {v5 : Value} {av : Option Addr} {Z5 Zv : List SZ} (h : Lw w3 p p v5 Z5 w8) (hn : nv = Zv.length) (hn64 : nv ≤ 64) (hV : Zv.map snapOf = Z5.map snapOf ∧ SRow w8.heap.size (.slice av nv cv) Zv w9 ∧ Below w8.heap.size w8 w9) :
    Calls Try.prog 17 #[.slice av nv cv] w9 fun e w' => ∃ aw nw cw Zw, e = .returned (.slice aw nw cw) ∧ nw = Zw.length ∧ nw ≤ 64 ∧ Hid (Zw.map snapOf = Z5.map snapOf ∧ SRow w9.heap.size (.slice aw nw cw) Zw w' ∧ Below w9.heap.size w9 w') := by
  obtain ⟨a0, c0, e0, hl⟩ := hV.2.1.sees
  simp only [Value.slice.injEq] at e0
  obtain ⟨rfl, _, rfl⟩ := e0
  refine (copyS_any av nv cv (Zv.map snapOf) w9 (by simp [hn]) hl (by omega) (by rw [hV.1]; exact h.inv.few)).mono ?_
  rintro e w' ⟨v, Zw, rfl, hz, hr, hb⟩
  obtain ⟨aw, cw, rfl, _⟩ := hr.sees
  have e1 : Zw.length = Zv.length := by have := congrArg List.length hz; simpa using this
  exact ⟨aw, _, cw, Zw, rfl, rfl, by omega, hz.trans hV.1, hr, hb⟩

theorem sx_end {w3 w11 w12 wr : World} {p nx n : Nat} {v5 vx vw : Value} {Z5 Zx Zw : List SZ} {B : Nat} (h : Lw w3 p p v5 Z5 w11) (hw : SRow B vw Zw w11) (hb : Below w11.heap.size w11 w12) (hx : Sx w11.heap.size w12 vx nx Zx wr) (_ : n = nx) : Lw w3 p p v5 Z5 wr ∧ SRow B vw Zw wr := by
  have h1 : Below w11.heap.size w11 wr := hb.trans hx.bel
  exact ⟨h.below h1, hw.below h1⟩

theorem zOf_len {Y : List (Ent × Value)} {j : Nat} (h : ∀ z ∈ Y, ∃ az cz, z.2 = .slice az z.1.2.2.length cz ∧ z.1.2.2.length ≤ maxLen) (hj : j < Y.length) : ∃ az zn cz, (zOf Y j).2 = .slice az zn cz ∧ zn = (zOf Y j).1.2.2.length ∧ zn ≤ maxLen := by
  obtain ⟨az, cz, e, hl⟩ := h _ (zOf_mem hj)
  exact ⟨az, _, cz, e, rfl, hl⟩

theorem szAt_len {B : Nat} {v : Value} {Z : List SZ} {w : World} (h : SRow B v Z w) {j : Nat} (hj : j < Z.length) : ∃ az zn cz, (szAt Z j).2.2.2.1 = .slice az zn cz ∧ zn = (szAt Z j).2.2.2.2.length ∧ zn ≤ maxLen := by
  have ho := (h.ents _ (sz_mem hj)).1
  rcases ho.2 with ⟨e, h0⟩ | ⟨g, cap, cur, e, _, _, h1, h2, _⟩
  · exact ⟨_, _, _, by rw [e], by omega, by omega⟩
  · exact ⟨_, _, _, e, rfl, by omega⟩
end Go.Proofs.Ytejhnobhpjlkaaa.Cat
