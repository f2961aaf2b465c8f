/-
  How it stands while what was told is written over: what came in, what was copied ahead, and the rows that are written.
-/
import Derived.Test.YtcjkficpiedpfaaDoorTrStay
import Derived.Test.YtcjkficpiedpfaaDoorTrLBelow
namespace Go.Proofs.YtcjkficpiedpfaaDoor.Tree
open Go.RowKit Route Chunk

/-- A row of one's own, from block B on and ahead of block C, whatever it holds. -/
def RowIn (B C : Nat) (e : TypeId) (s : Nat) (a : Option Addr) (n cap : Nat) (w : World) : Prop := (∃ xs, w.ownsRow B e s (.slice a n cap) n xs) ∧ ∀ x, a = some x → x.block < C

theorem RowIn.far {B C : Nat} {e : TypeId} {s : Nat} {a : Option Addr} {n cap : Nat} {w : World} (h : RowIn B C e s a n cap w) {g i : Nat} (u : Value) (hg : g < B) : RowIn B C e s a n cap (w.setCell ⟨g, i, none⟩ u) := by
  obtain ⟨⟨xs, h1⟩, h2⟩ := h
  exact ⟨⟨xs, own_farG h1 hg⟩, h2⟩

/-- A row in a block behind all of another one's. -/
theorem RowIn.far2 {B C : Nat} {e : TypeId} {s : Nat} {a : Option Addr} {n cap : Nat} {w : World} (h : RowIn B C e s a n cap w) {g i : Nat} (u : Value) (hg : C ≤ g) : RowIn B C e s a n cap (w.setCell ⟨g, i, none⟩ u) := by
  obtain ⟨⟨xs, h1⟩, h2⟩ := h
  refine ⟨⟨xs, h1.1, ?_⟩, h2⟩
  rcases h1.2 with h3 | ⟨g', cap', cur, h3, h4, h5, h6⟩
  · exact .inl h3
  · refine .inr ⟨g', cap', cur, h3, h4, ?_, h6⟩
    simp only [Value.slice.injEq] at h3
    have := h2 _ h3.1
    simp only at this
    rw [← h5, World.setCell]
    simp [Array.getElem?_modify, show g ≠ g' by omega]

theorem RowIn.of {B : Nat} {e : TypeId} {s : Nat} {a : Option Addr} {n cap : Nat} {w w' : World} {xs : List Value} (h : w.ownsRow B e s (.slice a n cap) n xs) (hb : Below w.heap.size w w') : RowIn B w.heap.size e s a n cap w' := by
  refine ⟨⟨xs, own30_later h hb⟩, ?_⟩
  rintro x rfl
  rcases h.2 with ⟨h3, _⟩ | ⟨g', cap', cur, h3, h4, h5, h6⟩
  · simp at h3
  · simp only [Value.slice.injEq, Option.some.injEq] at h3
    rw [h3.1]
    exact (Array.getElem?_eq_some_iff.1 h5).1

/-- What a store needs, and what it leaves. -/
theorem RowIn.store {B C : Nat} {e : TypeId} {s : Nat} {a : Option Addr} {n cap : Nat} {w : World} (h : RowIn B C e s a n cap w) (j : Nat) (hj : j < n * s) (u : Value) :
    ∃ g, a = some ⟨g, 0, none⟩ ∧ B ≤ g ∧ g < C ∧ (∃ x, w.cell? ⟨g, j, none⟩ = some x) ∧ w.frozen? ⟨g, j, none⟩ = false ∧ RowIn B C e s a n cap (w.setCell ⟨g, j, none⟩ u) := by
  obtain ⟨⟨xs, h1⟩, h2⟩ := h
  rcases h1.2 with ⟨_, h3⟩ | ⟨g, cap', cur, h3, h4, _⟩
  · subst h3; omega
  · simp only [Value.slice.injEq] at h3
    obtain ⟨rfl, _, _⟩ := h3
    refine ⟨g, rfl, h4, h2 _ rfl, ⟨xs[j]'(by rw [h1.1]; exact hj), ?_⟩, h1.frozenAt j, ⟨_, (h1.stored j u).1⟩, h2⟩
    rw [h1.cellAt j hj, List.getElem?_eq_getElem]

/-- How it stands: below all is as it was; a row of entries, and one of texts whose slice lies in block y, may be written; the entries that were copied stay. -/
def St (w5 : World) (a6 : Option Addr) (m6 cap6 : Nat) (B6 y : Nat) (a7 : Option Addr) (kn c7 : Nat) (C : Nat) (v12 : Value) (Z : List ((ByteArray × Int × List ByteArray) × Value)) (wr : World) : Prop :=
  Below w5.heap.size w5 wr ∧ RowIn w5.heap.size B6 30 3 a6 m6 cap6 wr ∧ wr.cell? ⟨y, 2, none⟩ = some (.slice a7 kn c7) ∧ RowIn B6 y 9 1 a7 kn c7 wr ∧ Row30 C v12 Z wr ∧ C ≤ wr.heap.size ∧ w5.heap.size ≤ B6 ∧ B6 ≤ y ∧ y < C

theorem cell_far {w : World} {g i y k : Nat} {u x : Value} (h : w.cell? ⟨y, k, none⟩ = some x) (hg : g ≠ y) : (w.setCell ⟨g, i, none⟩ u).cell? ⟨y, k, none⟩ = some x := by
  rw [← h]
  refine World.cell?_of_block ?_
  rw [World.setCell]
  simp [Array.getElem?_modify, hg]

theorem St.one {w5 : World} {a6 : Option Addr} {m6 cap6 B6 y : Nat} {a7 : Option Addr} {kn c7 C : Nat} {v12 : Value} {Z : List ((ByteArray × Int × List ByteArray) × Value)} {wr : World} (h : St w5 a6 m6 cap6 B6 y a7 kn c7 C v12 Z wr) (j : Nat) (hj : j < m6 * 3) (u : Value) :
    ∃ g, a6 = some ⟨g, 0, none⟩ ∧ (∃ x, wr.cell? ⟨g, j, none⟩ = some x) ∧ wr.frozen? ⟨g, j, none⟩ = false ∧ St w5 a6 m6 cap6 B6 y a7 kn c7 C v12 Z (wr.setCell ⟨g, j, none⟩ u) := by
  obtain ⟨h1, h2, h3, h4, h5, h6, h7, h8, h9⟩ := h
  obtain ⟨g, e, hB, hC, hx, hf, hr⟩ := h2.store j hj u
  exact ⟨g, e, hx, hf, h1.setCell hB u, hr, cell_far h3 (by omega), h4.far u hC, h5.far (by omega), by simpa [World.setCell] using h6, h7, h8, h9⟩

theorem St.two {w5 : World} {a6 : Option Addr} {m6 cap6 B6 y : Nat} {a7 : Option Addr} {kn c7 C : Nat} {v12 : Value} {Z : List ((ByteArray × Int × List ByteArray) × Value)} {wr : World} (h : St w5 a6 m6 cap6 B6 y a7 kn c7 C v12 Z wr) (j : Nat) (hj : j < kn) (u : Value) :
    ∃ g, a7 = some ⟨g, 0, none⟩ ∧ (∃ x, wr.cell? ⟨g, j, none⟩ = some x) ∧ wr.frozen? ⟨g, j, none⟩ = false ∧ St w5 a6 m6 cap6 B6 y a7 kn c7 C v12 Z (wr.setCell ⟨g, j, none⟩ u) := by
  obtain ⟨h1, h2, h3, h4, h5, h6, h7, h8, h9⟩ := h
  obtain ⟨g, e, hB, hC, hx, hf, hr⟩ := h4.store j (by omega) u
  exact ⟨g, e, hx, hf, h1.setCell (Nat.le_trans h7 hB) u, h2.far2 u hB, cell_far h3 (by omega), hr, h5.far (by omega), by simpa [World.setCell] using h6, h7, h8, h9⟩

set_option maxRecDepth 100000 in
theorem index_text (x : Addr) (n cap i : Nat) (hi : i < n) (w : World) : (Instr.indexAt 28 (.slice (some x) n cap) (.int .i64 (i : Int))).run Tryd.prog w = .ok (.pointer (some (x.add (i * 1)))) w := by
  rw [run_indexAt_slice w 28 x n cap .i64 i (by kernel_rfl), if_pos (by omega)]
  rfl

theorem index_ent0 (g n cap i j : Nat) (hj : j = i * 3) (hi : i < n) (w : World) : (Instr.indexAt 22 (.slice (some ⟨g, 0, none⟩) n cap) (.int .i64 (i : Int))).run Tryd.prog w = .ok (.pointer (some ⟨g, j, none⟩)) w := by
  rw [index_ent _ n cap i hi, Go.WideShapes.add_plain, Nat.zero_add, hj]

set_option maxHeartbeats 4000000 in
set_option maxRecDepth 100000 in
theorem stays_none (a : Option Addr) (n cap : Nat) (l : List (ByteArray × Int × List ByteArray)) (fa : Option Addr) (fn fcap : Nat) (fl : List (ByteArray × ByteArray)) (mn mx mk : Int) (path : ByteArray) (w : World) (hg : Known w) (hl : EntsIn w a n cap l) (hfl : fn = fl.length ∧ LiesF w fa fl) (hp : path.size ≤ maxLen)
    (h : ¬ (EntsOk n l ∧ FilesOk fn fl ∧ path.size ≤ 2000)) :
    Calls Tryd.prog 7 #[.slice a n cap, .slice fa fn fcap, cutV mn mx mk, .string path] w fun e w' => e = .returned (.bool true) ∧ Below w.heap.size w w' := by
  have HUP : Hid (Calls Tryd.prog 9 #[] (w.alloc (.cells #[.int .i64 mn, .int .i64 mx, .int .i64 mk] 43)) fun e w' => e = .returned (.bool true) ∧ Below (w.alloc (.cells #[.int .i64 mn, .int .i64 mx, .int .i64 mk] 43)).heap.size (w.alloc (.cells #[.int .i64 mn, .int .i64 mx, .int .i64 mk] 43)) w') := up_any _ (hg.below ((Below.refl _ _).alloc (Nat.le_refl _) _) (Nat.le_refl _))
  have HSH : Hid (∀ W, Below w.heap.size w W → Calls Tryd.prog 10 #[.slice a n cap] W fun e w' => Shorts e n l ∧ w' = W) := fun W hb => short_any a n cap l W hl.1 (hl.2.1.below hb (Nat.le_refl _))
  have HFW : Hid (∀ W, Below w.heap.size w W → Calls Tryd.prog 18 #[.slice fa fn fcap] W fun e w' => Fews e fn fl ∧ w' = W) := fun W hb => few_any fa fn fcap fl W hfl.1 (hfl.2.below hb (Nat.le_refl _))
  obtain ⟨z, hz⟩ : ∃ z, z = path.size := ⟨_, rfl⟩
  have hlen := Tree.len_text path z hz
  have HH : Hid (¬ ((n ≤ 100 ∧ ∀ j, j < n → shortE (entOf l j)) ∧ (fn ≤ 100 ∧ ∀ j, j < fn → (fileOf fl j).1.size ≤ 2000 ∧ (fileOf fl j).2.size ≤ 3000) ∧ z ≤ 2000)) := by
    rw [hz]
    rintro ⟨h1, h2, h3⟩
    exact h ⟨⟨hl.1, h1.1, h1.2⟩, ⟨hfl.1, by omega, h2.2⟩, h3⟩
  have hzm : z ≤ 9223372036854775807 := by rw [hz]; unfold maxLen at hp; omega
  clear hg hl hfl hp h hz
  unfold cutV
  go_enter Tryd.func7, Tryd.ntmps7
  go_wp2_with fail
  refine HUP.out.mono ?_
  rintro e w1 ⟨rfl, hb1⟩
  obtain ⟨_, _, _, hbw, _⟩ := cut_box hb1
  have HBW : Hid (Below w.heap.size w w1) := hbw
  clear hb1 hbw
  go_wp2_with fail
  refine (HSH.out _ HBW.out).mono ?_
  rintro e w2 ⟨⟨b, rfl, hb⟩, rfl⟩
  have HB1 : Hid (b = true → n ≤ 100 ∧ ∀ j, j < n → shortE (entOf l j)) := hb
  clear hb
  go_wp2_with fail
  refine (HFW.out _ HBW.out).mono ?_
  rintro e w3 ⟨⟨b', rfl, hb'⟩, rfl⟩
  have HB2 : Hid (b' = true → fn ≤ 100 ∧ ∀ j, j < fn → (fileOf fl j).1.size ≤ 2000 ∧ (fileOf fl j).2.size ≤ 3000) := hb'
  clear hb'
  cases b with
  | false =>
    go_wp2
    go_ret
    exact ⟨rfl, HBW.out⟩
  | true =>
    cases b' with
    | false =>
      go_wp2
      go_ret
      exact ⟨rfl, HBW.out⟩
    | true =>
      have hz2 : ¬ z ≤ 2000 := fun h => HH.out ⟨HB1.out rfl, HB2.out rfl, h⟩
      clear HB1 HB2 HH
      go_wp2
      go_ret
      exact ⟨rfl, HBW.out⟩
end Go.Proofs.YtcjkficpiedpfaaDoor.Tree
