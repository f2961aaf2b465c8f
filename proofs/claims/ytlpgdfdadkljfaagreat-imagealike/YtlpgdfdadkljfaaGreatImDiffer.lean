/-
  Two catalogs apart; Differ of two that are alike; bytes that are turned where they lie.
-/
import Derived.Test.YtlpgdfdadkljfaaGreatImParts2
import Derived.Test.YtlpgdfdadkljfaaGreatCtLw
namespace Go.Proofs.YtlpgdfdadkljfaaGreat.Img
open Go.RowKit Route Tree Order Cat

/-- The one catalog's deed leaves the other one as it is, and they stay apart. -/
theorem img_first {w0 w w' : World} {p p2 : Nat} {v v2 v' : Value} {Z Z2 Z' : List SZ} {r : Rq} {y : An} (h : Lw w0 p p v Z w) (h2 : Lw w0 p2 p2 v2 Z2 w) (hd : ∀ k, Owns p v Z k → ¬ Owns p2 v2 Z2 k) (hD : Did p p v Z r w y v' Z' w') :
    Lw w0 p p v' Z' w' ∧ Lw w0 p2 p2 v2 Z2 w' ∧ ∀ k, Owns p v' Z' k → ¬ Owns p2 v2 Z2 k := by
  have h' := h.did hD
  refine ⟨h', ⟨h2.cat.beside h.cat hD.next fun k h1 h3 => hd k h3 h1, h2.inv, h'.bel, h2.low, Nat.le_trans h2.fit hD.next.turn.size⟩, fun k hk h3 => ?_⟩
  rcases hD.next.owns k hk with h1 | h1
  · exact hd k h1 h3
  · have := (h2.cat.owns h3).2
    omega

/-- The other catalog's deed. -/
theorem img_second {w0 w w' : World} {p p2 : Nat} {v v2 v' : Value} {Z Z2 Z' : List SZ} {r : Rq} {y : An} (h : Lw w0 p p v Z w) (h2 : Lw w0 p2 p2 v2 Z2 w) (hd : ∀ k, Owns p v Z k → ¬ Owns p2 v2 Z2 k) (hD : Did p2 p2 v2 Z2 r w y v' Z' w') :
    Lw w0 p p v Z w' ∧ Lw w0 p2 p2 v' Z' w' ∧ ∀ k, Owns p v Z k → ¬ Owns p2 v' Z' k := by
  have h' := h2.did hD
  refine ⟨⟨h.cat.beside h2.cat hD.next hd, h.inv, h'.bel, h.low, Nat.le_trans h.fit hD.next.turn.size⟩, h', fun k hk h3 => ?_⟩
  rcases hD.next.owns k h3 with h1 | h1
  · exact hd k hk h1
  · have := (h.cat.owns hk).2
    omega

/-- A catalog stays where its blocks do. -/
theorem cat_keep {B p : Nat} {v : Value} {Z : List SZ} {w w' : World} (h : Cat B p v Z w) (hk : ∀ g, B ≤ g → g < w.heap.size → w'.heap[g]? = w.heap[g]?) : Cat B p v Z w' :=
  ⟨(hk p h.low (Array.getElem?_eq_some_iff.1 h.box).1).trans h.box, h.low, row_keep h.row hk, fun z hz => ⟨row_keep (h.ents z hz).1 hk, fun y hy => row_keep ((h.ents z hz).2 y hy) hk⟩, h.apart⟩

/-- Bytes in block g that may be turned. -/
structure Pb (g n : Nat) (W : World) : Prop where
  box : ∃ cur, W.heap[g]? = some (.cells cur 5 (0, 0)) ∧ ∀ i, i < n → ∃ x : Int, cur[i]? = some (.int .u8 x)
theorem Pb.cell {g n : Nat} {W : World} (h : Pb g n W) {i : Nat} (hi : i < n) : ∃ x : Int, W.cell? ⟨g, i, none⟩ = some (.int .u8 x) ∧ W.frozen? ⟨g, i, none⟩ = false := by
  obtain ⟨cur, h1, h2⟩ := h.box
  obtain ⟨x, hx⟩ := h2 i hi
  exact ⟨x, by simp [World.cell?, h1, hx], by simp [World.frozen?, h1]⟩
theorem Pb.set {g n : Nat} {W : World} (h : Pb g n W) (i : Nat) (y : Int) : Pb g n (W.setCell ⟨g, i, none⟩ (.int .u8 y)) := by
  obtain ⟨cur, h1, h2⟩ := h.box
  refine ⟨cur.setIfInBounds i (.int .u8 y), ?_, fun j hj => ?_⟩
  · simp [World.setCell, Array.getElem?_modify, h1]
  · obtain ⟨x, hx⟩ := h2 j hj
    have hjs := (Array.getElem?_eq_some_iff.1 hx).1
    by_cases e : i = j
    · subst e
      exact ⟨y, by simp [hjs]⟩
    · exact ⟨x, by rw [Array.getElem?_setIfInBounds_ne e]; exact hx⟩
theorem tn_set {g : Nat} {w W : World} (h : Tn g w W) (i : Nat) (u : Value) : Tn g w (W.setCell ⟨g, i, none⟩ u) :=
  ⟨h.os, h.tape, h.output, by simpa using h.size, fun k hk hne => (Below.heap_setCell _ _ _ _ hne).trans (h.block k hk hne)⟩

/-- Bytes of one's own: where they lie. -/
theorem buf_own {B n : Nat} {v : Value} {l : List UInt8} {W0 w : World} (h : Buf B v l W0 w) (hn : n = l.length) (h0 : 0 < n) :
    ∃ g c, v = .slice (some ⟨g, 0, none⟩) n c ∧ Hid (B ≤ g ∧ g < w.heap.size ∧ n ≤ c ∧ c ≤ maxLen ∧ Go.Proofs.YtlpgdfdadkljfaaGreat.Lies w (some ⟨g, 0, none⟩) l ∧ Pb g n w) := by
  subst hn
  obtain ⟨a, c, rfl, h1, h2, h3, h4, h5⟩ := h.form
  rcases h.1.2 with ⟨e, _⟩ | ⟨g, cap, cur, e, hb, hg, hnc, hcm, hcs, ht⟩
  · simp only [Value.slice.injEq] at e
    omega
  · simp only [Value.slice.injEq] at e
    obtain ⟨rfl, -, rfl⟩ := e
    refine ⟨g, c, rfl, hb, (Array.getElem?_eq_some_iff.1 hg).1, h1, h2, h3, cur, hg, fun i hi => ?_⟩
    have h6 : (cur.toList.take (l.length * 1))[i]? = (bv l)[i]? := by rw [ht]
    rw [List.getElem?_take_of_lt (by omega)] at h6
    refine ⟨(l[i]).toNat, ?_⟩
    rw [← Array.getElem?_toList, h6]
    simp [bv, hi]

set_option maxRecDepth 100000 in
theorem index_byte (g n cap i : Nat) (hi : i < n) (w : World) : (Instr.indexAt 23 (.slice (some ⟨g, 0, none⟩) n cap) (.int .i64 (i : Int))).run Tryz.prog w = .ok (.pointer (some ⟨g, i, none⟩)) w := by
  rw [run_indexAt_slice w 23 ⟨g, 0, none⟩ n cap .i64 i (by kernel_rfl), if_pos (by omega)]
  have e : (⟨g, 0, none⟩ : Addr).add (i * 1) = ⟨g, i, none⟩ := by unfold Addr.add; split <;> simp_all
  rw [← e]
  rfl

theorem lies_tn {g B : Nat} {l : List UInt8} {w W : World} (h : Go.Proofs.YtlpgdfdadkljfaaGreat.Lies w (some ⟨B, 0, none⟩) l) (hT : Tn g w W) (hne : B ≠ g) (hB : B < w.heap.size) : Go.Proofs.YtlpgdfdadkljfaaGreat.Lies W (some ⟨B, 0, none⟩) l := by
  rcases h with h | ⟨x, hx, h⟩
  · exact .inl h
  · refine .inr ⟨x, hx, fun j u hj => ?_⟩
    rw [← h j u hj]
    cases hx
    have ea : (⟨B, 0, none⟩ : Addr).add j = ⟨B, j, none⟩ := by unfold Addr.add; split <;> simp_all
    rw [ea]
    exact World.cell?_of_block (hT.block B hB hne)

set_option maxHeartbeats 2000000 in
set_option maxRecDepth 100000 in
theorem differ_none {B p B2 p2 : Nat} {v v2 : Value} {Z Z2 : List SZ} {w : World} (h : Cat B p v Z w) (h2 : Cat B2 p2 v2 Z2 w) (hI : Inv (Z.map snapOf)) (he : Z2.map snapOf = Z.map snapOf) :
    Calls Tryz.prog 14 #[.pointer (some ⟨p, 0, none⟩), .pointer (some ⟨p2, 0, none⟩)] w fun e w' => e = .returned (.tuple #[.slice none 0 0, .nilIface]) ∧ Below w.heap.size w w' := by
  have HP2 : Hid (Calls _ _ _ _ _) := partsOf_any h2 (by rw [he]; exact hI)
  rw [he] at HP2
  have HC : Hid (Cat B p v Z w ∧ Inv (Z.map snapOf)) := ⟨h, hI⟩
  clear h h2 hI
  go_enter Tryz.func14, Tryz.ntmps14
  go_wp2_with fail
  refine HP2.out.mono ?_
  rintro e w1 ⟨v1, rfl, hs1⟩
  have HP1 : Hid (Calls _ _ _ _ _) := partsOf_any (HC.out.1.below hs1.2.1) HC.out.2
  obtain ⟨g1, c1, rfl, -, -, -, -, hc1⟩ := hs1.formN (n := 8) (parts_len _).symm (by omega)
  have HK1 : Hid (∀ j, j < 8 → w1.cell? ⟨g1, j, none⟩ = some (.string ((partsL (Z.map snapOf)).getD j ByteArray.empty))) := fun j hj => hc1 j (by rw [parts_len]; exact hj)
  have HB1 : Hid (Below w.heap.size w w1) := hs1.2.1
  clear hs1 hc1 HP2 HC
  go_wp2_with fail
  refine HP1.out.mono ?_
  rintro e w2 ⟨v3, rfl, hs2⟩
  obtain ⟨g2, c2, rfl, -, -, -, -, hc2⟩ := hs2.formN (n := 8) (parts_len _).symm (by omega)
  have HK2 : Hid (∀ j, j < 8 → w2.cell? ⟨g1, j, none⟩ = some (.string ((partsL (Z.map snapOf)).getD j ByteArray.empty)) ∧ w2.cell? ⟨g2, j, none⟩ = some (.string ((partsL (Z.map snapOf)).getD j ByteArray.empty))) := fun j hj => ⟨cell_below hs2.2.1 (Nat.le_refl _) (HK1.out j hj), hc2 j (by rw [parts_len]; exact hj)⟩
  have HB2 : Hid (Below w.heap.size w w2) := HB1.out.trans (hs2.2.1.mono HB1.out.size)
  clear hs2 hc2 HP1 HK1 HB1
  go_wp2
  go_loopw [7, 22] (fun t7 t22 wr => ∃ j : Nat, t7 = .slice none 0 0 ∧ t22 = .int .i64 (j : Int) ∧ j ≤ 8 ∧ wr = w2) (fun _ t22 _ => 8 - (intOf t22).toNat)
  case atStart => exact ⟨0, rfl, rfl, Nat.zero_le _, rfl⟩
  case round =>
    obtain ⟨j, rfl, rfl, hj, rfl⟩ := hrel
    by_cases hj8 : j < 8
    · obtain ⟨k1, k2⟩ := HK2.out j hj8
      generalize (partsL (Z.map snapOf)).getD j ByteArray.empty = s at k1 k2
      clear HK2
      go_wp2
      go_roundw
      case rel => exact ⟨j + 1, by first | rfl | trivial, by go_num, by omega, by first | rfl | trivial⟩
      case measure => simp [intOf]; omega
    · go_wp2
      go_ret2
      exact ⟨rfl, HB2.out⟩
end Go.Proofs.YtlpgdfdadkljfaaGreat.Img
