/-
  The contract of partsOf, and of Parts.
-/
import Derived.Test.YtlpgdfdadkljfaaImParts
import Derived.Test.YtlpgdfdadkljfaaImUp
namespace Go.Proofs.Ytlpgdfdadkljfaa.Img
open Go.RowKit Route Tree Order Cat

def partsL (S : List Snap) : List ByteArray := (List.range 8).map fun c => ⟨(encI (ownS c S)).toArray⟩
theorem parts_len (S : List Snap) : (partsL S).length = 8 := by simp [partsL]
theorem parts_take (S : List Snap) {i : Nat} (hi : i < 8) : (partsL S).take (i + 1) = (partsL S).take i ++ [⟨(encI (ownS i S)).toArray⟩] := by
  rw [List.take_add_one]
  congr 1
  simp [partsL, hi]

theorem Arr.start {b B : Nat} {w : World} (h : w.heap[b]? = some (.cells #[nilS, nilS, nilS, nilS, nilS, nilS, nilS, nilS] 86 (0, 0))) : Arr b B [nilS, nilS, nilS, nilS, nilS, nilS, nilS, nilS] [] w := by
  have hv : ∀ c, vat [nilS, nilS, nilS, nilS, nilS, nilS, nilS, nilS] c = nilS := fun c => by
    unfold vat
    match c with
    | 0 => rfl
    | 1 => rfl
    | 2 => rfl
    | 3 => rfl
    | 4 => rfl
    | 5 => rfl
    | 6 => rfl
    | 7 => rfl
    | (c + 8) => simp
  exact ⟨h, rfl, fun c _ => by rw [hv]; exact World.ownsRow_nil _ _ _ _, fun c d _ _ _ => by rw [hv]; exact .inl rfl⟩

theorem sz_take {Z : List SZ} {j : Nat} (h : j < Z.length) : Z.take (j + 1) = Z.take j ++ [szAt Z j] := by
  rw [List.take_add_one]
  simp [szAt, List.getD_eq_getElem?_getD, h]

/-- What stands while the snapshots are parted: the array in b, the snapshots' rows as they were told. -/
structure Pt (b : Nat) (v0 : Value) (Z0 : List SZ) (w1 : World) (vs : List Value) (Z : List SZ) (W : World) : Prop where
  arr : Arr b w1.heap.size vs Z W
  tn : Tn b w1 W
  row : SRow (b + 1) v0 Z0 W

/-- One more snapshot is parted. -/
theorem Pt.push {b : Nat} {v0 : Value} {Z0 : List SZ} {w1 : World} {vs : List Value} {Z : List SZ} {W : World} (h : Pt b v0 Z0 w1 vs Z W) {W0 : World} (hb : Below W.heap.size W W0) {z : SZ} {c : Nat} (hc : c < 8) (hz : z.1 = (c : Int)) (hone : z.2.2.2.1.oneCell' = true) (hlen : Z.length + 1 ≤ 1000000) (hsr : SRow (b + 1) v0 Z0 w1) :
    ∃ xa xn xc w', (Builtin.append_ #[22, 22] 22 #[vat vs c, .slice (some ⟨W0.heap.size, 0, none⟩) 1 1]).run Try.prog (W0.alloc (.cells #[.int .i64 (c : Int), .string z.2.1, .bool z.2.2.1, z.2.2.2.1] 52)) = .ok (.slice xa xn xc) w' ∧
      w'.cell? ⟨b, c, none⟩ = some (vat vs c) ∧ w'.frozen? ⟨b, c, none⟩ = false ∧ Hid (Pt b v0 Z0 w1 (vs.set c (.slice xa xn xc)) (Z ++ [z]) (w'.setCell ⟨b, c, none⟩ (.slice xa xn xc))) ∧ Hid (∀ k, W.heap.size ≤ k → k < W0.heap.size → w'.heap[k]? = W0.heap[k]?) := by
  have h1 := h.tn.size
  have h2 := hb.size
  obtain ⟨v', w', hr, c1, f1, hs, hk, o1, o2, o3, hA, hkn⟩ := (h.arr.below hb).push (by omega) hc hz hone hlen 22
  have ho : ∀ k, k ≠ b → (w'.setCell ⟨b, c, none⟩ v').heap[k]? = w'.heap[k]? := fun k hk => Below.heap_setCell _ _ _ _ hk
  have hkk : ∀ k, k < w1.heap.size → k ≠ b → (w'.setCell ⟨b, c, none⟩ v').heap[k]? = w1.heap[k]? := fun k hk1 hk2 => ((ho k hk2).trans (hk k (by omega) hk1)).trans ((hb.block k (by omega)).trans (h.tn.block k hk1 hk2))
  have hvl := h.arr.len
  have hv : vat (vs.set c v') c = v' := by unfold vat; simp [List.getD_eq_getElem?_getD, show c < vs.length by omega]
  have hrow := hA.row c hc
  rw [hv] at hrow
  obtain ⟨xa, xc, ev, -⟩ := row_lies hrow
  subst ev
  refine ⟨xa, _, xc, w', hr, c1, f1, ⟨hA, ⟨(o1.trans hb.os).trans h.tn.os, (o2.trans hb.tape).trans h.tn.tape, (o3.trans hb.output).trans h.tn.output, by simp; omega, hkk⟩, ?_⟩, fun k hk1 hk2 => hkn k hk2 fun e => by have := ((h.arr.row c hc).lt k e.symm).2; omega⟩
  exact SRow.keep hsr fun g hg1 hg2 => hkk g hg2 (by omega)

theorem vs_eight {vs : List Value} (h : vs.length = 8) : vs.toArray = #[vat vs 0, vat vs 1, vat vs 2, vat vs 3, vat vs 4, vat vs 5, vat vs 6, vat vs 7] := by
  match vs, h with
  | [a, b, c, d, e, f, g, i], _ => rfl

/-- A client's bytes, as a text. -/
theorem part_call {b B : Nat} {v0 : Value} {Z0 : List SZ} {W : World} {vs : List Value} (hA : Arr b B vs Z0 W) (hR : SRow (b + 1) v0 Z0 W) (hB : b + 1 ≤ B) (hI : Inv (Z0.map snapOf)) {i : Nat} (hi : i < 8) :
    ∃ a n c, vat vs i = .slice a n c ∧ Hid (Calls Try.prog 25 #[.slice a n c] W fun e w' => ∃ a3 n3 c3, e = .returned (.slice a3 n3 c3) ∧ Below W.heap.size W w' ∧ Hid ((convert 30 9 (.slice a3 n3 c3)).run Try.prog w' = .ok (.string ⟨(encI (ownS i (Z0.map snapOf))).toArray⟩) w')) := by
  obtain ⟨a, c, ev, _, _, _, hl⟩ := rows_see (own_any (hA.row i hi) hB) (fun z hz => hR.ents z (List.mem_filter.1 hz).1)
  have h1 := inv_len hI
  have h2 : (ownS i (Z0.map snapOf)).length ≤ (Z0.map snapOf).length := List.length_filter_le _ _
  refine ⟨a, _, c, ev, ?_⟩
  rw [own_map] at hl
  refine (bytesOf_any a _ c (ownS i (Z0.map snapOf)) W (by rw [← own_map, List.length_map]) hl (by rw [← List.length_map (f := snapOf), own_map]; omega) (fun s hs => Img.Inv.nfit hI s (List.mem_filter.1 hs).1)).mono ?_
  rintro e w' ⟨v, rfl, hv⟩
  obtain ⟨a3, c3, rfl, h⟩ := conv_buf hv rfl
  exact ⟨a3, _, c3, rfl, hv.2.1, h.out.1 w' (Below.refl _ _)⟩

set_option maxHeartbeats 4000000 in
set_option maxRecDepth 100000 in
theorem partsOf_any {B p : Nat} {v : Value} {Z : List SZ} {w : World} (h : Cat B p v Z w) (hI : Inv (Z.map snapOf)) :
    Calls Try.prog 26 #[.pointer (some ⟨p, 0, none⟩)] w fun e w' => ∃ v', e = .returned v' ∧ Strs w.heap.size v' (partsL (Z.map snapOf)) w w' := by
  have hl := inv_len hI
  obtain ⟨W0, hW0⟩ : ∃ W0, W0 = w.alloc (.cells #[nilS, nilS, nilS, nilS, nilS, nilS, nilS, nilS] 86) := ⟨_, rfl⟩
  have HW0 : Hid (W0 = _) := hW0
  have HB0 : Hid (Below w.heap.size w W0) := by rw [hW0]; exact (Below.refl _ _).alloc (Nat.le_refl _) _
  obtain ⟨a, n, cap, -, hs⟩ := (h.below HB0.out).see
  have HS : Hid (Calls _ _ _ _ _) := snaps_any p a n cap _ W0 hs (by have := hs.len; omega) hI.short
  have HBX : Hid (W0.heap[w.heap.size]? = some (.cells #[nilS, nilS, nilS, nilS, nilS, nilS, nilS, nilS] 86 (0, 0))) := by rw [hW0]; exact (MapKept.heap_alloc w _).1
  have HSZ : Hid (W0.heap.size = w.heap.size + 1) := by show _ = _; rw [hW0]; simp
  have HI : Hid (Inv (Z.map snapOf)) := hI
  generalize Z.map snapOf = S at *
  clear h hs hI hW0
  unfold nilS at HW0
  go_enter Try.func26, Try.ntmps26
  go_wp2_with fail
  rw [← HW0.out]
  refine HS.out.mono ?_
  rintro e w1 ⟨v0, Z0, rfl, hZ, hR, hb⟩
  obtain ⟨a0, c0, rfl, -⟩ := hR.sees
  have HZ : Hid (Z0.map snapOf = S) := hZ
  obtain ⟨n0, hn0⟩ : ∃ n0, n0 = Z0.length := ⟨_, rfl⟩
  have HN0 : Hid (n0 = Z0.length) := hn0
  have hn64 : n0 ≤ 64 := by
    have := congrArg List.length hZ
    rw [List.length_map] at this
    omega
  rw [← hn0]
  rw [← hn0] at hR
  have HR : Hid (SRow (w.heap.size + 1) (.slice a0 n0 c0) Z0 w1) := by rw [← HSZ.out]; exact hR
  have HB1 : Hid (Below w.heap.size w w1 ∧ w.heap.size + 1 ≤ w1.heap.size) := ⟨HB0.out.trans (hb.mono HB0.out.size), by have := hb.size; rw [HSZ.out] at this; exact this⟩
  have HP : Hid (Pt w.heap.size (.slice a0 n0 c0) Z0 w1 [nilS, nilS, nilS, nilS, nilS, nilS, nilS, nilS] [] w1) := ⟨Arr.start ((hb.block _ (by rw [HSZ.out]; omega)).trans HBX.out), Tn.refl _ _, HR.out⟩
  clear hZ hn0 hR hb HS HB0 HBX HSZ HW0
  go_wp2
  go_loopw [5, 12] (fun _ t12 wr => ∃ (j : Nat) (vs : List Value), t12 = .int .i64 (j : Int) ∧ j ≤ n0 ∧ Hid (Pt w.heap.size (.slice a0 n0 c0) Z0 w1 vs (Z0.take j) wr)) (fun _ t12 _ => n0 - (intOf t12).toNat)
  case atStart => exact ⟨0, _, rfl, Nat.zero_le _, by rw [List.take_zero]; exact HP.out⟩
  case round =>
    obtain ⟨j, vs, rfl, hj, HQ⟩ := hrel
    clear HP
    by_cases hjn : j < n0
    · have hjz : j < Z0.length := by rw [← HN0.out]; exact hjn
      obtain ⟨a1, c1, e1, -, -, hls⟩ := row_lies HQ.out.row.own
      simp only [Value.slice.injEq] at e1
      obtain ⟨rfl, -, rfl⟩ := e1
      obtain ⟨x, hx, g0, g1, g2, g3⟩ := hls.at hjz
      subst hx
      have hz := HQ.out.row.ents _ (sz_mem hjz)
      rw [fix_own hz.1] at g3
      have HONE : Hid ((szAt Z0 j).2.2.2.1.oneCell' = true) := own_one hz.1
      obtain ⟨ea, en, ec, hea⟩ : ∃ ea en ec, (szAt Z0 j).2.2.2.1 = .slice ea en ec := by
        rcases hz.1.2 with ⟨e, _⟩ | ⟨g, cap, cur, e, _⟩
        · exact ⟨_, _, _, e⟩
        · exact ⟨_, _, _, e⟩
      have hcl := HI.out.client (snapOf (szAt Z0 j)) (by rw [← HZ.out]; exact List.mem_map.2 ⟨_, sz_mem hjz, rfl⟩)
      obtain ⟨c, hc⟩ : ∃ c : Nat, (szAt Z0 j).1 = (c : Int) := ⟨(szAt Z0 j).1.toNat, by have : 0 ≤ (szAt Z0 j).1 := hcl.1; omega⟩
      have hc8 : c < 8 := by have : (szAt Z0 j).1 ≤ 7 := hcl.2; omega
      have HT : Hid (Z0.take (j + 1) = Z0.take j ++ [szAt Z0 j]) := sz_take hjz
      have HTL : Hid ((Z0.take j).length + 1 ≤ 1000000) := by show _ ≤ _; rw [List.length_take]; omega
      generalize szAt Z0 j = z at *
      obtain ⟨cl, nm, dn, vz, Y⟩ := z
      simp only at hea hc g0 g1 g2 g3
      subst hea; subst hc
      have HPU : Hid (∀ W0, Below wr.heap.size wr W0 → _) := fun W0 hb => HQ.out.push hb (z := ((c : Int), nm, dn, .slice ea en ec, Y)) hc8 rfl HONE.out HTL.out HR.out
      have hix := index_snap x n0 c0 j hjn
      generalize x.add (j * 4) = q at g0 g1 g2 g3 hix
      have hld := load_snap q _ _ _ _ wr g0 g1 g2 g3
      have HCE : Hid (∀ W, Below wr.heap.size wr W → W.cell? ⟨w.heap.size, c, none⟩ = some (vat vs c)) := fun W hb => ((HQ.out.arr.below hb).cell hc8).1
      have hia := index_arr w.heap.size c hc8
      obtain ⟨W1, hW1⟩ : ∃ W1, W1 = wr.alloc (.cells #[.int .i64 (c : Int), .string nm, .bool dn, .slice ea en ec] 52) := ⟨_, rfl⟩
      have HW1 : Hid (W1 = _) := hW1
      have HB2 : Hid (Below wr.heap.size wr W1) := by rw [hW1]; exact (Below.refl _ _).alloc (Nat.le_refl _) _
      have x4 := four4 (show W1.heap[wr.heap.size]? = _ by rw [hW1]; exact (MapKept.heap_alloc wr _).1)
      obtain ⟨x0, x1, x2, x3⟩ := x4
      have x5 := HCE.out W1 HB2.out
      have hldb := load_snap ⟨wr.heap.size, 0, none⟩ _ _ _ _ W1 x0 x1 x2 x3
      have HKQ : Hid (∀ W0 w5 : World, Below W1.heap.size W1 W0 → Hid (∀ k, wr.heap.size ≤ k → k < W0.heap.size → w5.heap[k]? = W0.heap[k]?) → w5.cell? ⟨wr.heap.size, 0, none⟩ = some (.int .i64 (c : Int))) := fun W0 w5 hb hk => by
        have hlt : wr.heap.size < W1.heap.size := by rw [hW1]; simp
        have hbox : w5.heap[wr.heap.size]? = some (.cells #[.int .i64 (c : Int), .string nm, .bool dn, .slice ea en ec] 52 (0, 0)) := (hk.out _ (Nat.le_refl _) (Nat.lt_of_lt_of_le hlt hb.size)).trans ((hb.block _ hlt).trans (by rw [hW1]; exact (MapKept.heap_alloc wr _).1))
        exact (four4 hbox).1
      clear hls hz hcl hW1 hjz HONE HTL
      go_wp2_with fail
      rw [← HW1.out]
      have k0 := fun o => cell_below ((Below.refl W1.heap.size W1).alloc (Nat.le_refl _) o) (Nat.le_refl _) x0
      have k1 := fun o => cell_below ((Below.refl W1.heap.size W1).alloc (Nat.le_refl _) o) (Nat.le_refl _) x1
      have k2 := fun o => cell_below ((Below.refl W1.heap.size W1).alloc (Nat.le_refl _) o) (Nat.le_refl _) x2
      have k3 := fun o => cell_below ((Below.refl W1.heap.size W1).alloc (Nat.le_refl _) o) (Nat.le_refl _) x3
      have k5 := fun o => cell_below ((Below.refl W1.heap.size W1).alloc (Nat.le_refl _) o) (Nat.le_refl _) x5
      go_region_law
        (first
          | (obtain ⟨xa5, xn5, xc5, w5, hrun5, c5, f5, hP5, hK5⟩ := HPU.out W1.drew HB2.out.drew; have y5 := HKQ.out _ _ (Below.refl _ _).drew hK5; refine step_run (by rfl) _ _ _ (by rfl) _ _ _ (by rfl) (by rfl) hrun5 ?_))
      all_goals
        clear x0 x1 x2 x3 x5 g0 g1 g2 g3 hld hldb HPU HKQ y5 HCE hix hK5 c5 k0 k1 k2 k3 k5
        go_wp2
        go_roundw
        case rel => exact ⟨j + 1, _, by go_num, by omega, by show Pt _ _ _ _ _ _ _; rw [HT.out]; exact hP5.out⟩
        case measure => simp [intOf]; omega
    · have HQ2 : Hid (Pt w.heap.size (.slice a0 n0 c0) Z0 w1 vs Z0 wr) := by
        have h := HQ.out
        rw [List.take_of_length_le (by rw [← HN0.out]; omega)] at h
        exact h
      have e0 := (HQ2.out.arr.cell (show 0 < 8 by omega)).1
      have e1 := (HQ2.out.arr.cell (show 1 < 8 by omega)).1
      have e2 := (HQ2.out.arr.cell (show 2 < 8 by omega)).1
      have e3 := (HQ2.out.arr.cell (show 3 < 8 by omega)).1
      have e4 := (HQ2.out.arr.cell (show 4 < 8 by omega)).1
      have e5 := (HQ2.out.arr.cell (show 5 < 8 by omega)).1
      have e6 := (HQ2.out.arr.cell (show 6 < 8 by omega)).1
      have e7 := (HQ2.out.arr.cell (show 7 < 8 by omega)).1
      have hlen := HQ2.out.arr.len
      have HBW : Hid (Below w.heap.size w wr) := by
        have h := HQ2.out.tn
        have h1 := HB1.out
        exact ⟨h.os.trans h1.1.os, h.tape.trans h1.1.tape, h.output.trans h1.1.output, Nat.le_trans h1.1.size h.size, fun k hk => (h.block k (by omega) (by omega)).trans (h1.1.block k hk)⟩
      have HPC : Hid (∀ W, Below wr.heap.size wr W → ∀ i, i < 8 → _) := fun W hb i hi => part_call (HQ2.out.arr.below hb) (HQ2.out.row.below hb) HB1.out.2 (by rw [HZ.out]; exact HI.out) (i := i) hi
      rw [HZ.out] at HPC
      clear HQ HR HN0 HI HZ HQ2
      go_wp2_with fail
      go_loopw [6, 8, 28] (fun t6 _ t28 W => ∃ i : Nat, t28 = .int .i64 (i : Int) ∧ i ≤ 8 ∧ Strs wr.heap.size t6 ((partsL S).take i) wr W) (fun _ _ t28 _ => 8 - (intOf t28).toNat)
      case atStart => exact ⟨0, rfl, Nat.zero_le _, by rw [List.take_zero]; exact Strs.nil wr⟩
      case round =>
        rename World => W
        obtain ⟨i, rfl, hi, hst⟩ := hrel
        by_cases hi8 : i < 8
        · obtain ⟨a3, n3, c3, ev, HCALL⟩ := HPC.out W hst.2.1 i hi8
          have hidx := index_agg vs i hi8 hlen
          rw [vs_eight hlen, ev] at hidx
          have HT := parts_take S hi8
          have HT : Hid (_ = _) := HT
          have HTL : Hid (((partsL S).take i).length ≤ 1000000) := by show _ ≤ _; rw [List.length_take]; omega
          generalize (partsL S).take i = d at hst HT HTL
          clear HPC ev e0 e1 e2 e3 e4 e5 e6 e7
          go_wp2_with (first
            | (go_at_call 25; refine HCALL.out.mono ?_; rintro e w5 ⟨a5, n5, c5, rfl, hb5, HCV⟩; have hcv := HCV.out)
            | (at_builtin; refine wpList_str rfl (.tmp 31) (.tmp 35) rfl wr.heap.size _ d rfl wr w5 _ (hst.later hb5) rfl (by have := HTL.out; omega) ?_; intro v' w6 hb6))
          go_roundw
          case rel => exact ⟨i + 1, by go_num, by omega, by rw [HT.out]; exact hb6⟩
          case measure => simp [intOf]; omega
        · have hst' : Strs wr.heap.size u6 (partsL S) wr W := by rw [List.take_of_length_le (by rw [parts_len]; omega)] at hst; exact hst
          clear hst HPC e0 e1 e2 e3 e4 e5 e6 e7
          go_wp2
          go_ret
          exact ⟨_, rfl, own_any hst'.1 HBW.out.size, HBW.out.trans (hst'.2.1.mono HBW.out.size), Nat.le_trans HBW.out.size hst'.2.2⟩
end Go.Proofs.Ytlpgdfdadkljfaa.Img
