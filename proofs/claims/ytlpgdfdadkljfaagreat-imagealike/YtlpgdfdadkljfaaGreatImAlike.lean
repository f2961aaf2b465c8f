/-
  The walk of ImageAlike.
-/
import Derived.Test.YtlpgdfdadkljfaaGreatImDiffer
import Derived.Test.YtlpgdfdadkljfaaGreatCtShort
namespace Go.Proofs.YtlpgdfdadkljfaaGreat.Img
open Go.RowKit Route Tree Order Cat

theorem encI_pos (S : List Snap) : 0 < (encI S).length := by
  unfold encI
  have := digs_pos S.length
  rw [List.length_append]
  omega

theorem Pb.below {g n : Nat} {w w' : World} (h : Pb g n w) (hb : Below w.heap.size w w') : Pb g n w' := by
  obtain ⟨cur, h1, h2⟩ := h.box
  exact ⟨cur, (hb.block g (Array.getElem?_eq_some_iff.1 h1).1).trans h1, h2⟩

/-- Two catalogs of the law's own that have done the same. -/
def Twins (w0 : World) (p p2 : Nat) (v v2 : Value) (Z Z2 : List SZ) (w : World) : Prop :=
  Lw w0 p p v Z w ∧ Lw w0 p2 p2 v2 Z2 w ∧ Z2.map snapOf = Z.map snapOf ∧ ∀ k, Owns p v Z k → ¬ Owns p2 v2 Z2 k
theorem Twins.below {w0 w w' : World} {p p2 : Nat} {v v2 : Value} {Z Z2 : List SZ} (h : Twins w0 p p2 v v2 Z Z2 w) (hb : Below w.heap.size w w') : Twins w0 p p2 v v2 Z Z2 w' :=
  ⟨h.1.below hb, h.2.1.below hb, h.2.2.1, h.2.2.2⟩

set_option maxHeartbeats 16000000 in
set_option maxRecDepth 100000 in
theorem imageAlike_main (a : Option Addr) (n cap : Nat) (L : List Rq) (w : World) (hn : n = L.length) (hl : DeedsIn w a L) (hm : n ≤ 9223372036854775807) :
    Calls Tryz.prog 4 #[.slice a n cap] w fun e w' => e = .returned (.bool true) ∧ Below w.heap.size w w' := by
  have HN : Hid (n = L.length) := hn
  have HL : Hid (DeedsIn w a L) := hl
  have HU : Hid (Calls _ _ _ _ _) := up_any w
  have q1 := eqNil0
  have q2 := ee0
  clear hn hl
  go_enter Tryz.func4, Tryz.ntmps4
  go_wp2_with fail
  refine HU.out.mono ?_
  rintro e w1 ⟨rfl, hb1⟩
  have HS : Hid (Calls _ _ _ _ _) := shortD_any a n cap L w1 HN.out (HL.out.below hb1) hm
  have HB1 : Hid (Below w.heap.size w w1) := hb1
  clear HU hb1
  go_wp2_with fail
  refine HS.out.mono ?_
  rintro e w2 ⟨b, rfl, H2⟩
  have HB2 : Hid (Below w.heap.size w w2) := HB1.out.trans (H2.out.2.mono HB1.out.size)
  clear HS HB1
  go_wp2_with fail
  refine (new_any w2).mono ?_
  rintro e w3 ⟨rfl, hw3⟩
  have HA3 : Hid (Lw w w2.heap.size w2.heap.size (.slice none 0 0) [] w3) := by
    rw [hw3]
    exact ⟨cat_new (Nat.le_refl _), Inv.nil, HB2.out.alloc HB2.out.size _, HB2.out.size, by simp⟩
  have hz3 : w3.heap.size = w2.heap.size + 1 := by rw [hw3]; simp
  have HZ3 : Hid (w3.heap.size = w2.heap.size + 1) := hz3
  clear hw3 hz3
  go_wp2_with fail
  refine (new_any w3).mono ?_
  rintro e w4 ⟨rfl, hw4⟩
  have HA : Hid (Twins w w2.heap.size w3.heap.size (.slice none 0 0) (.slice none 0 0) [] [] w4) := by
    refine ⟨?_, ?_, rfl, fun k h1 h2 => ?_⟩
    · rw [hw4]
      exact HA3.out.below ((Below.refl _ _).alloc (Nat.le_refl _) _)
    · rw [hw4]
      exact ⟨cat_new (Nat.le_refl _), Inv.nil, HA3.out.bel.alloc HA3.out.bel.size _, HA3.out.bel.size, by simp⟩
    · have e1 : k = w2.heap.size := by
        rcases h1 with h1 | h1 | ⟨z, hz, _⟩
        · exact h1
        · simp [Value.ownBlock] at h1
        · simp at hz
      have e2 : k = w3.heap.size := by
        rcases h2 with h1 | h1 | ⟨z, hz, _⟩
        · exact h1
        · simp [Value.ownBlock] at h1
        · simp at hz
      have := HZ3.out
      omega
  clear hw4 HA3
  cases b with
  | false =>
    go_wp2
    go_ret
    exact ⟨by rfl, HA.out.1.bel⟩
  | true =>
    have HSH : Hid (∀ j, j < n → j < 80 → ShortR (rqAt L j)) := H2.out.1 rfl
    clear HZ3 H2 HB2
    generalize w2.heap.size = p at *
    generalize w3.heap.size = p2 at *
    go_wp2
    go_loopw [7] (fun t7 wr => ∃ (i : Nat) (v : Value) (Z : List SZ) (v2 : Value) (Z2 : List SZ), t7 = .int .i64 (i : Int) ∧ i ≤ n ∧ Hid (Twins w p p2 v v2 Z Z2 wr)) (fun t7 _ => n - (intOf t7).toNat)
    case atStart => exact ⟨0, _, _, _, _, rfl, Nat.zero_le _, HA⟩
    case round =>
      obtain ⟨i, v, Z, v2, Z2, rfl, hi, HI4⟩ := hrel
      clear HA
      by_cases hlt : i < n ∧ i < 80
      · obtain ⟨hin, hi80⟩ := hlt
        have HP : Hid (Lw w p p v Z wr) := HI4.out.1
        obtain ⟨x, hx, hdd⟩ := HL.out.at (j := i) (by rw [← HN.out]; exact hin)
        subst hx
        have hsr := HSH.out i hin hi80
        have hix := index_deed x n cap i hin
        generalize rqAt L i = r at hdd hsr
        generalize x.add (i * 6) = q at hdd hix
        obtain ⟨c, t, k, m, nm, pt, ks⟩ := r
        obtain ⟨ka, kn, kc, ⟨g0, g1, g2, g3, g4, g5⟩, hqb, HD⟩ := deed_call HP.out hdd hsr
        have HDD : Hid (DeedAt w q ⟨c, t, k, m, nm, pt, ks⟩ ∧ ShortR ⟨c, t, k, m, nm, pt, ks⟩) := ⟨hdd, hsr⟩
        clear hdd hsr
        go_wp2_with fail
        go_region_held (fun W => W.cell? q = some (.int .i64 c) ∧ W.cell? ⟨q.block, q.off + 1, none⟩ = some (.int .i64 k) ∧ W.cell? ⟨q.block, q.off + 1 + 1, none⟩ = some (.string nm) ∧ W.cell? ⟨q.block, q.off + 1 + 2, none⟩ = some (.string pt) ∧ W.cell? ⟨q.block, q.off + 1 + 3, none⟩ = some (.slice ka kn kc) ∧ W.cell? ⟨q.block, q.off + 1 + 4, none⟩ = some (.int .i64 m))
          (first | with_reducible assumption | simp [g0, g1, g2, g3, g4, g5])
          (first | (go_at_call 9; refine (HD.out _ (by exact (Below.refl _ _).drew)).mono ?_; rintro e w5 ⟨⟨ya, yb, s2, n2, c2, s3, n3, c3, s4, n4, c4⟩, v5, Z5, rfl, hc5, hq5, hx5, HD5⟩))
        all_goals
          obtain ⟨R1, R2, R3⟩ := img_first HI4.out.1 HI4.out.2.1 HI4.out.2.2.2 HD5.out
          have HC6 : Hid (Lw w p p v5 Z5 w5) := R1
          have HD6 : Hid (Lw w p2 p2 v2 Z2 w5) := R2
          have HJ6 : Hid (∀ k, Owns p v5 Z5 k → ¬ Owns p2 v2 Z2 k) := R3
          have HS6 : Hid (_ = _) := HD5.out.snaps
          clear hc5 hq5 hx5 HD5 HD HP hqb g0 g1 g2 g3 g4 g5 R1 R2 R3
          obtain ⟨ka, kn, kc, ⟨g0, g1, g2, g3, g4, g5⟩, hqb, HD⟩ := deed_call HD6.out HDD.out.1 HDD.out.2
          go_wp2_with fail
          go_region_held (fun W => W.cell? q = some (.int .i64 c) ∧ W.cell? ⟨q.block, q.off + 1, none⟩ = some (.int .i64 k) ∧ W.cell? ⟨q.block, q.off + 1 + 1, none⟩ = some (.string nm) ∧ W.cell? ⟨q.block, q.off + 1 + 2, none⟩ = some (.string pt) ∧ W.cell? ⟨q.block, q.off + 1 + 3, none⟩ = some (.slice ka kn kc) ∧ W.cell? ⟨q.block, q.off + 1 + 4, none⟩ = some (.int .i64 m))
            (first | with_reducible assumption | simp [g0, g1, g2, g3, g4, g5])
            (first | (go_at_call 9; refine (HD.out _ (by exact (Below.refl _ _).drew)).mono ?_; rintro e w6 ⟨⟨za, zb, t2, m2, d2, t3, m3, d3, t4, m4, d4⟩, v6, Z6, rfl, hc6, hq6, hx6, HE6⟩))
          all_goals
            obtain ⟨R1, R2, R3⟩ := img_second HC6.out HD6.out HJ6.out HE6.out
            have HNX : Hid (Twins w p p2 v5 v6 Z5 Z6 w6) := ⟨R1, R2, by rw [HE6.out.snaps, HS6.out, HI4.out.2.2.1], R3⟩
            clear hc6 hq6 hx6 HE6 HD hqb g0 g1 g2 g3 g4 g5 R1 R2 R3 HC6 HD6 HJ6 HS6 HI4 HDD hix
            go_wp2
            go_roundw
            case rel => exact ⟨i + 1, v5, Z5, v6, Z6, by go_num, by omega, HNX⟩
            case measure => simp [intOf]; omega
      · have hout : n ≤ i ∨ (i < n ∧ 80 ≤ i) := by omega
        have HW1 : Hid (Calls _ _ _ _ _) := put_any HI4.out.1.cat HI4.out.1.inv
        have hpos := encI_pos (Z.map snapOf)
        have hne8 := encI_len (inv_len HI4.out.1.inv) (Inv.nfit HI4.out.1.inv)
        obtain ⟨ne, hne⟩ : ∃ ne, ne = (encI (Z.map snapOf)).length := ⟨_, rfl⟩
        have HNE : Hid (ne = (encI (Z.map snapOf)).length) := hne
        have hn0 : 0 < ne := by omega
        have hn8 : ne ≤ 100000000 := by omega
        clear hlt HSH HL HN hne hpos hne8
        rcases hout with ho | ⟨ho, ho2⟩
        all_goals
          go_wp2_with fail
          refine HW1.out.mono ?_
          rintro e w7 ⟨v7, rfl, hv7⟩
          have HX7 : Hid (Twins w p p2 v v2 Z Z2 w7) := HI4.out.below hv7.2.1
          have HLO : Hid (w.heap.size ≤ wr.heap.size) := HI4.out.1.bel.size
          obtain ⟨g7, c7, rfl, H7⟩ := buf_own hv7 HNE.out hn0
          have HW2 : Hid (Calls _ _ _ _ _) := put_any HX7.out.2.1.cat HX7.out.2.1.inv
          rw [HX7.out.2.2.1] at HW2
          clear hv7 HW1 HI4 ho
          go_wp2_with fail
          refine HW2.out.mono ?_
          rintro e w8 ⟨v8, rfl, hv8⟩
          have HX8 : Hid (Twins w p p2 v v2 Z Z2 w8 ∧ Below w7.heap.size w7 w8) := ⟨HX7.out.below hv8.2.1, hv8.2.1⟩
          obtain ⟨g8, c8, rfl, H8⟩ := buf_own hv8 HNE.out hn0
          have HDF : Hid (Calls _ _ _ _ _) := differ_none HX8.out.1.1.cat HX8.out.1.2.1.cat HX8.out.1.1.inv HX8.out.1.2.2.1
          clear hv8 HW2 HX7
          go_wp2_with fail
          refine HDF.out.mono ?_
          rintro e w9 ⟨rfl, hb9⟩
          have HX9 : Hid (Twins w p p2 v v2 Z Z2 w9 ∧ Below w7.heap.size w7 w9 ∧ Below w8.heap.size w8 w9) := ⟨HX8.out.1.below hb9, HX8.out.2.trans (hb9.mono HX8.out.2.size), hb9⟩
          have HL7 : Hid (Go.Proofs.YtlpgdfdadkljfaaGreat.Lies w9 (some ⟨g7, 0, none⟩) (encI (Z.map snapOf)) ∧ w.heap.size ≤ g7 ∧ g7 < w7.heap.size ∧ Pb g7 ne w9) := ⟨Go.Proofs.YtlpgdfdadkljfaaGreat.Lies.below H7.out.2.2.2.2.1 HX9.out.2.1 (Nat.le_refl _), Nat.le_trans HLO.out H7.out.1, H7.out.2.1, H7.out.2.2.2.2.2.below HX9.out.2.1⟩
          have HL8 : Hid (Go.Proofs.YtlpgdfdadkljfaaGreat.Lies w9 (some ⟨g8, 0, none⟩) (encI (Z.map snapOf)) ∧ w7.heap.size ≤ g8 ∧ g8 < w9.heap.size) := ⟨Go.Proofs.YtlpgdfdadkljfaaGreat.Lies.below H8.out.2.2.2.2.1 HX9.out.2.2 (Nat.le_refl _), H8.out.1, Nat.lt_of_lt_of_le H8.out.2.1 HX9.out.2.2.size⟩
          have k7 : (convert 23 9 (.slice (some ⟨g7, 0, none⟩) ne c7)).run Tryz.prog w9 = .ok (.string ⟨(encI (Z.map snapOf)).toArray⟩) w9 := by
            rw [HNE.out]; exact conv_lies HL7.out.1
          have k8 : (convert 23 9 (.slice (some ⟨g8, 0, none⟩) ne c8)).run Tryz.prog w9 = .ok (.string ⟨(encI (Z.map snapOf)).toArray⟩) w9 := by
            rw [HNE.out]; exact conv_lies HL8.out.1
          have HG : Hid (Calls _ _ _ _ _) := get_any (some ⟨g7, 0, none⟩) ne c7 (encI (Z.map snapOf)) w9 HNE.out HL7.out.1 hn8 H7.out.2.2.1 H7.out.2.2.2.1 (.inr fun y hy => by cases hy; exact Nat.lt_of_lt_of_le HL7.out.2.2.1 HX9.out.2.1.size)
          generalize (⟨(encI (Z.map snapOf)).toArray⟩ : ByteArray) = sb at k7 k8
          clear hb9 HDF HX8 H7 H8
          go_wp2_with fail
          refine HG.out.mono ?_
          rintro e w10 hg
          have HGG : Hid (Got _ _ _ _) := hg
          clear hg k7 k8
          obtain ⟨p3, v3, Z3, rfl, H10⟩ : ∃ p3 v3 Z3, e = .returned (.tuple #[.pointer (some ⟨p3, 0, none⟩), .nilIface]) ∧ Hid (Z3.map snapOf = Z.map snapOf ∧ Cat p3 p3 v3 Z3 w10 ∧ w9.heap.size ≤ p3 ∧ Below w9.heap.size w9 w10) := by
            have hd := dec_inv HX9.out.1.1.inv
            rcases HGG.out with ⟨_, p3, v3, Z3, h1, h2, h3, h4, h5⟩ | ⟨h, _⟩
            · rw [hd] at h2
              exact ⟨p3, v3, Z3, h1, h2, h3, h4, h5⟩
            · rw [hd] at h
              exact absurd ⟨rfl, Nat.le_refl _, inv_may HX9.out.1.1.inv⟩ h
          have HPB : Hid (Pb g7 ne w10 ∧ Tn g7 w10 w10) := ⟨HL7.out.2.2.2.below H10.out.2.2.2, Tn.refl _ _⟩
          clear HGG HG
          go_wp2
          go_loopw [16] (fun t16 wr => ∃ k : Nat, t16 = .int .i64 (k : Int) ∧ k ≤ ne ∧ Hid (Pb g7 ne wr ∧ Tn g7 w10 wr)) (fun t16 _ => ne - (intOf t16).toNat)
          case atStart => exact ⟨0, rfl, Nat.zero_le _, HPB⟩
          case round =>
            rename World => W
            obtain ⟨k, rfl, hk, HQ⟩ := hrel
            clear HPB
            by_cases hkn : k < ne
            · obtain ⟨x, hcell, hfr⟩ := HQ.out.1.cell hkn
              have hix := index_byte g7 ne c7 k hkn
              go_wp2
              go_roundw
              case rel => exact ⟨k + 1, by go_num, by omega, HQ.out.1.set k _, tn_set HQ.out.2 k _⟩
              case measure => simp [intOf]; omega
            · have h97 : g7 < w9.heap.size := Nat.lt_of_lt_of_le HL7.out.2.2.1 HX9.out.2.1.size
              have HBW : Hid (Below w.heap.size w W) := by
                have h := HQ.out.2
                have h1 : Below w.heap.size w w10 := HX9.out.1.1.bel.trans (H10.out.2.2.2.mono HX9.out.1.1.bel.size)
                have h2 := HL7.out.2.1
                have h3 := h1.size
                exact ⟨h.os.trans h1.os, h.tape.trans h1.tape, h.output.trans h1.output, Nat.le_trans h1.size h.size, fun j hj => (h.block j (by omega) (by omega)).trans (h1.block j hj)⟩
              have HC3 : Hid (Cat p3 p3 v3 Z3 W) := cat_keep H10.out.2.1 fun g h1 h2 => HQ.out.2.block g h2 (by have := H10.out.2.2.1; omega)
              have HW3 : Hid (Calls _ _ _ _ _) := put_any HC3.out (by rw [H10.out.1]; exact HX9.out.1.1.inv)
              rw [H10.out.1] at HW3
              have HL9 : Hid (Go.Proofs.YtlpgdfdadkljfaaGreat.Lies W (some ⟨g8, 0, none⟩) (encI (Z.map snapOf))) := lies_tn (Go.Proofs.YtlpgdfdadkljfaaGreat.Lies.below HL8.out.1 H10.out.2.2.2 (Nat.le_refl _)) HQ.out.2 (by have := HL8.out.2.1; have := HL7.out.2.2.1; omega) (Nat.lt_of_lt_of_le HL8.out.2.2 H10.out.2.2.2.size)
              clear HC3 HQ H10 HL8 HL7 HX9 h97
              go_wp2_with fail
              refine HW3.out.mono ?_
              rintro e w13 ⟨v13, rfl, hv13⟩
              obtain ⟨g13, c13, rfl, H13⟩ := buf_own hv13 HNE.out hn0
              have HB13 : Hid (Below w.heap.size w w13) := HBW.out.trans (hv13.2.1.mono HBW.out.size)
              have k8 : (convert 23 9 (.slice (some ⟨g8, 0, none⟩) ne c8)).run Tryz.prog w13 = .ok (.string ⟨(encI (Z.map snapOf)).toArray⟩) w13 := by
                rw [HNE.out]; exact conv_lies (Go.Proofs.YtlpgdfdadkljfaaGreat.Lies.below HL9.out hv13.2.1 (Nat.le_refl _))
              have k13 : (convert 23 9 (.slice (some ⟨g13, 0, none⟩) ne c13)).run Tryz.prog w13 = .ok (.string ⟨(encI (Z.map snapOf)).toArray⟩) w13 := by
                rw [HNE.out]; exact conv_lies H13.out.2.2.2.2.1
              generalize (⟨(encI (Z.map snapOf)).toArray⟩ : ByteArray) = sb at k8 k13
              clear hv13 H13 HW3 HL9 HBW
              go_wp2
              go_ret
              exact ⟨by first | rfl | simp, HB13.out⟩

theorem imageAlike_walk (a : Option Addr) (len cap : Nat) (w : World) (h : ∃ L : List Rq, len = L.length ∧ DeedsIn w a L ∧ len ≤ 9223372036854775807) :
    Calls Tryz.prog 4 #[.slice a len cap] w fun e w' => e = .returned (.bool true) ∧ Below w.heap.size w w' := by
  obtain ⟨L, h1, h2, h3⟩ := h
  exact imageAlike_main a len cap L w h1 h2 h3
end Go.Proofs.YtlpgdfdadkljfaaGreat.Img
