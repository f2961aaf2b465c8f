/-
  The walk of CatalogFrom.
-/
import Derived.Test.YtejhnobhpjlkaabCtPair
import Derived.Test.YtejhnobhpjlkaabCtFrom
import Derived.Test.YtejhnobhpjlkaabCtUp
namespace Go.Proofs.Ytejhnobhpjlkaab.Cat
open Go.RowKit Route Tree Order

theorem from_second {w0 w : World} {p p2 bx : Nat} {v5 v2 : Value} {Z Z5 Z2 : List SZ} {r : Rq} {y z : An} (h : Lw w0 p p v5 Z5 w) (h2 : Lw w0 p2 p2 v2 Z2 w) (hd : ∀ k, Owns p v5 Z5 k → ¬ Owns p2 v2 Z2 k) (hS : Z2.map snapOf = Z.map snapOf) (hW : ∃ B1, (∀ k, Owns p2 v2 Z2 k → k < B1) ∧ AnsV B1 (full (Z.map snapOf) r).1 (.returned y.val) w) (hB : ABox w bx y) :
    ∀ W v' Z', Did p2 p2 v2 Z2 r w z v' Z' W → (Lw w0 p p v5 Z5 W ∧ Lw w0 p2 p2 v' Z' W ∧ ∀ k, Owns p v5 Z5 k → ¬ Owns p2 v' Z' k) ∧ ABox W bx y ∧ (∃ B1, AnsV B1 (full (Z.map snapOf) r).1 (.returned y.val) W) ∧ ∃ B2, AnsV B2 (full (Z.map snapOf) r).1 (.returned z.val) W := by
  intro W v' Z' hD
  obtain ⟨B1, h1, h3⟩ := hW
  refine ⟨apart_second h h2 hd hD, Next.cellAt h2.cat hD.next hB (by decide) (by decide) (by decide), ⟨B1, h3.beside hD.next h1⟩, w.heap.size, ?_⟩
  have := hD.ans
  rw [hS] at this
  exact this

set_option maxHeartbeats 16000000 in
set_option maxRecDepth 100000 in
theorem catalogFrom_main (a : Option Addr) (n cap : Nat) (L : List Rq) (a2 : Option Addr) (nn cap2 : Nat) (L2 : List Rq) (w : World) (hn : n = L.length) (hl : DeedsIn w a L) (hm : n ≤ 9223372036854775807) (hn2 : nn = L2.length) (hl2 : DeedsIn w a2 L2) (hm2 : nn ≤ 9223372036854775807) :
    Calls Try.prog 3 #[.slice a n cap, .slice a2 nn cap2] w fun e w' => e = .returned (.bool true) ∧ Below w.heap.size w w' := by
  have HN : Hid (n = L.length) := hn
  have HL : Hid (DeedsIn w a L) := hl
  have HN2 : Hid (nn = L2.length) := hn2
  have HL2 : Hid (DeedsIn w a2 L2) := hl2
  have HU : Hid (Calls _ _ _ _ _) := up_any w
  have q1 := neNil
  clear hn hl hn2 hl2
  go_enter Try.func3, Try.ntmps3
  go_wp2_with fail
  refine HU.out.mono ?_
  rintro e w1 ⟨rfl, hb1⟩
  have HS : Hid (Calls _ _ _ _ _) := shortD_any a n cap L w1 HN.out (HL.out.below hb1) hm
  have HB1 : Hid (Below w.heap.size w w1) := hb1
  clear HU hb1
  go_wp2_with fail
  refine HS.out.mono ?_
  rintro e w2 ⟨b, rfl, H2⟩
  have HB2 : Hid (Below w.heap.size w w2) := HB1.out.trans (H2.out.2.mono HB1.out.size)
  clear HS
  cases b
  · go_wp2_with fail
    refine (new_any w2).mono ?_
    rintro e w3 ⟨rfl, hw3⟩
    have HA : Hid (Below w.heap.size w w3) := by rw [hw3]; exact HB2.out.alloc HB2.out.size _
    clear hw3
    go_wp2
    go_ret
    exact ⟨by rfl, HA.out⟩
  have HSH : Hid (∀ j, j < n → j < 80 → ShortR (rqAt L j)) := H2.out.1 rfl
  have HS2 : Hid (Calls _ _ _ _ _) := shortD_any a2 nn cap2 L2 w2 HN2.out (HL2.out.below HB2.out) hm2
  clear H2 HB1
  go_wp2_with fail
  refine HS2.out.mono ?_
  rintro e w4 ⟨b, rfl, H4⟩
  have HB4 : Hid (Below w.heap.size w w4) := HB2.out.trans (H4.out.2.mono HB2.out.size)
  clear HS2 HB2
  go_wp2_with fail
  refine (new_any w4).mono ?_
  rintro e w3 ⟨rfl, hw3⟩
  have HA : Hid (Lw w w4.heap.size w4.heap.size (.slice none 0 0) [] w3) := by
    rw [hw3]
    exact ⟨cat_new (Nat.le_refl _), Inv.nil, HB4.out.alloc HB4.out.size _, HB4.out.size, by simp⟩
  clear hw3
  cases b
  · go_wp2
    go_ret
    exact ⟨by rfl, HA.out.bel⟩
  have HSH2 : Hid (∀ j, j < nn → j < 80 → ShortR (rqAt L2 j)) := H4.out.1 rfl
  generalize w4.heap.size = p at *
  clear H4 HB4
  go_wp2
  go_loopw [8] (fun t8 wr => ∃ (i : Nat) (v : Value) (Z : List SZ), t8 = .int .i64 (i : Int) ∧ i ≤ n ∧ Hid (Lw w p p v Z wr)) (fun t8 _ => n - (intOf t8).toNat)
  case atStart => exact ⟨0, _, _, rfl, Nat.zero_le _, HA⟩
  case round =>
    obtain ⟨i, v, Z, rfl, hi, HP⟩ := hrel
    clear HA
    by_cases hlt : i < n ∧ i < 80
    · obtain ⟨hin, hi80⟩ := hlt
      obtain ⟨x, hx, hdd⟩ := HL.out.at (j := i) (by rw [← HN.out]; exact hin)
      subst hx
      have hsr := HSH.out i hin hi80
      have hix := index_deed x n cap i hin
      generalize rqAt L i = r at hdd hsr
      generalize x.add (i * 6) = q at hdd hix
      obtain ⟨c, t, k, m, nm, pt, ks⟩ := r
      obtain ⟨ka, kn, kc, ⟨g0, g1, g2, g3, g4, g5⟩, hqb, HD⟩ := deed_call HP.out hdd hsr
      clear hdd hsr
      go_wp2_with fail
      go_region_held (fun W => W.cell? q = some (.int .i64 c) ∧ W.cell? ⟨q.block, q.off + 1, none⟩ = some (.int .i64 k) ∧ W.cell? ⟨q.block, q.off + 1 + 1, none⟩ = some (.string nm) ∧ W.cell? ⟨q.block, q.off + 1 + 2, none⟩ = some (.string pt) ∧ W.cell? ⟨q.block, q.off + 1 + 3, none⟩ = some (.slice ka kn kc) ∧ W.cell? ⟨q.block, q.off + 1 + 4, none⟩ = some (.int .i64 m))
        (first | with_reducible assumption | simp [g0, g1, g2, g3, g4, g5])
        (first | (go_at_call 8; refine (HD.out _ (by exact (Below.refl _ _).drew)).mono ?_; rintro e w5 ⟨⟨ya, yb, s2, n2, c2, s3, n3, c3, s4, n4, c4⟩, v5, Z5, rfl, hc5, hq5, hx5, HD5⟩))
      all_goals
        have HP5 : Hid (Lw w p p v5 Z5 w5) := HP.out.did HD5.out
        clear hc5 hq5 hx5 HD5 HD HP hqb g0 g1 g2 g3 g4 g5 hix
        go_wp2
        go_roundw
        case rel => exact ⟨i + 1, v5, Z5, by go_num, by omega, HP5⟩
        case measure => simp [intOf]; omega
    · have hout : n ≤ i ∨ (i < n ∧ 80 ≤ i) := by omega
      have HW : Hid (Calls _ _ _ _ _) := snaps_law HP.out
      clear hlt
      rcases hout with ho | ⟨ho, ho2⟩
      all_goals
        go_wp2_with fail
        refine HW.out.mono ?_
        rintro e w7 ⟨a0, n0, c0, Z0, rfl, hn0, hn64, H7⟩
        have HP7 : Hid (Lw w p p v Z w7) := HP.out.below H7.out.2.2
        have HF : Hid (Calls _ _ _ _ _) := from_any a0 n0 c0 (Z.map snapOf) w7 (by rw [hn0, ← H7.out.1]; simp) (by
          obtain ⟨x1, y1, q1, l1⟩ := H7.out.2.1.sees
          simp only [Value.slice.injEq] at q1
          obtain ⟨rfl, _, rfl⟩ := q1
          rw [H7.out.1] at l1
          exact l1) (by omega) HP7.out.inv.given
        have HMAY : Hid (May (Z.map snapOf)) := inv_may HP7.out.inv
        clear hn0 hn64 H7 HW HP ho
        go_wp2_with fail
        refine HF.out.mono ?_
        rintro e w8 hp8
        obtain ⟨v2, Z2, rfl, hz2, hc2, hb2⟩ : ∃ v Z2, e = .returned (.tuple #[.pointer (some ⟨w7.heap.size, 0, none⟩), .nilIface]) ∧ Z2.map snapOf = Z.map snapOf ∧ Cat w7.heap.size w7.heap.size v Z2 w8 ∧ Below w7.heap.size w7 w8 := by
          rcases hp8 with ⟨_, h⟩ | ⟨h, _⟩
          · exact h
          · exact absurd HMAY.out h
        have HP8 : Hid (Lw w p p v Z w8) := HP7.out.below hb2
        have HP9 : Hid (Lw w w7.heap.size w7.heap.size v2 Z2 w8 ∧ Z2.map snapOf = Z.map snapOf) := ⟨⟨hc2, by rw [hz2]; exact HP7.out.inv, HP8.out.bel, HP7.out.bel.size, hb2.size⟩, hz2⟩
        have HJ8 : Hid (∀ k, Owns p v Z k → ¬ Owns w7.heap.size v2 Z2 k) := fun k h1 h2 => by
          have e1 := (HP7.out.cat.owns h1).2
          have e2 := (hc2.owns h2).1
          omega
        clear hp8 hz2 hc2 hb2 HF HMAY HP7
        generalize w7.heap.size = p2 at *
        go_wp2
        go_loopw [4, 11, 12, 13] (fun t4 t11 _ _ wr => ∃ (i : Nat) (v : Value) (Z : List SZ) (v2 : Value) (Z2 : List SZ), t4 = .bool false ∧ t11 = .int .i64 (i : Int) ∧ i ≤ nn ∧ Hid (Lw w p p v Z wr) ∧ Hid (Lw w p2 p2 v2 Z2 wr ∧ Z2.map snapOf = Z.map snapOf) ∧ Hid (∀ k, Owns p v Z k → ¬ Owns p2 v2 Z2 k)) (fun _ t11 _ _ _ => nn - (intOf t11).toNat)
        case atStart => exact ⟨0, _, _, _, _, rfl, rfl, Nat.zero_le _, HP8, HP9, HJ8⟩
        case round =>
          clear HP8 HP9 HJ8 HSH HL HN
          obtain ⟨i, v, Z, v2, Z2, rfl, rfl, hi, HP, HP2, HDJ⟩ := hrel
          by_cases hlt : i < nn ∧ i < 80
          · obtain ⟨hin, hi80⟩ := hlt
            obtain ⟨x, hx, hdd⟩ := HL2.out.at (j := i) (by rw [← HN2.out]; exact hin)
            subst hx
            have hsr := HSH2.out i hin hi80
            have hix := index_deed x nn cap2 i hin
            generalize rqAt L2 i = r at hdd hsr
            generalize x.add (i * 6) = q at hdd hix
            obtain ⟨c, t, k, m, nm, pt, ks⟩ := r
            obtain ⟨ka, kn, kc, ⟨g0, g1, g2, g3, g4, g5⟩, hqb, HD⟩ := deed_call HP.out hdd hsr
            have HDD : Hid (DeedAt w q ⟨c, t, k, m, nm, pt, ks⟩ ∧ ShortR ⟨c, t, k, m, nm, pt, ks⟩) := ⟨hdd, hsr⟩
            have hne : wr.heap.size ≠ q.block := by omega
            clear hdd hsr
            go_wp2_with fail
            go_region_held (fun W => W.cell? q = some (.int .i64 c) ∧ W.cell? ⟨q.block, q.off + 1, none⟩ = some (.int .i64 k) ∧ W.cell? ⟨q.block, q.off + 1 + 1, none⟩ = some (.string nm) ∧ W.cell? ⟨q.block, q.off + 1 + 2, none⟩ = some (.string pt) ∧ W.cell? ⟨q.block, q.off + 1 + 3, none⟩ = some (.slice ka kn kc) ∧ W.cell? ⟨q.block, q.off + 1 + 4, none⟩ = some (.int .i64 m))
              (first | with_reducible assumption | simp [hc5, World.cell?_alloc_some] | simp [hc5, hne, World.cell?_setCell_far] | simp [g0, g1, g2, g3, g4, g5, World.cell?_alloc_some])
              (first | (go_at_call 8; refine (HD.out _ (by first | exact (Below.refl _ _).drew | exact ((Below.refl _ _).alloc (Nat.le_refl _) _).drew)).mono ?_; rintro e w5 ⟨⟨ya, yb, s2, n2, c2, s3, n3, c3, s4, n4, c4⟩, v5, Z5, rfl, hc5, hq5, hx5, HD5⟩; first | (have hB5 := hx5.out _ _ _ _ _ (by exact heap_alloc_new wr _); obtain ⟨⟨d0, d1, d2, d3, d4⟩, hf⟩ := box_res hB5; have f0 := hf 0; have f1 := hf 1; have f2 := hf 2; have f3 := hf 3; have f4 := hf 4) | skip))
            all_goals first
              | (have H6 : Hid (Did p p v Z ⟨c, 1, k, m, nm, pt, ks⟩ wr ⟨ya, yb, s2, n2, c2, s3, n3, c3, s4, n4, c4⟩ v5 Z5 (((((w5.setCell ⟨wr.heap.size, 0, none⟩ (.int .i64 ya)).setCell ⟨wr.heap.size, 1, none⟩ (.int .i64 yb)).setCell ⟨wr.heap.size, 2, none⟩ (.slice s2 n2 c2)).setCell ⟨wr.heap.size, 3, none⟩ (.slice s3 n3 c3)).setCell ⟨wr.heap.size, 4, none⟩ (.slice s4 n4 c4)) ∧ ABox (((((w5.setCell ⟨wr.heap.size, 0, none⟩ (.int .i64 ya)).setCell ⟨wr.heap.size, 1, none⟩ (.int .i64 yb)).setCell ⟨wr.heap.size, 2, none⟩ (.slice s2 n2 c2)).setCell ⟨wr.heap.size, 3, none⟩ (.slice s3 n3 c3)).setCell ⟨wr.heap.size, 4, none⟩ (.slice s4 n4 c4)) wr.heap.size ⟨ya, yb, s2, n2, c2, s3, n3, c3, s4, n4, c4⟩) := HD5.out.put hB5 (Nat.le_refl _)
                 clear d0 d1 d2 d3 d4 f0 f1 f2 f3 f4 hf hB5
                 have HQ4 : Hid (∀ W v' Z', Did p p v Z ⟨c, 1, k, m, nm, pt, ks⟩ wr ⟨ya, yb, s2, n2, c2, s3, n3, c3, s4, n4, c4⟩ v' Z' W → Lw w p p v' Z' W ∧ Lw w p2 p2 v2 Z2 W ∧ (∀ k, Owns p v' Z' k → ¬ Owns p2 v2 Z2 k) ∧ ∃ B1, (∀ k, Owns p2 v2 Z2 k → k < B1) ∧ AnsV B1 (full (Z.map snapOf) ⟨c, 1, k, m, nm, pt, ks⟩).1 (.returned (An.val ⟨ya, yb, s2, n2, c2, s3, n3, c3, s4, n4, c4⟩)) W) := fun W v' Z' hD => apart_first HP.out HP2.out.1 HDJ.out hD
                 clear HDJ hne hqb HD g0 g1 g2 g3 g4 g5
                 generalize (((((w5.setCell ⟨wr.heap.size, 0, none⟩ (.int .i64 ya)).setCell ⟨wr.heap.size, 1, none⟩ (.int .i64 yb)).setCell ⟨wr.heap.size, 2, none⟩ (.slice s2 n2 c2)).setCell ⟨wr.heap.size, 3, none⟩ (.slice s3 n3 c3)).setCell ⟨wr.heap.size, 4, none⟩ (.slice s4 n4 c4)) = w6 at H6 ⊢
                 generalize hbx : wr.heap.size = bx at *)
              | (have H6 : Hid (Did p p v Z ⟨c, 1, k, m, nm, pt, ks⟩ wr ⟨ya, yb, s2, n2, c2, s3, n3, c3, s4, n4, c4⟩ v5 Z5 (w5.alloc (.cells #[.int .i64 ya, .int .i64 yb, .slice s2 n2 c2, .slice s3 n3 c3, .slice s4 n4 c4] 30)) ∧ ABox (w5.alloc (.cells #[.int .i64 ya, .int .i64 yb, .slice s2 n2 c2, .slice s3 n3 c3, .slice s4 n4 c4] 30)) w5.heap.size ⟨ya, yb, s2, n2, c2, s3, n3, c3, s4, n4, c4⟩) := HD5.out.lay
                 have HQ4 : Hid (∀ W v' Z', Did p p v Z ⟨c, 1, k, m, nm, pt, ks⟩ wr ⟨ya, yb, s2, n2, c2, s3, n3, c3, s4, n4, c4⟩ v' Z' W → Lw w p p v' Z' W ∧ Lw w p2 p2 v2 Z2 W ∧ (∀ k, Owns p v' Z' k → ¬ Owns p2 v2 Z2 k) ∧ ∃ B1, (∀ k, Owns p2 v2 Z2 k → k < B1) ∧ AnsV B1 (full (Z.map snapOf) ⟨c, 1, k, m, nm, pt, ks⟩).1 (.returned (An.val ⟨ya, yb, s2, n2, c2, s3, n3, c3, s4, n4, c4⟩)) W) := fun W v' Z' hD => apart_first HP.out HP2.out.1 HDJ.out hD
                 clear HDJ hne hqb HD g0 g1 g2 g3 g4 g5
                 generalize (w5.alloc (.cells #[.int .i64 ya, .int .i64 yb, .slice s2 n2 c2, .slice s3 n3 c3, .slice s4 n4 c4] 30)) = w6 at H6 ⊢
                 generalize hbx : w5.heap.size = bx at *)
            all_goals
              clear hbx hc5 hq5 hx5 HD5
              obtain ⟨R1, R2, R3, R4⟩ := HQ4.out _ _ _ H6.out.1
              have HC6 : Hid (Lw w p p v5 Z5 w6) := R1
              have HD6 : Hid (Lw w p2 p2 v2 Z2 w6) := R2
              have HJ6 : Hid (∀ k, Owns p v5 Z5 k → ¬ Owns p2 v2 Z2 k) := R3
              have HW6 : Hid (∃ B1, (∀ k, Owns p2 v2 Z2 k → k < B1) ∧ AnsV B1 (full (Z.map snapOf) ⟨c, 1, k, m, nm, pt, ks⟩).1 (.returned (An.val ⟨ya, yb, s2, n2, c2, s3, n3, c3, s4, n4, c4⟩)) w6) := R4
              have HB6 : Hid (ABox w6 bx ⟨ya, yb, s2, n2, c2, s3, n3, c3, s4, n4, c4⟩) := H6.out.2
              have HR6 : Hid (Z5.map snapOf = (full (Z.map snapOf) ⟨c, 1, k, m, nm, pt, ks⟩).2) := H6.out.1.snaps
              have HIN : Hid (Inv (Z.map snapOf)) := HP.out.inv
              clear R1 R2 R3 R4 HQ4 H6 HP
              obtain ⟨hdd, hsr⟩ := HDD.out
              obtain ⟨ka2, kn2, kc2, ⟨g0, g1, g2, g3, g4, g5⟩, hqb, HD2⟩ := deed_call HD6.out hdd hsr
              clear HDD
              have hne : w6.heap.size ≠ q.block := by omega
              clear hdd hsr
              go_wp2_with fail
              go_region_held (fun W => W.cell? q = some (.int .i64 c) ∧ W.cell? ⟨q.block, q.off + 1, none⟩ = some (.int .i64 k) ∧ W.cell? ⟨q.block, q.off + 1 + 1, none⟩ = some (.string nm) ∧ W.cell? ⟨q.block, q.off + 1 + 2, none⟩ = some (.string pt) ∧ W.cell? ⟨q.block, q.off + 1 + 3, none⟩ = some (.slice ka2 kn2 kc2) ∧ W.cell? ⟨q.block, q.off + 1 + 4, none⟩ = some (.int .i64 m))
                (first | with_reducible assumption | simp [hc15, World.cell?_alloc_some] | simp [hc15, hne, World.cell?_setCell_far] | simp [g0, g1, g2, g3, g4, g5, World.cell?_alloc_some])
                (first | (go_at_call 8; refine (HD2.out _ (by first | exact (Below.refl _ _).drew | exact ((Below.refl _ _).alloc (Nat.le_refl _) _).drew)).mono ?_; rintro e w15 ⟨⟨za, zb, t2, m2, d2, t3, m3, d3, t4, m4, d4⟩, v15, Z15, rfl, hc15, hq15, hx15, HD15⟩; first | (have hB15 := hx15.out _ _ _ _ _ (by exact heap_alloc_new w6 _); obtain ⟨⟨e0, e1, e2, e3, e4⟩, hf⟩ := box_res hB15; have f0 := hf 0; have f1 := hf 1; have f2 := hf 2; have f3 := hf 3; have f4 := hf 4) | skip))
              all_goals first
                | (have H16 : Hid (Did p2 p2 v2 Z2 ⟨c, 1, k, m, nm, pt, ks⟩ w6 ⟨za, zb, t2, m2, d2, t3, m3, d3, t4, m4, d4⟩ v15 Z15 (((((w15.setCell ⟨w6.heap.size, 0, none⟩ (.int .i64 za)).setCell ⟨w6.heap.size, 1, none⟩ (.int .i64 zb)).setCell ⟨w6.heap.size, 2, none⟩ (.slice t2 m2 d2)).setCell ⟨w6.heap.size, 3, none⟩ (.slice t3 m3 d3)).setCell ⟨w6.heap.size, 4, none⟩ (.slice t4 m4 d4)) ∧ ABox (((((w15.setCell ⟨w6.heap.size, 0, none⟩ (.int .i64 za)).setCell ⟨w6.heap.size, 1, none⟩ (.int .i64 zb)).setCell ⟨w6.heap.size, 2, none⟩ (.slice t2 m2 d2)).setCell ⟨w6.heap.size, 3, none⟩ (.slice t3 m3 d3)).setCell ⟨w6.heap.size, 4, none⟩ (.slice t4 m4 d4)) w6.heap.size ⟨za, zb, t2, m2, d2, t3, m3, d3, t4, m4, d4⟩) := HD15.out.put hB15 (Nat.le_refl _)
                   clear e0 e1 e2 e3 e4 f0 f1 f2 f3 f4 hf hB15
                   have HQ14 : Hid (∀ W v' Z', Did p2 p2 v2 Z2 ⟨c, 1, k, m, nm, pt, ks⟩ w6 ⟨za, zb, t2, m2, d2, t3, m3, d3, t4, m4, d4⟩ v' Z' W → (Lw w p p v5 Z5 W ∧ Lw w p2 p2 v' Z' W ∧ ∀ k, Owns p v5 Z5 k → ¬ Owns p2 v' Z' k) ∧ ABox W bx ⟨ya, yb, s2, n2, c2, s3, n3, c3, s4, n4, c4⟩ ∧ (∃ B1, AnsV B1 (full (Z.map snapOf) ⟨c, 1, k, m, nm, pt, ks⟩).1 (.returned (An.val ⟨ya, yb, s2, n2, c2, s3, n3, c3, s4, n4, c4⟩)) W) ∧ ∃ B2, AnsV B2 (full (Z.map snapOf) ⟨c, 1, k, m, nm, pt, ks⟩).1 (.returned (An.val ⟨za, zb, t2, m2, d2, t3, m3, d3, t4, m4, d4⟩)) W) := from_second HC6.out HD6.out HJ6.out HP2.out.2 HW6.out HB6.out
                   clear HJ6 HW6 HB6 hne hqb HD2 g0 g1 g2 g3 g4 g5
                   generalize (((((w15.setCell ⟨w6.heap.size, 0, none⟩ (.int .i64 za)).setCell ⟨w6.heap.size, 1, none⟩ (.int .i64 zb)).setCell ⟨w6.heap.size, 2, none⟩ (.slice t2 m2 d2)).setCell ⟨w6.heap.size, 3, none⟩ (.slice t3 m3 d3)).setCell ⟨w6.heap.size, 4, none⟩ (.slice t4 m4 d4)) = w16 at H16 ⊢
                   generalize hbx2 : w6.heap.size = bx2 at *)
                | (have H16 : Hid (Did p2 p2 v2 Z2 ⟨c, 1, k, m, nm, pt, ks⟩ w6 ⟨za, zb, t2, m2, d2, t3, m3, d3, t4, m4, d4⟩ v15 Z15 (w15.alloc (.cells #[.int .i64 za, .int .i64 zb, .slice t2 m2 d2, .slice t3 m3 d3, .slice t4 m4 d4] 30)) ∧ ABox (w15.alloc (.cells #[.int .i64 za, .int .i64 zb, .slice t2 m2 d2, .slice t3 m3 d3, .slice t4 m4 d4] 30)) w15.heap.size ⟨za, zb, t2, m2, d2, t3, m3, d3, t4, m4, d4⟩) := HD15.out.lay
                   have HQ14 : Hid (∀ W v' Z', Did p2 p2 v2 Z2 ⟨c, 1, k, m, nm, pt, ks⟩ w6 ⟨za, zb, t2, m2, d2, t3, m3, d3, t4, m4, d4⟩ v' Z' W → (Lw w p p v5 Z5 W ∧ Lw w p2 p2 v' Z' W ∧ ∀ k, Owns p v5 Z5 k → ¬ Owns p2 v' Z' k) ∧ ABox W bx ⟨ya, yb, s2, n2, c2, s3, n3, c3, s4, n4, c4⟩ ∧ (∃ B1, AnsV B1 (full (Z.map snapOf) ⟨c, 1, k, m, nm, pt, ks⟩).1 (.returned (An.val ⟨ya, yb, s2, n2, c2, s3, n3, c3, s4, n4, c4⟩)) W) ∧ ∃ B2, AnsV B2 (full (Z.map snapOf) ⟨c, 1, k, m, nm, pt, ks⟩).1 (.returned (An.val ⟨za, zb, t2, m2, d2, t3, m3, d3, t4, m4, d4⟩)) W) := from_second HC6.out HD6.out HJ6.out HP2.out.2 HW6.out HB6.out
                   clear HJ6 HW6 HB6 hne hqb HD2 g0 g1 g2 g3 g4 g5
                   generalize (w15.alloc (.cells #[.int .i64 za, .int .i64 zb, .slice t2 m2 d2, .slice t3 m3 d3, .slice t4 m4 d4] 30)) = w16 at H16 ⊢
                   generalize hbx2 : w15.heap.size = bx2 at *)
              all_goals
                clear hbx2 hc15 hq15 hx15 HD15
                obtain ⟨⟨S1, S2, S3⟩, S4, ⟨B1, S5⟩, B2, S6⟩ := HQ14.out _ _ _ H16.out.1
                have HC8 : Hid (Lw w p p v5 Z5 w16) := S1
                have HD8 : Hid (Lw w p2 p2 v15 Z15 w16 ∧ Z15.map snapOf = Z5.map snapOf) := ⟨S2, by rw [H16.out.1.snaps, HP2.out.2, HR6.out]⟩
                have HJ8 : Hid (∀ k, Owns p v5 Z5 k → ¬ Owns p2 v15 Z15 k) := S3
                have HAL : Hid (Calls _ _ _ _ _) := alike_yes (full_few HIN.out _) ⟨ya, yb, s2, n2, c2, s3, n3, c3, s4, n4, c4⟩ ⟨za, zb, t2, m2, d2, t3, m3, d3, t4, m4, d4⟩ S5 S6
                have HBX : Hid (ABox w16 bx ⟨ya, yb, s2, n2, c2, s3, n3, c3, s4, n4, c4⟩) := S4
                obtain ⟨x0, x1, x2, x3, x4⟩ := HBX.out.cells
                obtain ⟨y0, y1, y2, y3, y4⟩ := H16.out.2.cells
                simp only at x0 x1 x2 x3 x4 y0 y1 y2 y3 y4 HAL
                clear S1 S2 S3 S4 S5 S6 H16 HQ14 HBX HC6 HD6 HIN HR6 HP2 hix
                go_wp2_with fail
                refine HAL.out.mono ?_
                rintro e w19 ⟨rfl, hb9⟩
                have HC9 : Hid (Lw w p p v5 Z5 w19) := HC8.out.below hb9
                have HD9 : Hid (Lw w p2 p2 v15 Z15 w19 ∧ Z15.map snapOf = Z5.map snapOf) := ⟨HD8.out.1.below hb9, HD8.out.2⟩
                clear hb9 HAL HC8 HD8 x0 x1 x2 x3 x4 y0 y1 y2 y3 y4
                go_wp2
                go_roundw
                case rel => exact ⟨i + 1, v5, Z5, v15, Z15, rfl, by go_num, by omega, HC9, HD9, HJ8⟩
                case measure => simp [intOf]; omega
          · have hout : nn ≤ i ∨ (i < nn ∧ 80 ≤ i) := by omega
            have HW : Hid (Calls _ _ _ _ _) := snaps_law HP.out
            clear hlt
            rcases hout with ho | ⟨ho, ho2⟩
            all_goals
              go_wp2_with fail
              refine HW.out.mono ?_
              rintro e w17 ⟨a7, n7, c7, Z7, rfl, hn7, _, H17⟩
              have HR17 : Hid (SRow wr.heap.size (.slice a7 n7 c7) Z7 w17 ∧ n7 = Z7.length ∧ Z7.map snapOf = Z.map snapOf) := ⟨H17.out.2.1, hn7, H17.out.1⟩
              have HP17 : Hid (Lw w p2 p2 v2 Z2 w17 ∧ Z2.map snapOf = Z.map snapOf) := ⟨HP2.out.1.below H17.out.2.2, HP2.out.2⟩
              have HIN : Hid (Inv (Z.map snapOf)) := HP.out.inv
              have HW2 : Hid (Calls _ _ _ _ _) := snaps_law HP17.out.1
              clear hn7 H17 HW HP HP2 HDJ ho
              go_wp2_with fail
              refine HW2.out.mono ?_
              rintro e w18 ⟨a8, n8, c8, Z8, rfl, hn8, _, H18⟩
              have hlen : n8 = n7 ∧ n7 = (Z.map snapOf).length := by
                have e1 := congrArg List.length (H18.out.1.trans HP17.out.2)
                have e2 := congrArg List.length HR17.out.2.2
                have e4 := HR17.out.2.1
                simp only [List.length_map] at e1 e2 ⊢
                omega
              obtain ⟨rfl, hnl⟩ := hlen
              have HSM : Hid (Calls _ _ _ _ _) := same_law (HR17.out.1.below H18.out.2.2) H18.out.2.1 HR17.out.2.2 (H18.out.1.trans HP17.out.2) HIN.out hnl
              have HB18 : Hid (Below w.heap.size w w18) := HP17.out.1.bel.trans (H18.out.2.2.mono HP17.out.1.bel.size)
              clear hn8 hnl H18 HR17 HP17 HW2
              go_wp2_with fail
              refine HSM.out.mono ?_
              rintro e w20 ⟨rfl, hb20⟩
              have HB20 : Hid (Below w.heap.size w w20) := HB18.out.trans (hb20.mono HB18.out.size)
              clear hb20 HSM
              go_wp2
              go_ret
              exact ⟨rfl, HB20.out⟩

theorem catalogFrom_walk (a : Option Addr) (n cap : Nat) (a2 : Option Addr) (nn cap2 : Nat) (w : World) (h : ∃ L : List Rq, n = L.length ∧ DeedsIn w a L ∧ n ≤ 9223372036854775807) (h2 : ∃ L : List Rq, nn = L.length ∧ DeedsIn w a2 L ∧ nn ≤ 9223372036854775807) :
    Calls Try.prog 3 #[.slice a n cap, .slice a2 nn cap2] w fun e w' => e = .returned (.bool true) ∧ Below w.heap.size w w' := by
  obtain ⟨L, l1, l2, l3⟩ := h
  obtain ⟨L2, m1, m2, m3⟩ := h2
  exact catalogFrom_main a n cap L a2 nn cap2 L2 w l1 l2 l3 m1 m2 m3
end Go.Proofs.Ytejhnobhpjlkaab.Cat
