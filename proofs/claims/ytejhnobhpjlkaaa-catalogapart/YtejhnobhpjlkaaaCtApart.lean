/-
  The walk of CatalogApart.
-/
import Derived.Test.YtejhnobhpjlkaaaCtLw
import Derived.Test.YtejhnobhpjlkaaaCtAlike
import Derived.Test.YtejhnobhpjlkaaaCtUp
namespace Go.Proofs.Ytejhnobhpjlkaaa.Cat
open Go.RowKit Route Tree Order

/-- The one catalog's deed leaves the other one as it is, and they stay apart. -/
theorem apart_first {w0 w w' : World} {p p2 : Nat} {v v2 v' : Value} {Z Z2 Z' : List SZ} {r : Rq} {y : An} (h : Lw w0 p p v Z w) (h2 : Lw w0 p2 p2 v2 Z2 w) (hd : ∀ k, Owns p v Z k → ¬ Owns p2 v2 Z2 k) (hD : Did p p v Z r w y v' Z' w') :
    Lw w0 p p v' Z' w' ∧ Lw w0 p2 p2 v2 Z2 w' ∧ (∀ k, Owns p v' Z' k → ¬ Owns p2 v2 Z2 k) ∧ ∃ B1, (∀ k, Owns p2 v2 Z2 k → k < B1) ∧ AnsV B1 (full (Z.map snapOf) r).1 (.returned y.val) w' := by
  have h' := h.did hD
  refine ⟨h', ⟨h2.cat.beside h.cat hD.next fun k h1 h3 => hd k h3 h1, h2.inv, h'.bel, h2.low, Nat.le_trans h2.fit hD.next.turn.size⟩, fun k hk h3 => ?_, w.heap.size, fun k hk => (h2.cat.owns hk).2, hD.ans⟩
  rcases hD.next.owns k hk with h1 | h1
  · exact hd k h1 h3
  · have := (h2.cat.owns h3).2
    omega

/-- The other catalog's deed. -/
theorem apart_second {w0 w w' : World} {p p2 : Nat} {v v2 v' : Value} {Z Z2 Z' : List SZ} {r : Rq} {y : An} (h : Lw w0 p p v Z w) (h2 : Lw w0 p2 p2 v2 Z2 w) (hd : ∀ k, Owns p v Z k → ¬ Owns p2 v2 Z2 k) (hD : Did p2 p2 v2 Z2 r w y v' Z' w') :
    Lw w0 p p v Z w' ∧ Lw w0 p2 p2 v' Z' w' ∧ ∀ k, Owns p v Z k → ¬ Owns p2 v' Z' k := by
  have h' := h2.did hD
  refine ⟨⟨h.cat.beside h2.cat hD.next hd, h.inv, h'.bel, h.low, Nat.le_trans h.fit hD.next.turn.size⟩, h', fun k hk h3 => ?_⟩
  rcases hD.next.owns k h3 with h1 | h1
  · exact hd k hk h1
  · have := (h.cat.owns hk).2
    omega

theorem full_nine_snaps (S : List Snap) (r : Rq) (h : r.k = 9) : (full S r).2 = S := by
  obtain ⟨c, t, k, n, nm, pt, ks⟩ := r
  have h : k = 9 := h
  subst h
  unfold full
  split
  · rfl
  · rename_i hn
    have hm : may ⟨c, t, 9, n, nm, pt, ks⟩ = false := by
      cases q : may ⟨c, t, 9, n, nm, pt, ks⟩ with
      | false => rfl
      | true => exact absurd ⟨q, rfl⟩ hn
    simp [step, hm]

set_option maxHeartbeats 4000000 in
set_option maxRecDepth 100000 in
theorem catalogApart_main (a : Option Addr) (n cap : Nat) (client : Int) (L : List Rq) (w : World) (hn : n = L.length) (hl : DeedsIn w a L) (hm : n ≤ 9223372036854775807) :
    Calls Try.prog 3 #[.slice a n cap, .int .i64 client] w fun e w' => e = .returned (.bool true) ∧ Below w.heap.size w w' := by
  have HN : Hid (n = L.length) := hn
  have HL : Hid (DeedsIn w a L) := hl
  have HU : Hid (Calls _ _ _ _ _) := up_any w
  clear hn hl
  go_enter Try.func3, Try.ntmps3
  go_wp2_with fail
  refine HU.out.mono ?_
  rintro e w1 ⟨rfl, hb1⟩
  have HS : Hid (Calls _ _ _ _ _) := shortD_any a n cap L w1 HN.out (HL.out.below hb1) hm
  have HB1 : Hid (Below w.heap.size w w1) := hb1
  clear HU hb1
  go_wp2_with fail
  refine HS.out.mono ?_
  rintro e w2 ⟨b, rfl, H2⟩
  have HB2 : Hid (Below w.heap.size w w2) := HB1.out.trans (H2.out.2.mono HB1.out.size)
  clear HS
  go_wp2_with fail
  refine (new_any w2).mono ?_
  rintro e w3 ⟨rfl, hw3⟩
  have HA3 : Hid (Lw w w2.heap.size w2.heap.size (.slice none 0 0) [] w3) := by
    rw [hw3]
    exact ⟨cat_new (Nat.le_refl _), Inv.nil, HB2.out.alloc HB2.out.size _, HB2.out.size, by simp⟩
  have hz3 : w3.heap.size = w2.heap.size + 1 := by rw [hw3]; simp
  have HZ3 : Hid (w3.heap.size = w2.heap.size + 1) := hz3
  clear hw3 hz3
  go_wp2_with fail
  refine (new_any w3).mono ?_
  rintro e w4 ⟨rfl, hw4⟩
  have HA : Hid (Lw w w2.heap.size w2.heap.size (.slice none 0 0) [] w4) := by
    rw [hw4]
    exact HA3.out.below ((Below.refl _ _).alloc (Nat.le_refl _) _)
  have HA2 : Hid (Lw w w3.heap.size w3.heap.size (.slice none 0 0) [] w4 ∧ List.map snapOf [] = of client (List.map snapOf [])) := by
    rw [hw4]
    exact ⟨⟨cat_new (Nat.le_refl _), Inv.nil, HA3.out.bel.alloc HA3.out.bel.size _, HA3.out.bel.size, by simp⟩, rfl⟩
  have HDJ : Hid (∀ k, Owns w2.heap.size (.slice none 0 0) [] k → ¬ Owns w3.heap.size (.slice none 0 0) [] k) := fun k h1 h2 => by
    have e1 : k = w2.heap.size := by
      rcases h1 with h1 | h1 | ⟨z, hz, _⟩
      · exact h1
      · simp [Value.ownBlock] at h1
      · simp at hz
    have e2 : k = w3.heap.size := by
      rcases h2 with h1 | h1 | ⟨z, hz, _⟩
      · exact h1
      · simp [Value.ownBlock] at h1
      · simp at hz
    have := HZ3.out
    omega
  clear hw4 HA3
  cases b
  · go_wp2
    go_ret
    exact ⟨by rfl, HA.out.bel⟩
  have HSH : Hid (∀ j, j < n → j < 80 → ShortR (rqAt L j)) := H2.out.1 rfl
  clear HZ3
  generalize w2.heap.size = p at *
  generalize w3.heap.size = p2 at *
  clear H2 HB2 HB1
  go_wp2
  go_loopw [4, 9, 10, 11, 12] (fun t4 t9 _ _ _ wr => ∃ (i : Nat) (v : Value) (Z : List SZ) (v2 : Value) (Z2 : List SZ), t4 = .bool false ∧ t9 = .int .i64 (i : Int) ∧ i ≤ n ∧ Hid (Lw w p p v Z wr) ∧ Hid (Lw w p2 p2 v2 Z2 wr ∧ Z2.map snapOf = of client (Z.map snapOf)) ∧ Hid (∀ k, Owns p v Z k → ¬ Owns p2 v2 Z2 k)) (fun _ t9 _ _ _ _ => n - (intOf t9).toNat)
  case atStart => exact ⟨0, _, _, _, _, rfl, rfl, Nat.zero_le _, HA, HA2, HDJ⟩
  case round =>
    clear HA HA2 HDJ
    obtain ⟨i, v, Z, v2, Z2, rfl, rfl, hi, HP, HP2, HDJ⟩ := hrel
    by_cases hin : i < n
    · by_cases hi80 : i < 80
      · obtain ⟨x, hx, hdd⟩ := HL.out.at (j := i) (by rw [← HN.out]; exact hin)
        subst hx
        have hsr := HSH.out i hin hi80
        have hix := index_deed x n cap i hin
        generalize rqAt L i = r at hdd hsr
        generalize x.add (i * 6) = q at hdd hix
        obtain ⟨c, t, k, m, nm, pt, ks⟩ := r
        obtain ⟨ka, kn, kc, ⟨g0, g1, g2, g3, g4, g5⟩, hqb, HD⟩ := deed_call HP.out hdd hsr
        have HDD : Hid (DeedAt w q ⟨c, t, k, m, nm, pt, ks⟩ ∧ ShortR ⟨c, t, k, m, nm, pt, ks⟩) := ⟨hdd, hsr⟩
        have hne : wr.heap.size ≠ q.block := by omega
        clear hdd hsr
        go_wp2_with fail
        go_region_held (fun W => W.cell? q = some (.int .i64 c) ∧ W.cell? ⟨q.block, q.off + 1, none⟩ = some (.int .i64 k) ∧ W.cell? ⟨q.block, q.off + 1 + 1, none⟩ = some (.string nm) ∧ W.cell? ⟨q.block, q.off + 1 + 2, none⟩ = some (.string pt) ∧ W.cell? ⟨q.block, q.off + 1 + 3, none⟩ = some (.slice ka kn kc) ∧ W.cell? ⟨q.block, q.off + 1 + 4, none⟩ = some (.int .i64 m))
          (first | with_reducible assumption | simp [hc5, World.cell?_alloc_some] | simp [hc5, hne, World.cell?_setCell_far] | simp [g0, g1, g2, g3, g4, g5, World.cell?_alloc_some])
          (first | (go_at_call 11; refine (HD.out _ (by first | exact (Below.refl _ _).drew | exact ((Below.refl _ _).alloc (Nat.le_refl _) _).drew)).mono ?_; rintro e w5 ⟨⟨ya, yb, s2, n2, c2, s3, n3, c3, s4, n4, c4⟩, v5, Z5, rfl, hc5, hq5, hx5, HD5⟩; first | (have hB5 := hx5.out _ _ _ _ _ (by exact heap_alloc_new wr _); obtain ⟨⟨d0, d1, d2, d3, d4⟩, hf⟩ := box_res hB5; have f0 := hf 0; have f1 := hf 1; have f2 := hf 2; have f3 := hf 3; have f4 := hf 4) | skip))
        all_goals first
          | (have H6 : Hid (Did p p v Z ⟨c, 1, k, m, nm, pt, ks⟩ wr ⟨ya, yb, s2, n2, c2, s3, n3, c3, s4, n4, c4⟩ v5 Z5 (((((w5.setCell ⟨wr.heap.size, 0, none⟩ (.int .i64 ya)).setCell ⟨wr.heap.size, 1, none⟩ (.int .i64 yb)).setCell ⟨wr.heap.size, 2, none⟩ (.slice s2 n2 c2)).setCell ⟨wr.heap.size, 3, none⟩ (.slice s3 n3 c3)).setCell ⟨wr.heap.size, 4, none⟩ (.slice s4 n4 c4)) ∧ ABox (((((w5.setCell ⟨wr.heap.size, 0, none⟩ (.int .i64 ya)).setCell ⟨wr.heap.size, 1, none⟩ (.int .i64 yb)).setCell ⟨wr.heap.size, 2, none⟩ (.slice s2 n2 c2)).setCell ⟨wr.heap.size, 3, none⟩ (.slice s3 n3 c3)).setCell ⟨wr.heap.size, 4, none⟩ (.slice s4 n4 c4)) wr.heap.size ⟨ya, yb, s2, n2, c2, s3, n3, c3, s4, n4, c4⟩) := HD5.out.put hB5 (Nat.le_refl _)
             clear d0 d1 d2 d3 d4 f0 f1 f2 f3 f4 hf hB5
             have HQ4 : Hid (∀ W v' Z', Did p p v Z ⟨c, 1, k, m, nm, pt, ks⟩ wr ⟨ya, yb, s2, n2, c2, s3, n3, c3, s4, n4, c4⟩ v' Z' W → Lw w p p v' Z' W ∧ Lw w p2 p2 v2 Z2 W ∧ (∀ k, Owns p v' Z' k → ¬ Owns p2 v2 Z2 k) ∧ ∃ B1, (∀ k, Owns p2 v2 Z2 k → k < B1) ∧ AnsV B1 (full (Z.map snapOf) ⟨c, 1, k, m, nm, pt, ks⟩).1 (.returned (An.val ⟨ya, yb, s2, n2, c2, s3, n3, c3, s4, n4, c4⟩)) W) := fun W v' Z' hD => apart_first HP.out HP2.out.1 HDJ.out hD
             clear HDJ hne hqb HD g0 g1 g2 g3 g4 g5
             generalize (((((w5.setCell ⟨wr.heap.size, 0, none⟩ (.int .i64 ya)).setCell ⟨wr.heap.size, 1, none⟩ (.int .i64 yb)).setCell ⟨wr.heap.size, 2, none⟩ (.slice s2 n2 c2)).setCell ⟨wr.heap.size, 3, none⟩ (.slice s3 n3 c3)).setCell ⟨wr.heap.size, 4, none⟩ (.slice s4 n4 c4)) = w6 at H6 ⊢
             generalize hbx : wr.heap.size = bx at *)
          | (have H6 : Hid (Did p p v Z ⟨c, 1, k, m, nm, pt, ks⟩ wr ⟨ya, yb, s2, n2, c2, s3, n3, c3, s4, n4, c4⟩ v5 Z5 (w5.alloc (.cells #[.int .i64 ya, .int .i64 yb, .slice s2 n2 c2, .slice s3 n3 c3, .slice s4 n4 c4] 30)) ∧ ABox (w5.alloc (.cells #[.int .i64 ya, .int .i64 yb, .slice s2 n2 c2, .slice s3 n3 c3, .slice s4 n4 c4] 30)) w5.heap.size ⟨ya, yb, s2, n2, c2, s3, n3, c3, s4, n4, c4⟩) := HD5.out.lay
             have HQ4 : Hid (∀ W v' Z', Did p p v Z ⟨c, 1, k, m, nm, pt, ks⟩ wr ⟨ya, yb, s2, n2, c2, s3, n3, c3, s4, n4, c4⟩ v' Z' W → Lw w p p v' Z' W ∧ Lw w p2 p2 v2 Z2 W ∧ (∀ k, Owns p v' Z' k → ¬ Owns p2 v2 Z2 k) ∧ ∃ B1, (∀ k, Owns p2 v2 Z2 k → k < B1) ∧ AnsV B1 (full (Z.map snapOf) ⟨c, 1, k, m, nm, pt, ks⟩).1 (.returned (An.val ⟨ya, yb, s2, n2, c2, s3, n3, c3, s4, n4, c4⟩)) W) := fun W v' Z' hD => apart_first HP.out HP2.out.1 HDJ.out hD
             clear HDJ hne hqb HD g0 g1 g2 g3 g4 g5
             generalize (w5.alloc (.cells #[.int .i64 ya, .int .i64 yb, .slice s2 n2 c2, .slice s3 n3 c3, .slice s4 n4 c4] 30)) = w6 at H6 ⊢
             generalize hbx : w5.heap.size = bx at *)
        all_goals
          clear hbx hc5 hq5 hx5 HD5
          obtain ⟨R1, R2, R3, R4⟩ := HQ4.out _ _ _ H6.out.1
          have HC6 : Hid (Lw w p p v5 Z5 w6) := R1
          have HD6 : Hid (Lw w p2 p2 v2 Z2 w6) := R2
          have HJ6 : Hid (∀ k, Owns p v5 Z5 k → ¬ Owns p2 v2 Z2 k) := R3
          have HW6 : Hid (∃ B1, (∀ k, Owns p2 v2 Z2 k → k < B1) ∧ AnsV B1 (full (Z.map snapOf) ⟨c, 1, k, m, nm, pt, ks⟩).1 (.returned (An.val ⟨ya, yb, s2, n2, c2, s3, n3, c3, s4, n4, c4⟩)) w6) := R4
          clear R1 R2 R3 R4 HQ4
          obtain ⟨ka', kn', kc', ⟨g0, g1, g2, g3, g4, g5⟩, hqb, HD⟩ := deed_call HD6.out HDD.out.1 HDD.out.2
          by_cases hcc : c = client
          · subst hcc
            by_cases hk9 : k = 9
            · subst hk9
              have HR : Hid (Z2.map snapOf = of c (Z5.map snapOf)) := by
                have e := H6.out.1.snaps
                rw [full_nine_snaps _ _ rfl] at e
                show Z2.map snapOf = of c (Z5.map snapOf)
                rw [e]; exact HP2.out.2
              clear HD HDD HW6 H6 HP2 hqb
              go_wp2
              go_roundw
              case rel => exact ⟨i + 1, v5, Z5, v2, Z2, rfl, by go_num, by omega, HC6, ⟨HD6.out, HR.out⟩, HJ6⟩
              case measure => simp [intOf]; omega
            · have hk9b : (k != 9) = true := by simp [hk9]
              have HK9 : Hid (k ≠ 9) := hk9
              have HB6 : Hid (ABox w6 bx ⟨ya, yb, s2, n2, c2, s3, n3, c3, s4, n4, c4⟩) := H6.out.2
              obtain ⟨b0, b1, b2, b3, b4⟩ := HB6.out.cells
              simp only at b0 b1 b2 b3 b4
              clear hk9
              go_wp2_with fail
              refine (HD.out _ (Below.refl _ _)).mono ?_
              rintro e w7 ⟨⟨za, zb, t2, m2, d2, t3, m3, d3, t4, m4, d4⟩, v7, Z7, rfl, _, _, _, HD7⟩
              have H8 : Hid (Did p2 p2 v2 Z2 ⟨c, 1, k, m, nm, pt, ks⟩ w6 ⟨za, zb, t2, m2, d2, t3, m3, d3, t4, m4, d4⟩ v7 Z7 (w7.alloc (.cells #[.int .i64 za, .int .i64 zb, .slice t2 m2 d2, .slice t3 m3 d3, .slice t4 m4 d4] 30)) ∧ ABox (w7.alloc (.cells #[.int .i64 za, .int .i64 zb, .slice t2 m2 d2, .slice t3 m3 d3, .slice t4 m4 d4] 30)) w7.heap.size ⟨za, zb, t2, m2, d2, t3, m3, d3, t4, m4, d4⟩) := HD7.out.lay
              have HB8 : Hid (ABox (w7.alloc (.cells #[.int .i64 za, .int .i64 zb, .slice t2 m2 d2, .slice t3 m3 d3, .slice t4 m4 d4] 30)) bx ⟨ya, yb, s2, n2, c2, s3, n3, c3, s4, n4, c4⟩) := Next.cellAt HD6.out.cat H8.out.1.next HB6.out (by decide) (by decide) (by decide)
              have HE : Hid ((full (Z2.map snapOf) ⟨c, 1, k, m, nm, pt, ks⟩).1 = (full (Z.map snapOf) ⟨c, 1, k, m, nm, pt, ks⟩).1 ∧ Z7.map snapOf = of c (Z5.map snapOf)) := by
                have e := full_of (S := Z.map snapOf) (r := ⟨c, 1, k, m, nm, pt, ks⟩) HK9.out
                rw [HP2.out.2]
                refine ⟨e.1, ?_⟩
                rw [H8.out.1.snaps, HP2.out.2, H6.out.1.snaps]
                exact e.2
              have HAL : Hid (Calls Try.prog 12 #[.agg #[.int .i64 ya, .int .i64 yb, .slice s2 n2 c2, .slice s3 n3 c3, .slice s4 n4 c4], .agg #[.int .i64 za, .int .i64 zb, .slice t2 m2 d2, .slice t3 m3 d3, .slice t4 m4 d4]] (w7.alloc (.cells #[.int .i64 za, .int .i64 zb, .slice t2 m2 d2, .slice t3 m3 d3, .slice t4 m4 d4] 30)) fun e w' => e = .returned (.bool true) ∧ Below (w7.alloc (.cells #[.int .i64 za, .int .i64 zb, .slice t2 m2 d2, .slice t3 m3 d3, .slice t4 m4 d4] 30)).heap.size (w7.alloc (.cells #[.int .i64 za, .int .i64 zb, .slice t2 m2 d2, .slice t3 m3 d3, .slice t4 m4 d4] 30)) w') := by
                obtain ⟨B1, hB1, hA1⟩ := HW6.out
                have a1 := hA1.beside H8.out.1.next hB1
                have a2 := H8.out.1.ans
                rw [HE.out.1] at a2
                exact alike_yes (full_few HP.out.inv _) ⟨ya, yb, s2, n2, c2, s3, n3, c3, s4, n4, c4⟩ ⟨za, zb, t2, m2, d2, t3, m3, d3, t4, m4, d4⟩ a1 a2
              obtain ⟨S1, S2, S3⟩ := apart_second HC6.out HD6.out HJ6.out H8.out.1
              have HC8 : Hid (Lw w p p v5 Z5 (w7.alloc (.cells #[.int .i64 za, .int .i64 zb, .slice t2 m2 d2, .slice t3 m3 d3, .slice t4 m4 d4] 30))) := S1
              have HD8 : Hid (Lw w p2 p2 v7 Z7 (w7.alloc (.cells #[.int .i64 za, .int .i64 zb, .slice t2 m2 d2, .slice t3 m3 d3, .slice t4 m4 d4] 30)) ∧ Z7.map snapOf = of c (Z5.map snapOf)) := ⟨S2, HE.out.2⟩
              have HJ8 : Hid (∀ k, Owns p v5 Z5 k → ¬ Owns p2 v7 Z7 k) := S3
              obtain ⟨x0, x1, x2, x3, x4⟩ := HB8.out.cells
              obtain ⟨y0, y1, y2, y3, y4⟩ := H8.out.2.cells
              simp only at x0 x1 x2 x3 x4 y0 y1 y2 y3 y4
              clear S1 S2 S3 HD HDD HW6 H6 HP HP2 hqb HC6 HD6 HJ6 HB6 HE HD7 H8 HB8 g0 g1 g2 g3 g4 g5 b0 b1 b2 b3 b4
              go_wp2_with fail
              refine HAL.out.mono ?_
              rintro e w9 ⟨rfl, hb9⟩
              have HC9 : Hid (Lw w p p v5 Z5 w9) := HC8.out.below hb9
              have HD9 : Hid (Lw w p2 p2 v7 Z7 w9 ∧ Z7.map snapOf = of c (Z5.map snapOf)) := ⟨HD8.out.1.below hb9, HD8.out.2⟩
              clear hb9 HAL HC8 HD8 x0 x1 x2 x3 x4 y0 y1 y2 y3 y4
              go_wp2
              go_roundw
              case rel => exact ⟨i + 1, v5, Z5, v7, Z7, rfl, by go_num, by omega, HC9, HD9, HJ8⟩
              case measure => simp [intOf]; omega
          · have hcb : (c == client) = false := by simp [hcc]
            have HR : Hid (Z2.map snapOf = of client (Z5.map snapOf)) := by
              show Z2.map snapOf = of client (Z5.map snapOf)
              rw [H6.out.1.snaps, full_else_of (r := ⟨c, 1, k, m, nm, pt, ks⟩) hcc]
              exact HP2.out.2
            clear HD HDD HW6 H6 HP2 hqb hcc
            go_wp2
            go_roundw
            case rel => exact ⟨i + 1, v5, Z5, v2, Z2, rfl, by go_num, by omega, HC6, ⟨HD6.out, HR.out⟩, HJ6⟩
            case measure => simp [intOf]; omega
      · go_wp2
        go_ret
        exact ⟨rfl, HP.out.bel⟩
    · go_wp2
      go_ret
      exact ⟨rfl, HP.out.bel⟩

theorem catalogApart_walk (a : Option Addr) (n cap : Nat) (client : Int) (w : World) (h : ∃ L : List Rq, n = L.length ∧ DeedsIn w a L ∧ n ≤ 9223372036854775807) {P : Prop} (_ : P) :
    Calls Try.prog 3 #[.slice a n cap, .int .i64 client] w fun e w' => e = .returned (.bool true) ∧ Below w.heap.size w w' := by
  obtain ⟨L, h1, h2, h3⟩ := h
  exact catalogApart_main a n cap client L w h1 h2 h3
end Go.Proofs.Ytejhnobhpjlkaaa.Cat
