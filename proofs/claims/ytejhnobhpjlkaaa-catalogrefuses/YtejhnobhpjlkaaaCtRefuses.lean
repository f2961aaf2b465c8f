/-
  The walk of CatalogRefuses.
-/
import Derived.Test.YtejhnobhpjlkaaaCtLw
import Derived.Test.YtejhnobhpjlkaaaCtUp
namespace Go.Proofs.Ytejhnobhpjlkaaa.Cat
open Go.RowKit Route Tree Order

set_option maxHeartbeats 4000000 in
set_option maxRecDepth 100000 in
theorem catalogRefuses_main (a : Option Addr) (n cap : Nat) (L : List Rq) (w : World) (hn : n = L.length) (hl : DeedsIn w a L) (hm : n ≤ 9223372036854775807) :
    Calls Try.prog 5 #[.slice a n cap] w fun e w' => e = .returned (.bool true) ∧ Below w.heap.size w w' := by
  have HN : Hid (n = L.length) := hn
  have HL : Hid (DeedsIn w a L) := hl
  have HU : Hid (Calls _ _ _ _ _) := up_any w
  clear hn hl
  go_enter Try.func5, Try.ntmps5
  go_wp2_with fail
  refine HU.out.mono ?_
  rintro e w1 ⟨rfl, hb1⟩
  have HS : Hid (Calls _ _ _ _ _) := shortD_any a n cap L w1 HN.out (HL.out.below hb1) hm
  have HB1 : Hid (Below w.heap.size w w1) := hb1
  clear HU hb1
  go_wp2_with fail
  refine HS.out.mono ?_
  rintro e w2 ⟨b, rfl, H2⟩
  have HB2 : Hid (Below w.heap.size w w2) := HB1.out.trans (H2.out.2.mono HB1.out.size)
  clear HS
  go_wp2_with fail
  refine (new_any w2).mono ?_
  rintro e w3 ⟨rfl, hw3⟩
  have HA : Hid (Lw w w2.heap.size w2.heap.size (.slice none 0 0) [] w3) := by
    rw [hw3]
    exact ⟨cat_new (Nat.le_refl _), Inv.nil, HB2.out.alloc HB2.out.size _, HB2.out.size, by simp⟩
  cases b
  · clear hw3
    go_wp2
    go_ret
    exact ⟨by rfl, HA.out.bel⟩
  have HSH : Hid (∀ j, j < n → j < 80 → ShortR (rqAt L j)) := H2.out.1 rfl
  generalize w2.heap.size = p at *
  clear hw3 H2 HB2 HB1
  go_wp2
  go_loopw [2, 6, 7, 8] (fun t2 t6 _ _ wr => ∃ (i : Nat) (v : Value) (Z : List SZ), t2 = .bool false ∧ t6 = .int .i64 (i : Int) ∧ i ≤ n ∧ Hid (Lw w p p v Z wr)) (fun _ t6 _ _ _ => n - (intOf t6).toNat)
  case atStart => exact ⟨0, _, _, rfl, rfl, Nat.zero_le _, HA⟩
  case round =>
    obtain ⟨i, v, Z, rfl, rfl, hi, HP⟩ := hrel
    clear HA
    by_cases hin : i < n
    · by_cases hi80 : i < 80
      · have HW : Hid (Calls _ _ _ _ _) := snaps_law HP.out
        go_wp2_with fail
        refine HW.out.mono ?_
        rintro e w4 ⟨a0, n0, c0, Z0, rfl, hn0, hn64, H4⟩
        have HQ : Hid (Lw w p p v Z w4) := HP.out.below H4.out.2.2
        have HWAS : Hid (SRow wr.heap.size (.slice a0 n0 c0) Z0 w4) := H4.out.2.1
        have HZ0 : Hid (n0 = Z0.length ∧ Z0.map snapOf = Z.map snapOf) := ⟨hn0, H4.out.1⟩
        have HOW : Hid (∀ k, Owns p v Z k → k < wr.heap.size) := fun k hk => (HP.out.cat.owns hk).2
        obtain ⟨x, hx, hdd⟩ := HL.out.at (j := i) (by rw [← HN.out]; exact hin)
        subst hx
        have hsr := HSH.out i hin hi80
        have hix := index_deed x n cap i hin
        generalize rqAt L i = r at hdd hsr
        generalize x.add (i * 6) = q at hdd hix
        obtain ⟨c, t, k, m, nm, pt, ks⟩ := r
        obtain ⟨ka, kn, kc, ⟨g0, g1, g2, g3, g4, g5⟩, hqb, HD⟩ := deed_call HQ.out hdd hsr
        have hne : w4.heap.size ≠ q.block := by omega
        clear hdd hsr hn0 H4 HW HP
        go_wp2_with fail
        go_region_held (fun W => W.cell? q = some (.int .i64 c) ∧ W.cell? ⟨q.block, q.off + 1, none⟩ = some (.int .i64 k) ∧ W.cell? ⟨q.block, q.off + 1 + 1, none⟩ = some (.string nm) ∧ W.cell? ⟨q.block, q.off + 1 + 2, none⟩ = some (.string pt) ∧ W.cell? ⟨q.block, q.off + 1 + 3, none⟩ = some (.slice ka kn kc) ∧ W.cell? ⟨q.block, q.off + 1 + 4, none⟩ = some (.int .i64 m))
          (first | with_reducible assumption | simp [hc5, World.cell?_alloc_some] | simp [hc5, hne, World.cell?_setCell_far] | simp [g0, g1, g2, g3, g4, g5, World.cell?_alloc_some])
          (first | (go_at_call 11; refine (HD.out _ (by first | exact (Below.refl _ _).drew | exact ((Below.refl _ _).alloc (Nat.le_refl _) _).drew)).mono ?_; rintro e w5 ⟨⟨ya, yb, s2, n2, c2, s3, n3, c3, s4, n4, c4⟩, v5, Z5, rfl, hc5, hq5, hx5, HD5⟩; first | (have hB5 := hx5.out _ _ _ _ _ (by exact heap_alloc_new w4 _); obtain ⟨⟨d0, d1, d2, d3, d4⟩, hf⟩ := box_res hB5; have f0 := hf 0; have f1 := hf 1; have f2 := hf 2; have f3 := hf 3; have f4 := hf 4) | skip))
        all_goals first
          | (have H6 : Hid (Did p p v Z ⟨c, 1, k, m, nm, pt, ks⟩ w4 ⟨ya, yb, s2, n2, c2, s3, n3, c3, s4, n4, c4⟩ v5 Z5 (((((w5.setCell ⟨w4.heap.size, 0, none⟩ (.int .i64 ya)).setCell ⟨w4.heap.size, 1, none⟩ (.int .i64 yb)).setCell ⟨w4.heap.size, 2, none⟩ (.slice s2 n2 c2)).setCell ⟨w4.heap.size, 3, none⟩ (.slice s3 n3 c3)).setCell ⟨w4.heap.size, 4, none⟩ (.slice s4 n4 c4)) ∧ ABox (((((w5.setCell ⟨w4.heap.size, 0, none⟩ (.int .i64 ya)).setCell ⟨w4.heap.size, 1, none⟩ (.int .i64 yb)).setCell ⟨w4.heap.size, 2, none⟩ (.slice s2 n2 c2)).setCell ⟨w4.heap.size, 3, none⟩ (.slice s3 n3 c3)).setCell ⟨w4.heap.size, 4, none⟩ (.slice s4 n4 c4)) w4.heap.size ⟨ya, yb, s2, n2, c2, s3, n3, c3, s4, n4, c4⟩) := HD5.out.put hB5 (Nat.le_refl _)
             clear d0 d1 d2 d3 d4 f0 f1 f2 f3 f4 hf hB5
             have HWAS4 : Hid (∀ W v' Z', Next p p v Z w4 v' Z' W → SRow wr.heap.size (.slice a0 n0 c0) Z0 W) := fun W v' Z' hN => HWAS.out.beside HQ.out.cat hN HOW.out
             have HQ4 : Hid (∀ W v' Z', Did p p v Z ⟨c, 1, k, m, nm, pt, ks⟩ w4 ⟨ya, yb, s2, n2, c2, s3, n3, c3, s4, n4, c4⟩ v' Z' W → Lw w p p v' Z' W) := fun W v' Z' hD => HQ.out.did hD
             clear HWAS HQ HOW hne hqb HD g0 g1 g2 g3 g4 g5
             generalize (((((w5.setCell ⟨w4.heap.size, 0, none⟩ (.int .i64 ya)).setCell ⟨w4.heap.size, 1, none⟩ (.int .i64 yb)).setCell ⟨w4.heap.size, 2, none⟩ (.slice s2 n2 c2)).setCell ⟨w4.heap.size, 3, none⟩ (.slice s3 n3 c3)).setCell ⟨w4.heap.size, 4, none⟩ (.slice s4 n4 c4)) = w6 at H6 ⊢
             generalize hbx : w4.heap.size = bx at *)
          | (have H6 : Hid (Did p p v Z ⟨c, 1, k, m, nm, pt, ks⟩ w4 ⟨ya, yb, s2, n2, c2, s3, n3, c3, s4, n4, c4⟩ v5 Z5 (w5.alloc (.cells #[.int .i64 ya, .int .i64 yb, .slice s2 n2 c2, .slice s3 n3 c3, .slice s4 n4 c4] 30)) ∧ ABox (w5.alloc (.cells #[.int .i64 ya, .int .i64 yb, .slice s2 n2 c2, .slice s3 n3 c3, .slice s4 n4 c4] 30)) w5.heap.size ⟨ya, yb, s2, n2, c2, s3, n3, c3, s4, n4, c4⟩) := HD5.out.lay
             have HWAS4 : Hid (∀ W v' Z', Next p p v Z w4 v' Z' W → SRow wr.heap.size (.slice a0 n0 c0) Z0 W) := fun W v' Z' hN => HWAS.out.beside HQ.out.cat hN HOW.out
             have HQ4 : Hid (∀ W v' Z', Did p p v Z ⟨c, 1, k, m, nm, pt, ks⟩ w4 ⟨ya, yb, s2, n2, c2, s3, n3, c3, s4, n4, c4⟩ v' Z' W → Lw w p p v' Z' W) := fun W v' Z' hD => HQ.out.did hD
             clear HWAS HQ HOW hne hqb HD g0 g1 g2 g3 g4 g5
             generalize (w5.alloc (.cells #[.int .i64 ya, .int .i64 yb, .slice s2 n2 c2, .slice s3 n3 c3, .slice s4 n4 c4] 30)) = w6 at H6 ⊢
             generalize hbx : w5.heap.size = bx at *)
        all_goals
          clear hbx hc5 hq5 hx5 HD5 hix
          have HQ6 : Hid (Lw w p p v5 Z5 w6) := HQ4.out _ _ _ H6.out.1
          have HW6 : Hid (SRow wr.heap.size (.slice a0 n0 c0) Z0 w6) := HWAS4.out _ _ _ H6.out.1.next
          clear HQ4 HWAS4
          obtain ⟨b0, b1, b2, b3, b4⟩ := H6.out.2.cells
          obtain ⟨q1, q2, q3, q4, q5, _⟩ := H6.out.1.ans.parts
          simp only at b0 b1 b2 b3 b4 q1 q2 q3 q4 q5
          by_cases hcode : (full (Z.map snapOf) ⟨c, 1, k, m, nm, pt, ks⟩).1.code = 0
          · have q1' : ya = 0 := by rw [q1, hcode]; rfl
            subst q1'
            clear q1 q2 q3 q4 q5 hcode H6
            go_wp2
            go_roundw
            case rel => exact ⟨i + 1, v5, Z5, rfl, by go_num, by omega, HQ6⟩
            case measure => simp [intOf]; omega
          · obtain ⟨hsn, hno⟩ := full_refused (Z.map snapOf) ⟨c, 1, k, m, nm, pt, ks⟩ hcode
            rw [hno] at q2 q3 q4 q5
            have HZ5 : Hid (Z5.map snapOf = Z.map snapOf) := H6.out.1.snaps.trans hsn
            have q2' : yb = 0 := q2
            have q3' : n2 = 0 := q3
            have q4' : n3 = 0 := q4
            have q5' : n4 = 0 := q5
            subst q2' q3' q4' q5'
            have hya : (ya != 0) = true := by rw [q1]; simp; omega
            have HB6 : Hid (ABox w6 bx _) := H6.out.2
            have HSN : Hid (Calls _ _ _ _ _) := snaps_law HQ6.out
            clear q1 q2 q3 q4 q5 hcode H6 hsn hno
            go_wp2_with fail
            refine HSN.out.mono ?_
            rintro e w7 ⟨a7, n7, c7, Z7, rfl, hn7, _, H7⟩
            have hlen : n7 = n0 ∧ n0 = (Z.map snapOf).length := by
              have e1 := congrArg List.length H7.out.1
              have e2 := congrArg List.length HZ0.out.2
              have e3 := congrArg List.length HZ5.out
              have e4 := HZ0.out.1
              simp only [List.length_map] at e1 e2 e3 ⊢
              omega
            obtain ⟨rfl, hnl⟩ := hlen
            have HSM : Hid (Calls _ _ _ _ _) := same_law H7.out.2.1 (HW6.out.below H7.out.2.2) (H7.out.1.trans HZ5.out) HZ0.out.2 (by rw [← HZ5.out]; exact HQ6.out.inv) hnl
            have HQ7 : Hid (Lw w p p v5 Z5 w7) := HQ6.out.below H7.out.2.2
            have HB7 : Hid (ABox w7 bx _) := HB6.out.below H7.out.2.2
            clear hn7 hnl H7 HW6 HQ6 HSN HB6 b0 b1 b2 b3 b4
            go_wp2_with fail
            refine HSM.out.mono ?_
            rintro e w8 ⟨rfl, hb8⟩
            obtain ⟨b0, b1, b2, b3, b4⟩ := (HB7.out.below hb8).cells
            simp only at b0 b1 b2 b3 b4
            have HQ8 : Hid (Lw w p p v5 Z5 w8) := HQ7.out.below hb8
            clear hb8 HSM
            go_wp2
            go_roundw
            case rel => exact ⟨i + 1, v5, Z5, rfl, by go_num, by omega, HQ8⟩
            case measure => simp [intOf]; omega
      · go_wp2
        go_ret
        exact ⟨rfl, HP.out.bel⟩
    · go_wp2
      go_ret
      exact ⟨rfl, HP.out.bel⟩

theorem catalogRefuses_walk (a : Option Addr) (n cap : Nat) (w : World) (h : ∃ L : List Rq, n = L.length ∧ DeedsIn w a L ∧ n ≤ 9223372036854775807) :
    Calls Try.prog 5 #[.slice a n cap] w fun e w' => e = .returned (.bool true) ∧ Below w.heap.size w w' := by
  obtain ⟨L, h1, h2, h3⟩ := h
  exact catalogRefuses_main a n cap L w h1 h2 h3
end Go.Proofs.Ytejhnobhpjlkaaa.Cat
