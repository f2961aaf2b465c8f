/-
  The walk of CatalogStays.
-/
import Derived.Test.YtejhnobhpjlkaaaCtStay4
import Derived.Test.YtejhnobhpjlkaaaCtUp
namespace Go.Proofs.Ytejhnobhpjlkaaa.Cat
open Go.RowKit Route Tree Order

theorem given_few {S : List Snap} (h : ∀ s ∈ S, SGiven s) : ∀ s ∈ S, SFew s := fun s hs => by
  have h1 := (h s hs).2
  exact ⟨by have := h1.2.1; omega, fun j hj => by have := (h1.2.2 j hj).2.1; omega⟩

theorem given_all {S : List Snap} {n : Nat} (hn : n = S.length) (h : ∀ j, j < n → SGiven (snapAt S j) ∧ (snapAt S j).2.1.size ≤ 2000) : ∀ s ∈ S, SGiven s := fun s hs => by
  obtain ⟨j, hj, rfl⟩ := List.mem_iff_getElem.1 hs
  have := (h j (by omega)).1
  rwa [snapAt_get hj] at this

/-- A deed of a law's own: the operation's box, and what the call comes to. -/
theorem deed_own {w0 w7 : World} {p : Nat} {v : Value} {Z : List SZ} (h : Lw w0 p p v Z w7) {q : Addr} {c k m : Int} {nm pt : ByteArray} {a6 : Option Addr} {kn c6 bo : Nat} {ks : List ByteArray} (hq : w0.cell? q = some (.int .i64 c)) (hbo : w7.heap[bo]? = some (.cells #[.int .i64 k, .string nm, .string pt, .slice a6 kn c6, .int .i64 m] 33 (0, 0))) (hnm : nm.size ≤ 100000) (hpt : pt.size ≤ 100000) (hk : KeysAt w7 a6 kn c6 ks) :
    ∀ W, Below w7.heap.size w7 W → Calls Try.prog 11 #[.pointer (some ⟨p, 0, none⟩), .int .i64 c, .agg #[.int .i64 k, .string nm, .string pt, .slice a6 kn c6, .int .i64 m]] W fun e w' => ∃ (y : An) (v' : Value) (Z' : List SZ), e = .returned (.agg #[.int .i64 y.a, .int .i64 y.b, .slice y.s2 y.n2 y.c2, .slice y.s3 y.n3 y.c3, .slice y.s4 y.n4 y.c4]) ∧ (w'.cell? q = some (.int .i64 c) ∧ w'.cell? ⟨bo, 0, none⟩ = some (.int .i64 k) ∧ w'.cell? ⟨bo, 1, none⟩ = some (.string nm) ∧ w'.cell? ⟨bo, 2, none⟩ = some (.string pt) ∧ w'.cell? ⟨bo, 3, none⟩ = some (.slice a6 kn c6) ∧ w'.cell? ⟨bo, 4, none⟩ = some (.int .i64 m)) ∧
      (q.block < w'.heap.size ∧ bo < w'.heap.size) ∧ Hid (∀ x0 x1 x2 x3 x4, W.heap[w7.heap.size]? = some (.cells #[x0, x1, x2, x3, x4] 30 (0, 0)) → w'.heap[w7.heap.size]? = some (.cells #[x0, x1, x2, x3, x4] 30 (0, 0))) ∧ Hid (Did p p v Z ⟨c, 1, k, m, nm, pt, ks⟩ w7 y v' Z' w') ∧ Hid ((v' = v ∧ Z' = Z) ∨ Bare (full (Z.map snapOf) ⟨c, 1, k, m, nm, pt, ks⟩).1) := by
  intro W hW
  have hL := h.below hW
  refine (did_split hL hnm hpt (hk.below hW)).mono ?_
  rintro e w' ⟨y, v', Z', rfl, hD, hs⟩
  have hb' : Below w0.heap.size w0 w' := hL.bel.trans ((hD.out.next.under hL.cat hL.fit).mono hL.low)
  have hbo' := hD.out.next.cellAt hL.cat ((hW.block _ (Array.getElem?_eq_some_iff.1 hbo).1).trans hbo) (by decide) (by decide) (by decide)
  refine ⟨y, v', Z', rfl, ⟨cell_low hb' (Nat.le_refl _) hq, ?_, ?_, ?_, ?_, ?_⟩, ⟨Nat.lt_of_lt_of_le (World.block_lt_of_cell? w0 _ hq) hb'.size, (Array.getElem?_eq_some_iff.1 hbo').1⟩, fun x0 x1 x2 x3 x4 hx => hD.out.next.cellAt hL.cat hx (by decide) (by decide) (by decide), Did.ahead hW hD.out, hs⟩
  all_goals simp [World.cell?, hbo']

set_option maxHeartbeats 16000000 in
set_option maxRecDepth 100000 in
theorem catalogStays_main (a : Option Addr) (n cap : Nat) (S : List Snap) (sa : Option Addr) (sn scap : Nat) (L : List Rq) (w : World) (hn : n = S.length) (hl : LiesN w a S) (hm : n ≤ 9223372036854775807) (hs : ∀ s ∈ S, s.2.1.size ≤ maxLen) (hn2 : sn = L.length) (hl2 : DeedsIn w sa L) (hm2 : sn ≤ 9223372036854775807) :
    Calls Try.prog 6 #[.slice a n cap, .slice sa sn scap] w fun e w' => e = .returned (.bool true) ∧ Below w.heap.size w w' := by
  have HN : Hid (n = S.length) := hn
  have HL : Hid (LiesN w a S) := hl
  have HN2 : Hid (sn = L.length) := hn2
  have HL2 : Hid (DeedsIn w sa L) := hl2
  have HU : Hid (Calls _ _ _ _ _) := up_any w
  have HSS : Hid (∀ W, LiesN W a S → Calls Try.prog 16 #[.slice a n cap] W (ShS n S W)) := fun W h => shortS_any a n cap S W hn h hm hs
  have q1 := neNil
  have q2 := neArgNil
  clear hn hl hn2 hl2 hs
  go_enter Try.func6, Try.ntmps6
  go_wp2_with fail
  refine HU.out.mono ?_
  rintro e w1 ⟨rfl, hb1⟩
  have HB1 : Hid (Below w.heap.size w w1) := hb1
  clear HU hb1
  go_wp2_with fail
  refine (HSS.out w1 (HL.out.below HB1.out (Nat.le_refl _))).mono ?_
  rintro e w1' ⟨b, rfl, hw1', HBS⟩
  have hw9 := hw1'.symm
  subst hw9
  have HSD : Hid (Calls _ _ _ _ _) := shortD_any sa sn scap L w1 HN2.out (HL2.out.below HB1.out) hm2
  clear HSS
  go_wp2_with fail
  refine HSD.out.mono ?_
  rintro e w2 ⟨b2, rfl, H2⟩
  have HB2 : Hid (Below w.heap.size w w2) := HB1.out.trans (H2.out.2.mono HB1.out.size)
  clear HSD HB1
  cases b
  · go_wp2
    go_ret
    exact ⟨by rfl, HB2.out⟩
  cases b2
  · go_wp2
    go_ret
    exact ⟨by rfl, HB2.out⟩
  have HSH : Hid (∀ j, j < sn → j < 80 → ShortR (rqAt L j)) := H2.out.1 (by simp)
  have hn100 : n ≤ 100 := (HBS.out (by simp)).1
  have HG : Hid (∀ s ∈ S, SGiven s) := given_all HN.out (HBS.out (by simp)).2
  have HCP : Hid (Calls _ _ _ _ _) := copyS_any a n cap S w2 HN.out (HL.out.below HB2.out (Nat.le_refl _)) (by omega) (given_few HG.out)
  clear H2 HBS
  go_wp2_with fail
  refine HCP.out.mono ?_
  rintro e w3 ⟨vo, Zo, rfl, hzo, hro, hbo⟩
  obtain ⟨ao, co, rfl, hlo⟩ := hro.sees
  have hno : Zo.length = n := by rw [HN.out, ← hzo]; simp
  rw [hno, hzo] at *
  have HOWN : Hid (LiesN w3 ao S) := hlo
  have HB3 : Hid (Below w.heap.size w w3) := HB2.out.trans (hbo.mono HB2.out.size)
  have HF : Hid (Calls _ _ _ _ _) := from_any ao n co S w3 HN.out hlo (by omega) HG.out
  clear hzo hro hbo hno hlo HCP HB2
  go_wp2_with fail
  refine HF.out.mono ?_
  rintro e w4 hp4
  clear HF
  rcases hp4 with ⟨HMAY, v0, Z0, rfl, hz0, hc0, hb0⟩ | ⟨_, rfl, hb0⟩
  · have HP0 : Hid (Lw w3 w3.heap.size w3.heap.size v0 Z0 w4) := ⟨hc0, by rw [hz0]; exact HMAY.inv, hb0, Nat.le_refl _, hb0.size⟩
    have HL3 : Hid (DeedsIn w3 sa L) := HL2.out.below HB3.out
    have HLA : Hid (LiesN w3 a S) := HL.out.below HB3.out (Nat.le_refl _)
    clear hz0 hc0 hb0 HMAY HL HL2
    obtain ⟨p, hp⟩ : ∃ p, p = w3.heap.size := ⟨_, rfl⟩
    have HPW : Hid (p = w3.heap.size) := hp
    rw [← hp] at HP0
    rw [← hp]
    clear hp
    go_wp2
    go_loopw [4, 11, 12, 13, 14, 15, 16, 17, 18, 19, 20, 21] (fun t4 t11 _ _ _ _ _ _ _ _ _ _ wr => ∃ (i : Nat) (v : Value) (Z : List SZ), t4 = .bool false ∧ t11 = .int .i64 (i : Int) ∧ i ≤ sn ∧ Hid (Lw w3 p p v Z wr)) (fun _ t11 _ _ _ _ _ _ _ _ _ _ _ => sn - (intOf t11).toNat)
    case atStart => exact ⟨0, _, _, rfl, rfl, Nat.zero_le _, HP0⟩
    case round =>
      clear HP0
      obtain ⟨i, v, Z, rfl, rfl, hi, HP⟩ := hrel
      by_cases hlt : i < sn ∧ i < 80
      · obtain ⟨hin, hi80⟩ := hlt
        obtain ⟨x, hx, hdd⟩ := HL3.out.at (j := i) (by rw [← HN2.out]; exact hin)
        subst hx
        have hsr := HSH.out i hin hi80
        have hix := index_deed x sn scap i hin
        generalize rqAt L i = rr at hdd hsr
        generalize x.add (i * 6) = q at hdd hix
        obtain ⟨c, t, k, m, nm, pt, ks⟩ := rr
        obtain ⟨ka, kc, e0, e1, e2, e3, e4, e5, hra, ht⟩ := hdd
        simp only at e0 e1 e2 e3 e4 e5 ht
        subst ht
        have HQ0 : Hid (w3.cell? q = some (.int .i64 c)) := e0
        have hfit := req_fits (hra.below HP.out.bel) hsr
        have HRA : Hid (KeysAt wr ka ks.length kc ks ∧ nm.size ≤ 100000 ∧ pt.size ≤ 100000 ∧ (ka = none → kc = 0)) := ⟨hfit.2.2, hfit.1, hfit.2.1, hra.nil⟩
        have HK100 : Hid (ks.length ≤ 100) := hsr.2.2
        have l3 := Nat.le_refl w3.heap.size
        have g0 := cell_low HP.out.bel l3 e0
        have g1 := cell_low HP.out.bel l3 e1
        have g2 := cell_low HP.out.bel l3 e2
        have g3 := cell_low HP.out.bel l3 e3
        have g4 := cell_low HP.out.bel l3 e4
        have g5 := cell_low HP.out.bel l3 e5
        obtain ⟨kn, hkn⟩ : ∃ kn, kn = ks.length := ⟨_, rfl⟩
        have HKN : Hid (kn = ks.length) := hkn
        rw [← hkn] at g4 HRA HK100
        have HBA : Hid (Below wr.heap.size wr (wr.alloc (.cells #[.int .i64 k, .string nm, .string pt, .slice ka kn kc, .int .i64 m] 33))) := (Below.refl _ _).alloc (Nat.le_refl _) _
        have HG4 : (wr.alloc (.cells #[.int .i64 k, .string nm, .string pt, .slice ka kn kc, .int .i64 m] 33)).cell? ⟨q.block, q.off + 1 + 3, none⟩ = some (.slice ka kn kc) := cell_kept HBA.out g4
        have HG4b : ((wr.alloc (.cells #[.int .i64 k, .string nm, .string pt, .slice ka kn kc, .int .i64 m] 33)).alloc (.cells #[] 9)).cell? ⟨q.block, q.off + 1 + 3, none⟩ = some (.slice ka kn kc) := cell_kept ((Below.refl _ _).alloc (Nat.le_refl _) _) HG4
        have HKL : Hid (Route.Lies (wr.alloc (.cells #[.int .i64 k, .string nm, .string pt, .slice ka kn kc, .int .i64 m] 33)) ka ks) := HRA.out.1.lies.below HBA.out (Nat.le_refl _)
        clear e0 e1 e2 e3 e4 e5 hra hsr hkn hfit l3
        go_wp2_with (at_builtin; refine wpList_strs rfl (.tmp 68) (.tmp 74) rfl (wr.alloc (.cells #[.int .i64 k, .string nm, .string pt, .slice ka kn kc, .int .i64 m] 33)).heap.size _ [] rfl (wr.alloc (.cells #[.int .i64 k, .string nm, .string pt, .slice ka kn kc, .int .i64 m] 33)) (fresh_at _ _ (by simp)) ks ka kn kc rfl HKN.out (HKL.out.below ((Below.refl _ _).alloc (Nat.le_refl _) _) (Nat.le_refl _)) HRA.out.2.2.2 HRA.out.1.nm (by show 0 + kn ≤ _; have := HK100.out; omega) ?_; rw [List.nil_append]; intro v6 w6 hs6; obtain ⟨a6, c6, rfl, _, _, _⟩ := hs6.liesN HKN.out; have hob := op_box hs6.2.1; obtain ⟨⟨d0, d1, d2, d3, d4⟩, hfz⟩ := box_res hob; have f3 := hfz 3; have HS6 : Hid (Strs (wr.alloc (.cells #[.int .i64 k, .string nm, .string pt, .slice ka kn kc, .int .i64 m] 33)).heap.size (.slice a6 kn c6) ks (wr.alloc (.cells #[.int .i64 k, .string nm, .string pt, .slice ka kn kc, .int .i64 m] 33)) w6) := hs6; have HOB6 : Hid (w6.heap[wr.heap.size]? = _) := hob; clear hs6 hob hfz)
        obtain ⟨w7, hw7⟩ : ∃ w7, w7 = w6.setCell ⟨wr.heap.size, 3, none⟩ (.slice a6 kn c6) := ⟨_, rfl⟩
        have HPK := stay_open HP.out HRA.out.1 HS6.out hw7
        have HP7 : Hid (Lw w3 p p v Z w7) := HPK.1
        have HBO : Hid (w7.heap[wr.heap.size]? = _) := HPK.2.1
        have HO7 : Hid (w7.ownsRow p 9 1 (.slice a6 kn c6) kn (sv ks)) := HPK.2.2.1
        have HOB : Hid (∀ b, (Value.slice a6 kn c6).ownBlock = some b → ¬ Owns p v Z b ∧ ¬ KB Z b) := HPK.2.2.2.1
        have HK7 : Hid (KeysAt w7 a6 kn c6 ks) := HPK.2.2.2.2.1
        have hsz7 : wr.heap.size < w7.heap.size := HPK.2.2.2.2.2
        have hqb : q.block < wr.heap.size := World.block_lt_of_cell? wr _ g0
        have HNP : Hid (nm.size ≤ 100000 ∧ pt.size ≤ 100000) := ⟨HRA.out.2.1, HRA.out.2.2.1⟩
        rw [← hw7]
        clear HPK hw7 HS6 HOB6 d0 d1 d2 d3 d4 f3 HKL HG4 HG4b HBA HRA HKN g0 g1 g2 g3 g4 g5 HP HK100
        generalize wr.heap.size = bo at *
        have HD : Hid (∀ W, Below w7.heap.size w7 W → _) := deed_own HP7.out HQ0.out HBO.out HNP.out.1 HNP.out.2 HK7.out
        have e0 := cell_low HP7.out.bel (Nat.le_refl _) HQ0.out
        obtain ⟨⟨d0, d1, d2, d3, d4⟩, _⟩ := box_res HBO.out
        have hne : w7.heap.size ≠ q.block := by omega
        have hne2 : w7.heap.size ≠ bo := by omega
        go_wp2_with fail
        go_region_held (fun W => (W.cell? q = some (.int .i64 c) ∧ W.cell? ⟨bo, 0, none⟩ = some (.int .i64 k) ∧ W.cell? ⟨bo, 1, none⟩ = some (.string nm) ∧ W.cell? ⟨bo, 2, none⟩ = some (.string pt) ∧ W.cell? ⟨bo, 3, none⟩ = some (.slice a6 kn c6) ∧ W.cell? ⟨bo, 4, none⟩ = some (.int .i64 m)))
          (first | with_reducible assumption | simp [hc5, World.cell?_alloc_some] | simp [hc5, hne, hne2, World.cell?_setCell_far] | simp [e0, d0, d1, d2, d3, d4, World.cell?_alloc_some])
          (first | (go_at_call 11; refine (HD.out _ (by first | exact (Below.refl _ _).drew | exact ((Below.refl _ _).alloc (Nat.le_refl _) _).drew)).mono ?_; rintro e w5 ⟨⟨ya, yb, s2, n2, c2, s3, n3, c3, s4, n4, c4⟩, v5, Z5, rfl, hc5, hq5, hx5, HD5, HS5⟩; first | (have hB5 := hx5.out _ _ _ _ _ (by exact heap_alloc_new w7 _); obtain ⟨⟨b0, b1, b2, b3, b4⟩, hf⟩ := box_res hB5; have f0 := hf 0; have f1 := hf 1; have f2 := hf 2; have f3 := hf 3; have f4 := hf 4) | skip))
        all_goals first
          | (have H8 : Hid (Did p p v Z ⟨c, 1, k, m, nm, pt, ks⟩ w7 ⟨ya, yb, s2, n2, c2, s3, n3, c3, s4, n4, c4⟩ v5 Z5 (((((w5.setCell ⟨w7.heap.size, 0, none⟩ (.int .i64 ya)).setCell ⟨w7.heap.size, 1, none⟩ (.int .i64 yb)).setCell ⟨w7.heap.size, 2, none⟩ (.slice s2 n2 c2)).setCell ⟨w7.heap.size, 3, none⟩ (.slice s3 n3 c3)).setCell ⟨w7.heap.size, 4, none⟩ (.slice s4 n4 c4)) ∧ ABox (((((w5.setCell ⟨w7.heap.size, 0, none⟩ (.int .i64 ya)).setCell ⟨w7.heap.size, 1, none⟩ (.int .i64 yb)).setCell ⟨w7.heap.size, 2, none⟩ (.slice s2 n2 c2)).setCell ⟨w7.heap.size, 3, none⟩ (.slice s3 n3 c3)).setCell ⟨w7.heap.size, 4, none⟩ (.slice s4 n4 c4)) w7.heap.size ⟨ya, yb, s2, n2, c2, s3, n3, c3, s4, n4, c4⟩) := HD5.out.put hB5 (Nat.le_refl _)
             clear b0 b1 b2 b3 b4 f0 f1 f2 f3 f4 hf hB5
             clear hc5 hq5 hx5 HD5 hne hne2 hqb HD e0 d0 d1 d2 d3 d4
             generalize (((((w5.setCell ⟨w7.heap.size, 0, none⟩ (.int .i64 ya)).setCell ⟨w7.heap.size, 1, none⟩ (.int .i64 yb)).setCell ⟨w7.heap.size, 2, none⟩ (.slice s2 n2 c2)).setCell ⟨w7.heap.size, 3, none⟩ (.slice s3 n3 c3)).setCell ⟨w7.heap.size, 4, none⟩ (.slice s4 n4 c4)) = w8 at H8 ⊢
             generalize hbx : w7.heap.size = bx at *)
          | (have H8 : Hid (Did p p v Z ⟨c, 1, k, m, nm, pt, ks⟩ w7 ⟨ya, yb, s2, n2, c2, s3, n3, c3, s4, n4, c4⟩ v5 Z5 (w5.alloc (.cells #[.int .i64 ya, .int .i64 yb, .slice s2 n2 c2, .slice s3 n3 c3, .slice s4 n4 c4] 30)) ∧ ABox (w5.alloc (.cells #[.int .i64 ya, .int .i64 yb, .slice s2 n2 c2, .slice s3 n3 c3, .slice s4 n4 c4] 30)) w5.heap.size ⟨ya, yb, s2, n2, c2, s3, n3, c3, s4, n4, c4⟩) := HD5.out.lay
             clear hc5 hq5 hx5 HD5 hne hne2 hqb HD e0 d0 d1 d2 d3 d4
             generalize (w5.alloc (.cells #[.int .i64 ya, .int .i64 yb, .slice s2 n2 c2, .slice s3 n3 c3, .slice s4 n4 c4] 30)) = w8 at H8 ⊢
             generalize hbx : w5.heap.size = bx at *)
        all_goals
          have hpk := stay_mid HP7.out HBO.out HO7.out HOB.out H8.out HS5.out
          dsimp only at hpk
          obtain ⟨hp8, hbo8, F, Y4, hF, hF1, hF2, hF3, hn4, hky, hknm, hn3m, hn4m, hst⟩ := hpk
          have HP8 : Hid (Lw w3 p p v5 Z5 w8) := hp8
          have HBO8 : Hid (w8.heap[bo]? = (some (.cells #[.int .i64 k, .string nm, .string pt, .slice a6 kn c6, .int .i64 m] 33 (0, 0)))) := hbo8
          have HBX8 : Hid (w8.heap[bx]? = (some (.cells #[.int .i64 ya, .int .i64 yb, .slice s2 n2 c2, .slice s3 n3 c3, .slice s4 n4 c4] 30 (0, 0)))) := H8.out.2
          have HFF : Hid (∀ k, F k → k < w8.heap.size ∧ ∃ c, w8.heap[k]? = some (.cells c 9 (0, 0)) ∨ w8.heap[k]? = some (.cells c 39 (0, 0))) := fun k hk => ⟨(hF k hk).2.1, (hF k hk).2.2.2⟩
          have HFE : Hid (∀ k, F k → (¬ Owns p v5 Z5 k ∧ ¬ KB Z5 k) ∧ k < w8.heap.size ∧ p ≤ k) := fun k hk => ⟨(hF k hk).1, (hF k hk).2.1, (hF k hk).2.2.1⟩
          have HF1 : Hid (∀ g, (Value.slice a6 kn c6).ownBlock = some g → F g) := hF1
          have HF2 : Hid (0 < n3 → ∀ g, (Value.slice s3 n3 c3).ownBlock = some g → F g) := hF2
          have HF3 : Hid (0 < n4 → (∀ g, (Value.slice s4 n4 c4).ownBlock = some g → F g) ∧ ∀ z ∈ Y4, ∀ g, z.2.ownBlock = some g → F g) := hF3
          have HN4 : Hid (n4 = Y4.length) := hn4
          have HKY : Hid (∀ z ∈ Y4, ∃ az cz, z.2 = .slice az z.1.2.2.length cz ∧ z.1.2.2.length ≤ maxLen) := hky
          have HSTF : Hid (∀ W, Below w8.heap.size w8 W → St F W (.slice a6 kn c6) kn (.slice s3 n3 c3) n3 (.slice s4 n4 c4) n4 Y4 W) := hst
          have lkn : kn ≤ 9223372036854775807 := hknm
          have ln3 : n3 ≤ 9223372036854775807 := hn3m
          have ln4 : n4 ≤ 9223372036854775807 := hn4m
          clear hp8 hbo8 hF hF1 hF2 hF3 hn4 hky hknm hn3m hn4m hst H8 HS5 HP7 HBO HO7 HOB HK7 hsz7 HNP HQ0
          go_wp2_with fail
          refine (snaps_law HP8.out).mono ?_
          rintro e w9 ⟨av, nv, cv, Zv, rfl, hnv, hnv64, HV⟩
          have HB9 : Hid (Below w8.heap.size w8 w9) := HV.out.2.2
          have HCW : Hid (Calls _ _ _ _ _) := snaps_copy HP8.out hnv hnv64 HV.out
          clear HV hnv hnv64
          go_wp2_with fail
          refine HCW.out.mono ?_
          rintro e w10 ⟨aw, nw, cw, Zw, rfl, hnw, hnw64, HW⟩
          have HB10 : Hid (Below w8.heap.size w8 w10) := HB9.out.trans (HW.out.2.2.mono HB9.out.size)
          have HST : Hid (St F w10 (.slice a6 kn c6) kn (.slice s3 n3 c3) n3 (.slice s4 n4 c4) n4 Y4 w10) := HSTF.out w10 HB10.out
          have HNW : Hid (nw = Zw.length) := hnw
          clear HCW HSTF hnw
          go_wp2
          go_loopw [15] (fun t wr => ∃ j : Nat, t = .int .i64 (j : Int) ∧ j ≤ kn ∧ Hid (St F w10 (.slice a6 kn c6) kn (.slice s3 n3 c3) n3 (.slice s4 n4 c4) n4 Y4 wr)) (fun t _ => kn - (intOf t).toNat)
          case atStart => exact ⟨0, rfl, Nat.zero_le _, HST⟩
          case round =>
            clear HST
            obtain ⟨j, rfl, hj, HT⟩ := hrel
            obtain ⟨⟨_, _, _, d3, d4⟩, _⟩ := box_res (HT.out.box HB10.out HBO8.out HFF.out (by decide) (by decide))
            by_cases hlt : j < kn
            · obtain ⟨g, rfl, ⟨u, hu⟩, hfz, hset⟩ := HT.out.one HF1.out hlt (.string ⟨#[33]⟩)
              have HSET : Hid (St F w10 _ kn _ n3 _ n4 Y4 (wr.setCell ⟨g, j, none⟩ (.string ⟨#[33]⟩))) := hset
              clear hset HT
              go_wp2
              go_roundw
              case rel => exact ⟨j + 1, by go_num, by omega, HSET⟩
              case measure => simp [intOf]; omega
            · have HST : Hid (St F w10 (.slice a6 kn c6) kn (.slice s3 n3 c3) n3 (.slice s4 n4 c4) n4 Y4 wr) := HT
              clear HT
              go_wp2
              clear d3 d4 hlt hj
              go_loopw [16] (fun t wr => ∃ j : Nat, t = .int .i64 (j : Int) ∧ j ≤ n3 ∧ Hid (St F w10 (.slice a6 kn c6) kn (.slice s3 n3 c3) n3 (.slice s4 n4 c4) n4 Y4 wr)) (fun t _ => n3 - (intOf t).toNat)
              case atStart => exact ⟨0, rfl, Nat.zero_le _, HST⟩
              case round =>
                clear HST
                obtain ⟨j, rfl, hj, HT⟩ := hrel
                obtain ⟨⟨_, _, _, d3, d4⟩, _⟩ := box_res (HT.out.box HB10.out HBX8.out HFF.out (by decide) (by decide))
                by_cases hlt : j < n3
                · obtain ⟨g, rfl, ⟨u, hu⟩, hfz, hset⟩ := HT.out.two (HF2.out (by omega)) hlt (.string ⟨#[33]⟩)
                  have HSET : Hid (St F w10 _ kn _ n3 _ n4 Y4 (wr.setCell ⟨g, j, none⟩ (.string ⟨#[33]⟩))) := hset
                  clear hset HT
                  go_wp2
                  go_roundw
                  case rel => exact ⟨j + 1, by go_num, by omega, HSET⟩
                  case measure => simp [intOf]; omega
                · have HST : Hid (St F w10 (.slice a6 kn c6) kn (.slice s3 n3 c3) n3 (.slice s4 n4 c4) n4 Y4 wr) := HT
                  clear HT
                  go_wp2
                  clear d3 d4 hlt hj
                  go_loopw [17, 18] (fun t _ wr => ∃ j : Nat, t = .int .i64 (j : Int) ∧ j ≤ n4 ∧ Hid (St F w10 (.slice a6 kn c6) kn (.slice s3 n3 c3) n3 (.slice s4 n4 c4) n4 Y4 wr)) (fun t _ _ => n4 - (intOf t).toNat)
                  case atStart => exact ⟨0, rfl, Nat.zero_le _, HST⟩
                  case round =>
                    clear HST
                    obtain ⟨j, rfl, hj, HT⟩ := hrel
                    obtain ⟨⟨_, _, _, d3, d4⟩, _⟩ := box_res (HT.out.box HB10.out HBX8.out HFF.out (by decide) (by decide))
                    by_cases hlt : j < n4
                    · have HFP := HF3.out (by omega)
                      obtain ⟨az, zn, cz, hze, hzn, lzn⟩ := zOf_len HKY.out (j := j) (by rw [← HN4.out]; exact hlt)
                      have hzm : zOf Y4 j ∈ Y4 := zOf_mem (by rw [← HN4.out]; exact hlt)
                      have HFZ : Hid (∀ g, (zOf Y4 j).2.ownBlock = some g → F g) := HFP.2 _ hzm
                      have HZM : Hid (zOf Y4 j ∈ Y4) := hzm
                      have HZE : Hid ((zOf Y4 j).2 = .slice az zn cz) := hze
                      have HZN : Hid (zn = (zOf Y4 j).1.2.2.length) := hzn
                      have lzn' : zn ≤ 9223372036854775807 := lzn
                      obtain ⟨g, rfl, ⟨u, hu⟩, hfz, _, hset⟩ := HT.out.path HFP.1 hlt (.string ⟨#[33]⟩)
                      have HSET : Hid (St F w10 _ kn _ n3 _ n4 Y4 (wr.setCell ⟨g, j * 3, none⟩ (.string ⟨#[33]⟩))) := hset
                      have hix := index_ent0 g n4 c4 j hlt
                      clear hset HT HFP hzm hze hzn lzn
                      go_wp2
                      go_loopw [18] (fun t wr => ∃ l : Nat, t = .int .i64 (l : Int) ∧ l ≤ zn ∧ Hid (St F w10 _ kn _ n3 _ n4 Y4 wr)) (fun t _ => zn - (intOf t).toNat)
                      case atStart => exact ⟨0, rfl, Nat.zero_le _, HSET⟩
                      case round =>
                        clear HSET d3 d4 hu hfz
                        obtain ⟨l, rfl, hl, HU⟩ := hrel
                        obtain ⟨⟨_, _, _, d3, d4⟩, _⟩ := box_res (HU.out.box HB10.out HBX8.out HFF.out (by decide) (by decide))
                        obtain ⟨g2, e2, hc⟩ := HU.out.head hlt
                        cases e2
                        rw [HZE.out] at hc
                        by_cases hl2 : l < zn
                        · obtain ⟨g3, e3, ⟨u3, hu3⟩, hfz3, hset3⟩ := HU.out.key HZM.out HZE.out HZN.out HFZ.out hl2 (.string ⟨#[33]⟩)
                          subst e3
                          have HSET : Hid (St F w10 _ kn _ n3 _ n4 Y4 (wr.setCell ⟨g3, l, none⟩ (.string ⟨#[33]⟩))) := hset3
                          clear hset3 HU
                          go_wp2
                          go_roundw
                          case rel => exact ⟨l + 1, by go_num, by omega, HSET⟩
                          case measure => simp [intOf]; omega
                        · go_wp2
                          go_roundw
                          case rel => exact ⟨j + 1, by go_num, by omega, HU⟩
                          case measure => simp [intOf]; omega
                    · have HST : Hid (St F w10 (.slice a6 kn c6) kn (.slice s3 n3 c3) n3 (.slice s4 n4 c4) n4 Y4 wr) := HT
                      clear HT
                      go_wp2_with fail
                      clear d3 d4 hlt hj
                      have hend := stay_end HP8.out HB9.out HW.out.2.2 HW.out.2.1 HST.out HFE.out
                      have HP11 : Hid (Lw w3 p p v5 Z5 wr) := hend.1
                      have HW11 : Hid (SRow w9.heap.size (.slice aw nw cw) Zw wr) := hend.2
                      have HWZ : Hid (Zw.map snapOf = Z5.map snapOf) := HW.out.1
                      clear hend HST HP8 HW HFE HFF HF1 HF2 HF3 HKY HN4 HBO8 HBX8 HB10 HB9
                      generalize wr = w11 at HP11 HW11 ⊢
                      refine (snaps_law HP11.out).mono ?_
                      rintro e w12 ⟨ax, nx, cx, Zx, rfl, hnx, hnx64, HX⟩
                      have HB12 : Hid (Below w11.heap.size w11 w12) := HX.out.2.2
                      have HSX : Hid (Sx w11.heap.size w12 (.slice ax nx cx) nx Zx w12) := by rw [hnx]; have := HX.out.2.1; rw [hnx] at this; exact this.sx
                      have HXR : Hid (SRow w11.heap.size (.slice ax nx cx) Zx w12) := HX.out.2.1
                      have HNX : Hid (nx = Zx.length) := hnx
                      clear HX hnx
                      go_wp2
                      go_loopw [20, 21] (fun t _ wr => ∃ j : Nat, t = .int .i64 (j : Int) ∧ j ≤ nx ∧ Hid (Sx w11.heap.size w12 (.slice ax nx cx) nx Zx wr)) (fun t _ _ => nx - (intOf t).toNat)
                      case atStart => exact ⟨0, rfl, Nat.zero_le _, HSX⟩
                      case round =>
                        clear HSX
                        obtain ⟨j, rfl, hj, HT⟩ := hrel
                        by_cases hlt : j < nx
                        · obtain ⟨az, zn, cz, hze, hzn, lzn⟩ := szAt_len HXR.out (j := j) (by rw [← HNX.out]; exact hlt)
                          have HZM : Hid (szAt Zx j ∈ Zx) := sz_mem (by rw [← HNX.out]; exact hlt)
                          have HZE : Hid ((szAt Zx j).2.2.2.1 = .slice az zn cz) := hze
                          have HZN : Hid (zn = (szAt Zx j).2.2.2.2.length) := hzn
                          have lzn' : zn ≤ 9223372036854775807 := lzn
                          obtain ⟨g, rfl, ⟨u, hu⟩, hfz, hset⟩ := HT.out.name hlt (.string ⟨#[33]⟩)
                          have HSET : Hid (Sx w11.heap.size w12 _ nx Zx (wr.setCell ⟨g, j * 4 + 1, none⟩ (.string ⟨#[33]⟩))) := hset
                          have hix := index_snap0 g nx cx j hlt
                          clear hset HT hze hzn lzn
                          go_wp2
                          go_loopw [21] (fun t wr => ∃ l : Nat, t = .int .i64 (l : Int) ∧ l ≤ zn ∧ Hid (Sx w11.heap.size w12 _ nx Zx wr)) (fun t _ => zn - (intOf t).toNat)
                          case atStart => exact ⟨0, rfl, Nat.zero_le _, HSET⟩
                          case round =>
                            clear HSET hu hfz
                            obtain ⟨l, rfl, hl, HU⟩ := hrel
                            obtain ⟨g2, e2, hc⟩ := HU.out.head hlt
                            cases e2
                            rw [HZE.out] at hc
                            by_cases hl2 : l < zn
                            · obtain ⟨g3, e3, ⟨u3, hu3⟩, hfz3, hset3⟩ := HU.out.path HZM.out HZE.out HZN.out hl2 (.string ⟨#[33]⟩)
                              subst e3
                              have HSET : Hid (Sx w11.heap.size w12 _ nx Zx (wr.setCell ⟨g3, l * 3, none⟩ (.string ⟨#[33]⟩))) := hset3
                              have hix3 := index_ent0 g3 zn cz l hl2
                              clear hset3 HU
                              go_wp2
                              go_roundw
                              case rel => exact ⟨l + 1, by go_num, by omega, HSET⟩
                              case measure => simp [intOf]; omega
                            · go_wp2
                              go_roundw
                              case rel => exact ⟨j + 1, by go_num, by omega, HU⟩
                              case measure => simp [intOf]; omega
                        · have hend := sx_end HP11.out HW11.out HB12.out HT.out rfl
                          have HP13 : Hid (Lw w3 p p v5 Z5 wr) := hend.1
                          have HW13 : Hid (SRow w9.heap.size (.slice aw nw cw) Zw wr) := hend.2
                          clear hend HT HP11 HW11 HB12 HXR HNX
                          go_wp2_with fail
                          generalize wr = w13 at HP13 HW13 ⊢
                          refine (snaps_law HP13.out).mono ?_
                          rintro e w14 ⟨a4, n4', c4', Z4, rfl, hn4', hn64', H4⟩
                          have h4n : n4' = nw := by
                            have h1 := congrArg List.length (H4.out.1.trans HWZ.out.symm)
                            simp only [List.length_map] at h1
                            rw [hn4', h1, HNW.out]
                          subst h4n
                          have HSM : Hid (Calls _ _ _ _ _) := same_law H4.out.2.1 (HW13.out.below H4.out.2.2) H4.out.1 HWZ.out HP13.out.inv (by rw [hn4', ← H4.out.1]; simp)
                          have HP14 : Hid (Lw w3 p p v5 Z5 w14) := HP13.out.below H4.out.2.2
                          clear H4 HW13 HP13 hn4'
                          go_wp2_with fail
                          refine HSM.out.mono ?_
                          rintro e w15 ⟨rfl, hb15⟩
                          have HP15 : Hid (Lw w3 p p v5 Z5 w15) := HP14.out.below hb15
                          clear hb15 HSM HP14
                          go_wp2
                          go_roundw
                          case rel => exact ⟨i + 1, v5, Z5, rfl, by go_num, by omega, HP15⟩
                          case measure => simp [intOf]; omega
      · have HSM : Hid (Calls _ _ _ _ _) := sameS_yes ao a n co cap S wr HN.out (HOWN.out.below HP.out.bel (Nat.le_refl _)) (HLA.out.below HP.out.bel (Nat.le_refl _)) (by omega) (given_few HG.out)
        have HBR : Hid (Below w.heap.size w wr) := HB3.out.trans (HP.out.bel.mono HB3.out.size)
        clear HP
        by_cases hin : i < sn
        · have hi80 : ¬ i < 80 := fun h => hlt ⟨hin, h⟩
          go_wp2_with fail
          refine HSM.out.mono ?_
          rintro e w5 ⟨rfl, hb5⟩
          have HB5 : Hid (Below w.heap.size w w5) := HBR.out.trans (hb5.mono HBR.out.size)
          clear hb5 HSM
          go_wp2
          go_ret
          exact ⟨rfl, HB5.out⟩
        · go_wp2_with fail
          refine HSM.out.mono ?_
          rintro e w5 ⟨rfl, hb5⟩
          have HB5 : Hid (Below w.heap.size w w5) := HBR.out.trans (hb5.mono HBR.out.size)
          clear hb5 HSM
          go_wp2
          go_ret
          exact ⟨rfl, HB5.out⟩

  · have HSM : Hid (Calls _ _ _ _ _) := sameS_yes ao a n co cap S w4 HN.out (HOWN.out.below hb0 (Nat.le_refl _)) (HL.out.below (HB3.out.trans (hb0.mono HB3.out.size)) (Nat.le_refl _)) (by omega) (given_few HG.out)
    have HB4 : Hid (Below w.heap.size w w4) := HB3.out.trans (hb0.mono HB3.out.size)
    clear hb0
    go_wp2_with fail
    refine HSM.out.mono ?_
    rintro e w5 ⟨rfl, hb5⟩
    have HB5 : Hid (Below w.heap.size w w5) := HB4.out.trans (hb5.mono HB4.out.size)
    clear hb5 HSM
    go_wp2
    go_ret
    exact ⟨rfl, HB5.out⟩
theorem catalogStays_walk (a : Option Addr) (n cap : Nat) (sa : Option Addr) (sn scap : Nat) (w : World) (f0 : ∃ S : List Snap, n = S.length ∧ LiesN w a S ∧ n ≤ 9223372036854775807 ∧ ∀ s ∈ S, s.2.1.size ≤ maxLen) (f1 : ∃ L : List Rq, sn = L.length ∧ DeedsIn w sa L ∧ sn ≤ 9223372036854775807) :
    Calls Try.prog 6 #[.slice a n cap, .slice sa sn scap] w fun e w' => e = .returned (.bool true) ∧ Below w.heap.size w w' := by
  obtain ⟨S, hn, hl, hm, hs⟩ := f0
  obtain ⟨L, hn2, hl2, hm2⟩ := f1
  exact catalogStays_main a n cap S sa sn scap L w hn hl hm hs hn2 hl2 hm2
end Go.Proofs.Ytejhnobhpjlkaaa.Cat
