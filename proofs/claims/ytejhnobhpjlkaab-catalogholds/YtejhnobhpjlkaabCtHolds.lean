/-
  The walk of CatalogHolds.
-/
import Derived.Test.YtejhnobhpjlkaabCtLw2
import Derived.Test.YtejhnobhpjlkaabCtFew
import Derived.Test.YtejhnobhpjlkaabCtHas
import Derived.Test.YtejhnobhpjlkaabCtUp
import Derived.Deep.QuietTactic
namespace Go.Proofs.Ytejhnobhpjlkaab.Cat
open Go.RowKit Route Tree Order

theorem full_held (S : List Snap) : full S ⟨0, 1, 9, 0, ⟨#[]⟩, ⟨#[]⟩, []⟩ = (⟨0, 0, [], heldOf S, []⟩, S) := full_nine (by decide) rfl

/-- All chunks of some entries. -/
def eKeys (E : List Ent) : List ByteArray := E.flatMap (·.2.2)

theorem chunks_take {S : List Snap} {i : Nat} (h : i < S.length) : (chunksOf (S.take (i + 1))).length = (chunksOf (S.take i)).length + (eKeys (snapAt S i).2.2.2).length := by
  show ((S.take (i + 1)).flatMap _).length = _
  rw [List.take_succ_eq_append_getElem h, List.flatMap_append, List.length_append, List.flatMap_cons, List.flatMap_nil, List.append_nil, snapAt_get h]
  rfl
theorem keys_take {E : List Ent} {k : Nat} (h : k < E.length) : (eKeys (E.take (k + 1))).length = (eKeys (E.take k)).length + (entOf E k).2.2.length := by
  show ((E.take (k + 1)).flatMap _).length = _
  rw [List.take_succ_eq_append_getElem h, List.flatMap_append, List.length_append, List.flatMap_cons, List.flatMap_nil, List.append_nil, ent_get h]
  rfl
theorem chunks_le {S : List Snap} (h : Inv S) (i : Nat) : (chunksOf (S.take i)).length ≤ 32768 := chunks_few (h.sub (List.take_sublist i S))
theorem keys_le2 {S : List Snap} (h : Inv S) {s : Snap} (hs : s ∈ S) (k : Nat) : (eKeys (s.2.2.2.take k)).length ≤ 1024 := by
  have h1 := flat_len (fun e : Ent => e.2.2) 16 (s.2.2.2.take k) fun e he => (h.ents s hs e (List.mem_of_mem_take he)).2.1
  have h3 := (treeL_iff.1 (h.tree s hs)).1
  have h4 : (s.2.2.2.take k).length ≤ s.2.2.2.length := List.length_take_le' _ _
  have h5 := Nat.mul_le_mul_right 16 (Nat.le_trans h4 h3)
  unfold eKeys
  omega

set_option maxHeartbeats 8000000 in
set_option maxRecDepth 100000 in
theorem catalogHolds_main (a : Option Addr) (n cap : Nat) (client : Int) (nm : ByteArray) (L : List Rq) (w : World) (hn : n = L.length) (hl : DeedsIn w a L) (hm : n ≤ 9223372036854775807) (hnm : nm.size ≤ maxLen) :
    Calls Try.prog 4 #[.slice a n cap, .int .i64 client, .string nm] w fun e w' => e = .returned (.bool true) ∧ Below w.heap.size w w' := by
  have HN : Hid (n = L.length) := hn
  have HL : Hid (DeedsIn w a L) := hl
  have HU : Hid (Calls _ _ _ _ _) := up_any w
  obtain ⟨y, hy⟩ : ∃ y, y = nm.size := ⟨_, rfl⟩
  have HY : Hid (y = nm.size) := hy
  have hlen := Order.len_text nm y hy
  have hym : y ≤ 9223372036854775807 := by rw [hy]; exact hnm
  clear hn hl hy hnm
  go_enter Try.func4, Try.ntmps4
  go_wp2_with fail
  refine HU.out.mono ?_
  rintro e w1 ⟨rfl, hb1⟩
  have HS : Hid (Calls _ _ _ _ _) := shortD_any a n cap L w1 HN.out (HL.out.below hb1) hm
  have HB1 : Hid (Below w.heap.size w w1) := hb1
  clear HU hb1
  go_wp2_with fail
  refine HS.out.mono ?_
  rintro e w2 ⟨b, rfl, H2⟩
  have HB2 : Hid (Below w.heap.size w w2) := HB1.out.trans (H2.out.2.mono HB1.out.size)
  clear HS
  go_wp2_with fail
  refine (new_any w2).mono ?_
  rintro e w3 ⟨rfl, hw3⟩
  have HA : Hid (Lw w w2.heap.size w2.heap.size (.slice none 0 0) [] w3) := by
    rw [hw3]
    exact ⟨cat_new (Nat.le_refl _), Inv.nil, HB2.out.alloc HB2.out.size _, HB2.out.size, by simp⟩
  cases b
  · clear hw3
    go_wp2
    go_ret
    exact ⟨by rfl, HA.out.bel⟩
  have HSH : Hid (∀ j, j < n → j < 80 → ShortR (rqAt L j)) := H2.out.1 rfl
  generalize w2.heap.size = p at *
  clear hw3 H2 HB2 HB1
  by_cases hy2 : 2000 < y
  · go_wp2
    go_ret
    exact ⟨by rfl, HA.out.bel⟩
  have HNM : Hid (nm.size ≤ 100000) := by show _ ≤ _; rw [← HY.out]; omega
  go_wp2
  clear hlen
  go_loopw [10] (fun t10 wr => ∃ (i : Nat) (v : Value) (Z : List SZ), t10 = .int .i64 (i : Int) ∧ i ≤ n ∧ Hid (Lw w p p v Z wr)) (fun t10 _ => n - (intOf t10).toNat)
  case atStart => exact ⟨0, _, _, rfl, Nat.zero_le _, HA⟩
  case round =>
    obtain ⟨i, v, Z, rfl, hi, HP⟩ := hrel
    clear HA
    by_cases hlt : i < n ∧ i < 80
    · obtain ⟨hin, hi80⟩ := hlt
      obtain ⟨x, hx, hdd⟩ := HL.out.at (j := i) (by rw [← HN.out]; exact hin)
      subst hx
      have hsr := HSH.out i hin hi80
      have hix := index_deed x n cap i hin
      generalize rqAt L i = r at hdd hsr
      generalize x.add (i * 6) = q at hdd hix
      obtain ⟨c, t, k, m, nm, pt, ks⟩ := r
      obtain ⟨ka, kn, kc, ⟨g0, g1, g2, g3, g4, g5⟩, hqb, HD⟩ := deed_call HP.out hdd hsr
      clear hdd hsr
      go_wp2_with fail
      go_region_held (fun W => W.cell? q = some (.int .i64 c) ∧ W.cell? ⟨q.block, q.off + 1, none⟩ = some (.int .i64 k) ∧ W.cell? ⟨q.block, q.off + 1 + 1, none⟩ = some (.string nm) ∧ W.cell? ⟨q.block, q.off + 1 + 2, none⟩ = some (.string pt) ∧ W.cell? ⟨q.block, q.off + 1 + 3, none⟩ = some (.slice ka kn kc) ∧ W.cell? ⟨q.block, q.off + 1 + 4, none⟩ = some (.int .i64 m))
        (first | with_reducible assumption | simp [g0, g1, g2, g3, g4, g5])
        (first | (go_at_call 8; refine (HD.out _ (by exact (Below.refl _ _).drew)).mono ?_; rintro e w5 ⟨⟨ya, yb, s2, n2, c2, s3, n3, c3, s4, n4, c4⟩, v5, Z5, rfl, hc5, hq5, hx5, HD5⟩))
      all_goals
        have HP5 : Hid (Lw w p p v5 Z5 w5) := HP.out.did HD5.out
        clear hc5 hq5 hx5 HD5 HD HP hqb g0 g1 g2 g3 g4 g5 hix
        go_wp2
        go_roundw
        case rel => exact ⟨i + 1, v5, Z5, by go_num, by omega, HP5⟩
        case measure => simp [intOf]; omega
    · have hout : n ≤ i ∨ (i < n ∧ 80 ≤ i) := by omega
      obtain ⟨S, hS⟩ : ∃ S, Z.map snapOf = S := ⟨_, rfl⟩
      have HI : Hid (Inv S) := by have := HP.out.inv; rw [hS] at this; exact this
      have HSZ : Hid (Z.map snapOf = S) := hS
      have HD : Hid (Calls _ _ _ _ _) := own_call2 HP.out (c := 0) (k := 9) (m := 0) (nm := ⟨#[]⟩) (pt := ⟨#[]⟩) (by decide) (by decide) (keys_none wr)
      clear hlt hS
      rcases hout with ho | ⟨ho, ho2⟩
      all_goals
        go_wp2_with fail
        refine HD.out.mono ?_
        rintro e w5 ⟨⟨ya, yb, s2, n2, c2, s3, n3, c3, s4, n4, c4⟩, v5, Z5, rfl, HD5⟩
        have H6 : Hid (Did p p v Z ⟨0, 1, 9, 0, ⟨#[]⟩, ⟨#[]⟩, []⟩ wr ⟨ya, yb, s2, n2, c2, s3, n3, c3, s4, n4, c4⟩ v5 Z5 (w5.alloc (.cells #[.int .i64 ya, .int .i64 yb, .slice s2 n2 c2, .slice s3 n3 c3, .slice s4 n4 c4] 30)) ∧ ABox (w5.alloc (.cells #[.int .i64 ya, .int .i64 yb, .slice s2 n2 c2, .slice s3 n3 c3, .slice s4 n4 c4] 30)) w5.heap.size ⟨ya, yb, s2, n2, c2, s3, n3, c3, s4, n4, c4⟩) := HD5.out.lay
        have HQ6 : Hid (Lw w p p v5 Z5 (w5.alloc (.cells #[.int .i64 ya, .int .i64 yb, .slice s2 n2 c2, .slice s3 n3 c3, .slice s4 n4 c4] 30))) := HP.out.did H6.out.1
        have HS6 : Hid (Z5.map snapOf = S) := by
          have e := H6.out.1.snaps
          rw [HSZ.out, full_held] at e
          exact e
        have HB6 : Hid (ABox (w5.alloc (.cells #[.int .i64 ya, .int .i64 yb, .slice s2 n2 c2, .slice s3 n3 c3, .slice s4 n4 c4] 30)) w5.heap.size ⟨ya, yb, s2, n2, c2, s3, n3, c3, s4, n4, c4⟩) := H6.out.2
        have HK6 : Hid ((w5.alloc (.cells #[.int .i64 ya, .int .i64 yb, .slice s2 n2 c2, .slice s3 n3 c3, .slice s4 n4 c4] 30)).ownsRow wr.heap.size 9 1 (.slice s3 n3 c3) (heldOf S).length (sv (heldOf S))) := by
          have e := H6.out.1.ans.parts.2.2.2.2.2.2.1
          rw [HSZ.out, full_held] at e
          exact e
        have HD7 : Hid (Calls _ _ _ _ _) := own_call2 HQ6.out (c := client) (k := 7) (m := 0) (nm := nm) (pt := ⟨#[]⟩) HNM.out (by decide) (keys_none _)
        clear H6 HD5 HD HP HSZ ho
        go_wp2_with fail
        refine HD7.out.mono ?_
        rintro e w7 ⟨⟨za, zb, t2, m2, d2, t3, m3, d3, t4, m4, d4⟩, v7, Z7, rfl, HD8⟩
        have H8 : Hid (Did p p v5 Z5 ⟨client, 1, 7, 0, nm, ⟨#[]⟩, []⟩ (w5.alloc (.cells #[.int .i64 ya, .int .i64 yb, .slice s2 n2 c2, .slice s3 n3 c3, .slice s4 n4 c4] 30)) ⟨za, zb, t2, m2, d2, t3, m3, d3, t4, m4, d4⟩ v7 Z7 (w7.alloc (.cells #[.int .i64 za, .int .i64 zb, .slice t2 m2 d2, .slice t3 m3 d3, .slice t4 m4 d4] 30)) ∧ ABox (w7.alloc (.cells #[.int .i64 za, .int .i64 zb, .slice t2 m2 d2, .slice t3 m3 d3, .slice t4 m4 d4] 30)) w7.heap.size ⟨za, zb, t2, m2, d2, t3, m3, d3, t4, m4, d4⟩) := HD8.out.lay
        have HQ8 : Hid (Lw w p p v7 Z7 (w7.alloc (.cells #[.int .i64 za, .int .i64 zb, .slice t2 m2 d2, .slice t3 m3 d3, .slice t4 m4 d4] 30))) := HQ6.out.did H8.out.1
        have HB8 : Hid (ABox (w7.alloc (.cells #[.int .i64 za, .int .i64 zb, .slice t2 m2 d2, .slice t3 m3 d3, .slice t4 m4 d4] 30)) w5.heap.size ⟨ya, yb, s2, n2, c2, s3, n3, c3, s4, n4, c4⟩) := Next.cellAt HQ6.out.cat H8.out.1.next HB6.out (by decide) (by decide) (by decide)
        have HK8 : Hid (n3 = (heldOf S).length ∧ Route.Lies (w7.alloc (.cells #[.int .i64 za, .int .i64 zb, .slice t2 m2 d2, .slice t3 m3 d3, .slice t4 m4 d4] 30)) s3 (heldOf S)) := texts_read (H8.out.1.next.keep HQ6.out.cat HK6.out (by decide) (by decide) (by decide))
        have HS8 : Hid (Z7.map snapOf = S) := by
          have e := H8.out.1.snaps
          rw [HS6.out, full_same _ _ (.inl rfl)] at e
          exact e
        have HE8 : Hid (∃ E : List Ent, m4 = E.length ∧ LiesE (w7.alloc (.cells #[.int .i64 za, .int .i64 zb, .slice t2 m2 d2, .slice t3 m3 d3, .slice t4 m4 d4] 30)) t4 E ∧ (∀ e ∈ E, ∀ x ∈ e.2.2, x ∈ heldOf S) ∧ E.length ≤ 1000 ∧ ∀ e ∈ E, e.2.2.length ≤ 1000) := by
          obtain ⟨_, _, _, _, _, _, _, Y4, hY4, hE4⟩ := H8.out.1.ans.parts
          obtain ⟨l4, i4⟩ := ents_read hY4 hE4
          have hf := full_few (S := Z5.map snapOf) (by rw [HS6.out]; exact HI.out) ⟨client, 1, 7, 0, nm, ⟨#[]⟩, []⟩
          refine ⟨_, l4, i4, fun e he x hx => ?_, hf.ents, hf.each⟩
          rcases plan_of (Z5.map snapOf) ⟨client, 1, 7, 0, nm, ⟨#[]⟩, []⟩ rfl with h0 | ⟨s, hs, h0⟩
          · rw [h0] at he; cases he
          · rw [h0] at he
            rw [HS6.out] at hs
            exact held_has hs he hx
        obtain ⟨E, hE⟩ := HE8.out
        have HE : Hid (m4 = E.length ∧ LiesE (w7.alloc (.cells #[.int .i64 za, .int .i64 zb, .slice t2 m2 d2, .slice t3 m3 d3, .slice t4 m4 d4] 30)) t4 E ∧ (∀ e ∈ E, ∀ x ∈ e.2.2, x ∈ heldOf S) ∧ E.length ≤ 1000 ∧ ∀ e ∈ E, e.2.2.length ≤ 1000) := hE
        clear HE8 hE
        have HB9 : Hid (ABox (w7.alloc (.cells #[.int .i64 za, .int .i64 zb, .slice t2 m2 d2, .slice t3 m3 d3, .slice t4 m4 d4] 30)) w7.heap.size ⟨za, zb, t2, m2, d2, t3, m3, d3, t4, m4, d4⟩) := H8.out.2
        clear H8 HD8 HD7 HQ6 HS6 HB6 HK6
        have hm4 : m4 ≤ 1000 := by rw [HE.out.1]; exact HE.out.2.2.2.1
        go_wp2
        generalize (w7.alloc (.cells #[.int .i64 za, .int .i64 zb, .slice t2 m2 d2, .slice t3 m3 d3, .slice t4 m4 d4] 30)) = w8 at HQ8 HB8 HB9 HK8 HE ⊢
        generalize w5.heap.size = bh at HB8 ⊢
        generalize w7.heap.size = bp at HB9 ⊢
        go_loopw [6, 13, 14] (fun t6 t13 _ wr => ∃ j : Nat, t6 = .bool false ∧ t13 = .int .i64 (j : Int) ∧ j ≤ m4 ∧ Hid (Below w8.heap.size w8 wr)) (fun _ t13 _ _ => m4 - (intOf t13).toNat)
        case atStart => exact ⟨0, rfl, rfl, Nat.zero_le _, Below.refl _ _⟩
        case round =>
          obtain ⟨j, rfl, rfl, hj, HBW⟩ := hrel
          obtain ⟨_, _, _, a3, _⟩ := (HB8.out.below HBW.out).cells
          obtain ⟨_, _, _, _, b4⟩ := (HB9.out.below HBW.out).cells
          simp only at a3 b4
          by_cases hjm : j < m4
          · obtain ⟨x, hx, _, _, ka, kc, g2, hk⟩ := HE.out.2.1.at (j := j) (by rw [← HE.out.1]; exact hjm)
            subst hx
            have hem : entOf E j ∈ E := by simp [entOf, List.getD_eq_getElem?_getD, show j < E.length by rw [← HE.out.1]; exact hjm]
            have HM : Hid (∀ x ∈ (entOf E j).2.2, x ∈ heldOf S) := HE.out.2.2.1 _ hem
            have hknm := HE.out.2.2.2.2 _ hem
            have hix := index_ent x m4 d4 j hjm
            clear hem
            generalize entOf E j = en at g2 hk HM hknm
            obtain ⟨ep, esz, ks⟩ := en
            simp only at g2 hk HM hknm
            have HKL : Hid (Route.Lies w8 ka ks) := hk.1
            obtain ⟨kn, hkn⟩ : ∃ kn, kn = ks.length := ⟨_, rfl⟩
            have HKN : Hid (kn = ks.length) := hkn
            rw [← hkn] at g2 hknm
            generalize x.add (j * 3) = q at g2 hix
            have HG2 : Hid (w8.cell? ⟨q.block, q.off + 2, none⟩ = some (.slice ka kn kc)) := g2
            clear hkn hk g2
            go_wp2
            clear a3 b4
            go_loopw [6, 14] (fun t6 t14 wr => ∃ k : Nat, t6 = .bool false ∧ t14 = .int .i64 (k : Int) ∧ k ≤ kn ∧ Hid (Below w8.heap.size w8 wr)) (fun _ t14 _ => kn - (intOf t14).toNat)
            case atStart => exact ⟨0, rfl, rfl, Nat.zero_le _, HBW⟩
            case round =>
              clear HBW
              obtain ⟨k, rfl, rfl, hk, HBW⟩ := hrel
              obtain ⟨_, _, _, a3, _⟩ := (HB8.out.below HBW.out).cells
              obtain ⟨_, _, _, _, b4⟩ := (HB9.out.below HBW.out).cells
              simp only at a3 b4
              have g2 := cell_kept HBW.out HG2.out
              by_cases hkk : k < kn
              · obtain ⟨yk, hyk, hc⟩ := (HKL.out.below HBW.out (Nat.le_refl _)).cellAt (j := k) (by rw [← HKN.out]; exact hkk)
                subst hyk
                have hmem : ks.getD k ByteArray.empty ∈ heldOf S := HM.out _ (by simp [List.getD_eq_getElem?_getD, show k < ks.length by rw [← HKN.out]; exact hkk])
                generalize ks.getD k ByteArray.empty = s at hc hmem
                have hh : ∀ nq, Calls Try.prog 13 #[.slice s3 n3 c3, .string s] (wr.drewN nq) fun e w' => e = .returned (.bool true) ∧ w' = wr.drewN nq := fun nq => by
                  have e := has_any s3 n3 c3 (heldOf S) s (wr.drewN nq) HK8.out.1 ((HK8.out.2.below HBW.out (Nat.le_refl _)).below (below_draws wr nq) (Nat.le_refl _)) (by rw [HK8.out.1]; have := held_len S; have := chunks_few HI.out; omega)
                  rw [inB_iff.2 hmem] at e
                  exact e
                clear hmem
                go_wp2_with fail
                go_quiet ((go_at_call 13; exact Calls.quiet_of_same (hh _)))
                have HBQ : Hid (Below w8.heap.size w8 (wr.drewN nq)) := HBW.out.trans ((below_draws wr nq).mono HBW.out.size)
                clear hh a3 b4 g2 hc
                go_wp2
                go_roundw
                case rel => exact ⟨k + 1, rfl, by go_num, by omega, HBQ⟩
                case measure => simp [intOf]; omega
              · go_wp2
                go_roundw
                case rel => exact ⟨j + 1, rfl, by go_num, by omega, HBW⟩
                case measure => simp [intOf]; omega
          · have HQ9 : Hid (Lw w p p v7 Z7 wr) := HQ8.out.below HBW.out
            have HSN : Hid (Calls _ _ _ _ _) := snaps_law HQ9.out
            have HBH : Hid (ABox wr bh _) := HB8.out.below HBW.out
            go_wp2_with fail
            refine HSN.out.mono ?_
            rintro e w10 ⟨a0, n0, c0, Z0, rfl, hn0, hn64, H10⟩
            have HB10 : Hid (ABox w10 bh _) := HBH.out.below H10.out.2.2
            have HL10 : Hid (n0 = S.length ∧ LiesN w10 a0 S) := by
              obtain ⟨a1, c1, e1, l1⟩ := H10.out.2.1.sees
              simp only [Value.slice.injEq] at e1
              obtain ⟨rfl, _, rfl⟩ := e1
              have e2 := H10.out.1.trans HS8.out
              rw [e2] at l1
              exact ⟨by rw [hn0, ← e2]; simp, l1⟩
            have HBEL : Hid (Below w.heap.size w w10) := HQ9.out.bel.trans (H10.out.2.2.mono HQ9.out.bel.size)
            clear hn0 H10 HSN HQ9 HQ8 HB8 HB9 HE HBH HBW a3 b4
            go_wp2
            go_loopw [15, 17, 18] (fun t15 t17 _ wr => ∃ (i N : Nat), t15 = .int .i64 (N : Int) ∧ t17 = .int .i64 (i : Int) ∧ i ≤ n0 ∧ N ≤ 32768 ∧ Hid (N = (chunksOf (S.take i)).length) ∧ Hid (Below w10.heap.size w10 wr)) (fun _ t17 _ _ => n0 - (intOf t17).toNat)
            case atStart => exact ⟨0, 0, rfl, rfl, Nat.zero_le _, Nat.zero_le _, rfl, Below.refl _ _⟩
            case round =>
              obtain ⟨i, N, rfl, rfl, hi2, hN, HNN, HBW⟩ := hrel
              by_cases hin : i < n0
              · have hiS : i < S.length := by rw [← HL10.out.1]; exact hin
                obtain ⟨x, hx, _, _, _, ea, ec, g3, _, _, hle⟩ := HL10.out.2.at (j := i) hiS
                subst hx
                have HEN : Hid ((chunksOf (S.take (i + 1))).length = (chunksOf (S.take i)).length + (eKeys (snapAt S i).2.2.2).length ∧ (chunksOf (S.take (i + 1))).length ≤ 32768 ∧ (∀ k, (eKeys ((snapAt S i).2.2.2.take k)).length ≤ 1024) ∧ (snapAt S i).2.2.2.length ≤ 32 ∧ ∀ e ∈ (snapAt S i).2.2.2, e.2.2.length ≤ 16) :=
                  ⟨chunks_take hiS, chunks_le HI.out _, fun k => keys_le2 HI.out (snapAt_mem hiS) k, (treeL_iff.1 (HI.out.tree _ (snapAt_mem hiS))).1, fun e he => (HI.out.ents _ (snapAt_mem hiS) e he).2.1⟩
                have hix := index_snap x n0 c0 i hin
                clear hiS
                generalize snapAt S i = sn at g3 hle HEN
                obtain ⟨sc, snm, sd, es⟩ := sn
                simp only at g3 hle HEN
                have HLE : Hid (LiesE w10 ea es) := hle
                obtain ⟨en, hen⟩ : ∃ en, en = es.length := ⟨_, rfl⟩
                have HENL : Hid (en = es.length) := hen
                have hen32 : en ≤ 32 := by rw [hen]; exact HEN.out.2.2.2.1
                rw [← hen] at g3
                generalize x.add (i * 4) = q at g3 hix
                have HG3 : Hid (w10.cell? ⟨q.block, q.off + 3, none⟩ = some (.slice ea en ec)) := g3
                clear hen hle g3
                go_wp2
                go_loopw [15, 18] (fun t15 t18 wr => ∃ (k M : Nat), t15 = .int .i64 (M : Int) ∧ t18 = .int .i64 (k : Int) ∧ k ≤ en ∧ M ≤ 40000 ∧ Hid (M = N + (eKeys (es.take k)).length) ∧ Hid (Below w10.heap.size w10 wr)) (fun _ t18 _ => en - (intOf t18).toNat)
                case atStart => exact ⟨0, N, rfl, rfl, Nat.zero_le _, by omega, (by simp [eKeys] : N = N + (eKeys (es.take 0)).length), HBW⟩
                case round =>
                  clear HBW
                  obtain ⟨k, M, rfl, rfl, hk, hM, HMM, HBW⟩ := hrel
                  have g3 := cell_kept HBW.out HG3.out
                  by_cases hkk : k < en
                  · have hkE : k < es.length := by rw [← HENL.out]; exact hkk
                    obtain ⟨y2, hy2, _, _, ka, kc, k2, _⟩ := (HLE.out.below HBW.out (Nat.le_refl _)).at (j := k) hkE
                    subst hy2
                    have HKT : Hid (N + (eKeys (es.take (k + 1))).length = M + (entOf es k).2.2.length ∧ (entOf es k).2.2.length ≤ 16 ∧ N + (eKeys (es.take (k + 1))).length ≤ 40000) := by
                      have e1 := keys_take hkE
                      have e2 := HMM.out
                      have e3 := HEN.out.2.2.1 (k + 1)
                      have e4 := HEN.out.2.2.2.2 (entOf es k) (by simp [entOf, List.getD_eq_getElem?_getD, hkE])
                      exact ⟨by omega, e4, by omega⟩
                    have hix2 := index_ent y2 en ec k hkk
                    clear hkE
                    generalize entOf es k = e0 at k2 HKT
                    obtain ⟨_, _, ks⟩ := e0
                    simp only at k2 HKT
                    obtain ⟨kn, hkn⟩ : ∃ kn, kn = ks.length := ⟨_, rfl⟩
                    rw [← hkn] at k2 HKT
                    have hkn16 : kn ≤ 16 := HKT.out.2.1
                    generalize y2.add (k * 3) = q2 at k2 hix2
                    clear hkn
                    go_wp2
                    go_roundw
                    case rel => exact ⟨k + 1, M + kn, by go_num, by go_num, by omega, (by have := HKT.out; omega), HKT.out.1.symm, HBW⟩
                    case measure => simp [intOf]; omega
                  · have hkt : es.take k = es := List.take_of_length_le (by rw [← HENL.out]; omega)
                    have HR : Hid (M = (chunksOf (S.take (i + 1))).length ∧ M ≤ 32768) := by
                      have e1 := HMM.out
                      rw [hkt] at e1
                      have e2 := HEN.out.1
                      have e3 := HNN.out
                      have e4 := HEN.out.2.1
                      exact ⟨by omega, by omega⟩
                    clear hkt
                    go_wp2
                    go_roundw
                    case rel => exact ⟨i + 1, M, rfl, by go_num, by omega, HR.out.2, HR.out.1, HBW⟩
                    case measure => simp [intOf]; omega
              · have hle : n3 ≤ N := by
                  have e1 := HNN.out
                  rw [List.take_of_length_le (by rw [← HL10.out.1]; omega)] at e1
                  have e2 := held_len S
                  have e3 := HK8.out.1
                  omega
                obtain ⟨_, _, _, a3, _⟩ := (HB10.out.below HBW.out).cells
                simp only at a3
                have HFIN : Hid (Below w.heap.size w wr) := HBEL.out.trans (HBW.out.mono HBEL.out.size)
                go_wp2
                go_ret
                exact ⟨rfl, HFIN.out⟩

theorem catalogHolds_walk (a : Option Addr) (n cap : Nat) (client : Int) (nm : ByteArray) (w : World) (h : ∃ L : List Rq, n = L.length ∧ DeedsIn w a L ∧ n ≤ 9223372036854775807) {P : Prop} (_ : P) (h2 : nm.size ≤ maxLen) :
    Calls Try.prog 4 #[.slice a n cap, .int .i64 client, .string nm] w fun e w' => e = .returned (.bool true) ∧ Below w.heap.size w w' := by
  obtain ⟨L, l1, l2, l3⟩ := h
  exact catalogHolds_main a n cap client nm L w l1 l2 l3 h2
end Go.Proofs.Ytejhnobhpjlkaab.Cat
