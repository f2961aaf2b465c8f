/-
  The walk of ImageParts.
-/
import Derived.Test.YtlpgdfdadkljfaaGreatImParts3
import Derived.Test.YtlpgdfdadkljfaaGreatCtLw
import Derived.Test.YtlpgdfdadkljfaaGreatCtShort
namespace Go.Proofs.YtlpgdfdadkljfaaGreat.Img
open Go.RowKit Route Tree Order Cat

theorem parts_at (S : List Snap) {i : Nat} (hi : i < 8) : (partsL S).getD i ByteArray.empty = ⟨(encI (ownS i S)).toArray⟩ := by
  simp [partsL, List.getD_eq_getElem?_getD, hi]

set_option maxHeartbeats 16000000 in
set_option maxRecDepth 100000 in
theorem imageParts_main (a : Option Addr) (n cap : Nat) (L : List Rq) (w : World) (hn : n = L.length) (hl : DeedsIn w a L) (hm : n ≤ 9223372036854775807) :
    Calls Tryz.prog 5 #[.slice a n cap] w fun e w' => e = .returned (.bool true) ∧ Below w.heap.size w w' := by
  have HN : Hid (n = L.length) := hn
  have HL : Hid (DeedsIn w a L) := hl
  have HU : Hid (Calls _ _ _ _ _) := up_any w
  have q1 := eqNil0
  clear hn hl
  go_enter Tryz.func5, Tryz.ntmps5
  go_wp2_with fail
  refine HU.out.mono ?_
  rintro e w1 ⟨rfl, hb1⟩
  have HS : Hid (Calls _ _ _ _ _) := shortD_any a n cap L w1 HN.out (HL.out.below hb1) hm
  have HB1 : Hid (Below w.heap.size w w1) := hb1
  clear HU hb1
  go_wp2_with fail
  refine HS.out.mono ?_
  rintro e w2 ⟨b, rfl, H2⟩
  have HB2 : Hid (Below w.heap.size w w2) := HB1.out.trans (H2.out.2.mono HB1.out.size)
  clear HS HB1
  go_wp2_with fail
  refine (new_any w2).mono ?_
  rintro e w3 ⟨rfl, hw3⟩
  have HA : Hid (Lw w w2.heap.size w2.heap.size (.slice none 0 0) [] w3) := by
    rw [hw3]
    exact ⟨cat_new (Nat.le_refl _), Inv.nil, HB2.out.alloc HB2.out.size _, HB2.out.size, by simp⟩
  clear hw3
  generalize w2.heap.size = p at *
  cases b with
  | false =>
    go_wp2
    go_ret
    exact ⟨by rfl, HA.out.bel⟩
  | true =>
    have HSH : Hid (∀ j, j < n → j < 80 → ShortR (rqAt L j)) := H2.out.1 rfl
    clear H2
    go_wp2
    go_loopw [6] (fun t6 wr => ∃ (i : Nat) (v : Value) (Z : List SZ), t6 = .int .i64 (i : Int) ∧ i ≤ n ∧ Hid (Lw w p p v Z wr)) (fun t6 _ => n - (intOf t6).toNat)
    case atStart => exact ⟨0, _, _, rfl, Nat.zero_le _, HA⟩
    case round =>
      obtain ⟨i, v, Z, rfl, hi, HP⟩ := hrel
      clear HA
      by_cases hlt : i < n ∧ i < 80
      · obtain ⟨hin, hi80⟩ := hlt
        obtain ⟨x, hx, hdd⟩ := HL.out.at (j := i) (by rw [← HN.out]; exact hin)
        subst hx
        have hsr := HSH.out i hin hi80
        have hix := index_deed x n cap i hin
        generalize rqAt L i = r at hdd hsr
        generalize x.add (i * 6) = q at hdd hix
        obtain ⟨c, t, k, m, nm, pt, ks⟩ := r
        obtain ⟨ka, kn, kc, ⟨g0, g1, g2, g3, g4, g5⟩, hqb, HD⟩ := deed_call HP.out hdd hsr
        clear hdd hsr
        go_wp2_with fail
        go_region_held (fun W => W.cell? q = some (.int .i64 c) ∧ W.cell? ⟨q.block, q.off + 1, none⟩ = some (.int .i64 k) ∧ W.cell? ⟨q.block, q.off + 1 + 1, none⟩ = some (.string nm) ∧ W.cell? ⟨q.block, q.off + 1 + 2, none⟩ = some (.string pt) ∧ W.cell? ⟨q.block, q.off + 1 + 3, none⟩ = some (.slice ka kn kc) ∧ W.cell? ⟨q.block, q.off + 1 + 4, none⟩ = some (.int .i64 m))
          (first | with_reducible assumption | simp [g0, g1, g2, g3, g4, g5])
          (first | (go_at_call 9; refine (HD.out _ (by exact (Below.refl _ _).drew)).mono ?_; rintro e w5 ⟨⟨ya, yb, s2, n2, c2, s3, n3, c3, s4, n4, c4⟩, v5, Z5, rfl, hc5, hq5, hx5, HD5⟩))
        all_goals
          have HP5 : Hid (Lw w p p v5 Z5 w5) := HP.out.did HD5.out
          clear hc5 hq5 hx5 HD5 HD HP hqb g0 g1 g2 g3 g4 g5 hix
          go_wp2
          go_roundw
          case rel => exact ⟨i + 1, v5, Z5, by go_num, by omega, HP5⟩
          case measure => simp [intOf]; omega
      · have hout : n ≤ i ∨ (i < n ∧ 80 ≤ i) := by omega
        have HW : Hid (Calls _ _ _ _ _) := parts_any HP.out.cat HP.out.inv
        clear hlt HSH HL HN
        rcases hout with ho | ⟨ho, ho2⟩
        all_goals
          go_wp2_with fail
          refine HW.out.mono ?_
          rintro e w7 ⟨v7, rfl, hv7⟩
          have HP7 : Hid (Lw w p p v Z w7) := HP.out.below hv7.2.1
          obtain ⟨g7, c7, rfl, -, -, -, -, hcells⟩ := hv7.formN (n := 8) (parts_len _).symm (by omega)
          have HC7 : Hid (∀ k, k < 8 → w7.cell? ⟨g7, k, none⟩ = some (.string ⟨(encI (ownS k (Z.map snapOf))).toArray⟩)) := fun k hk => by
            rw [hcells k (by rw [parts_len]; exact hk), parts_at _ hk]
          clear hv7 HW HP hcells ho
          go_wp2
          go_loopw [9] (fun t9 wr => ∃ k : Nat, t9 = .int .i64 (k : Int) ∧ k ≤ 8 ∧ Hid (Lw w p p v Z wr ∧ Below w7.heap.size w7 wr)) (fun t9 _ => 8 - (intOf t9).toNat)
          case atStart => exact ⟨0, rfl, Nat.zero_le _, HP7.out, Below.refl _ _⟩
          case round =>
            rename World => W
            obtain ⟨k, rfl, hk, HQ⟩ := hrel
            clear HP7
            by_cases hk8 : k < 8
            · have hcell := cell_below HQ.out.2 (Nat.le_refl _) (HC7.out k hk8)
              have HIV : Hid (Inv (ownS k (Z.map snapOf))) := inv_own HQ.out.1.inv k
              have hne8 := encI_len (inv_len HIV.out) (Inv.nfit HIV.out)
              obtain ⟨cap7, W5, hconv, HV⟩ := text_bytes (encI (ownS k (Z.map snapOf))) (by omega) W
              obtain ⟨ne, hne⟩ : ∃ ne, ne = (encI (ownS k (Z.map snapOf))).length := ⟨_, rfl⟩
              have HNE : Hid (ne = (encI (ownS k (Z.map snapOf))).length) := hne
              have HG : Hid (Calls _ _ _ _ _) := get_any (some ⟨W.heap.size, 0, none⟩) ne cap7 (encI (ownS k (Z.map snapOf))) W5 hne HV.out.2.1 (by omega) (by rw [hne]; exact HV.out.2.2.1) HV.out.2.2.2.1 (.inr fun y hy => by cases hy; exact HV.out.2.2.2.2)
              have HP5 : Hid (Lw w p p v Z W5 ∧ Below w7.heap.size w7 W5) := ⟨HQ.out.1.below HV.out.1, HQ.out.2.trans (HV.out.1.mono HQ.out.2.size)⟩
              rw [← hne] at hconv
              clear hne hne8 HV HQ
              go_wp2_with fail
              refine HG.out.mono ?_
              rintro e w8 hg
              have HGG : Hid (Got _ _ _ _) := hg
              clear hg hconv hcell
              obtain ⟨p2, v2, Z2, rfl, H8⟩ : ∃ p2 v2 Z2, e = .returned (.tuple #[.pointer (some ⟨p2, 0, none⟩), .nilIface]) ∧ Hid (Z2.map snapOf = ownS k (Z.map snapOf) ∧ Cat p2 p2 v2 Z2 w8 ∧ W5.heap.size ≤ p2 ∧ Below W5.heap.size W5 w8) := by
                have hd := dec_inv HIV.out
                rcases HGG.out with ⟨_, p2, v2, Z2, h1, h2, h3, h4, h5⟩ | ⟨h, _⟩
                · rw [hd] at h2
                  exact ⟨p2, v2, Z2, h1, h2, h3, h4, h5⟩
                · rw [hd] at h
                  exact absurd ⟨rfl, Nat.le_refl _, inv_may HIV.out⟩ h
              have HP8 : Hid (Lw w p p v Z w8 ∧ Below w7.heap.size w7 w8) := ⟨HP5.out.1.below H8.out.2.2.2, HP5.out.2.trans (H8.out.2.2.2.mono HP5.out.2.size)⟩
              have HS1 : Hid (Calls _ _ _ _ _) := snaps_law (w0 := w) (B := p2) (p := p2) (v := v2) (Z := Z2) (w := w8) ⟨H8.out.2.1, by rw [H8.out.1]; exact HIV.out, HP8.out.1.bel, Nat.le_trans HP5.out.1.bel.size H8.out.2.2.1, Nat.le_of_lt (Array.getElem?_eq_some_iff.1 H8.out.2.1.box).1⟩
              clear HGG HG HP5 HNE
              go_wp2_with fail
              refine HS1.out.mono ?_
              rintro e w9 ⟨a0, n0, c0, Z0, rfl, hn0, _, H9⟩
              have HN0 : Hid (n0 = Z0.length) := hn0
              clear hn0
              have HP9 : Hid (Lw w p p v Z w9 ∧ Below w7.heap.size w7 w9) := ⟨HP8.out.1.below H9.out.2.2, HP8.out.2.trans (H9.out.2.2.mono HP8.out.2.size)⟩
              have HS2 : Hid (Calls _ _ _ _ _) := snaps_law HP9.out.1
              clear HS1 HP8
              go_wp2_with fail
              refine HS2.out.mono ?_
              rintro e w10 ⟨a10, n10, c10, Z10, rfl, hn10, hn64, H10⟩
              have HO : Hid (Calls _ _ _ _ _) := own_ref k H10.out.2.1 hn10 H10.out.2.2.size (by omega)
              have HP10 : Hid (Lw w p p v Z w10 ∧ Below w7.heap.size w7 w10) := ⟨HP9.out.1.below H10.out.2.2, HP9.out.2.trans (H10.out.2.2.mono HP9.out.2.size)⟩
              clear hn10 HS2 HP9
              go_wp2_with fail
              refine HO.out.mono ?_
              rintro e w11 ⟨v11, rfl, hr11, hb11⟩
              have e11 : (ownZ k Z10).map snapOf = ownS k (Z.map snapOf) := by rw [own_map, H10.out.1]
              have el : (ownZ k Z10).length = n0 := by
                have h1 := congrArg List.length e11
                have h2 := congrArg List.length (H9.out.1.trans H8.out.1)
                have h3 := HN0.out
                simp only [List.length_map] at h1 h2
                omega
              obtain ⟨a11, c11, ev, -⟩ := hr11.sees
              rw [el] at ev
              subst ev
              have HSM : Hid (Calls _ _ _ _ _) := same_law ((H9.out.2.1.below H10.out.2.2).below hb11) hr11 (H9.out.1.trans H8.out.1) e11 HIV.out (by rw [← e11, List.length_map, el])
              have HP11 : Hid (Lw w p p v Z w11 ∧ Below w7.heap.size w7 w11) := ⟨HP10.out.1.below hb11, HP10.out.2.trans (hb11.mono HP10.out.2.size)⟩
              clear HO HN0 H9 H8 H10 e11 el hr11 hb11 HP10 HIV
              go_wp2_with fail
              refine HSM.out.mono ?_
              rintro e w12 ⟨rfl, hb12⟩
              have HP12 : Hid (Lw w p p v Z w12 ∧ Below w7.heap.size w7 w12) := ⟨HP11.out.1.below hb12, HP11.out.2.trans (hb12.mono HP11.out.2.size)⟩
              clear HSM HP11 hb12
              go_wp2
              go_roundw
              case rel => exact ⟨k + 1, by go_num, by omega, HP12⟩
              case measure => simp [intOf]; omega
            · go_wp2
              go_ret
              exact ⟨by first | rfl | simp, HQ.out.1.bel⟩

theorem imageParts_walk (a : Option Addr) (len cap : Nat) (w : World) (h : ∃ L : List Rq, len = L.length ∧ DeedsIn w a L ∧ len ≤ 9223372036854775807) :
    Calls Tryz.prog 5 #[.slice a len cap] w fun e w' => e = .returned (.bool true) ∧ Below w.heap.size w w' := by
  obtain ⟨L, h1, h2, h3⟩ := h
  exact imageParts_main a len cap L w h1 h2 h3
end Go.Proofs.YtlpgdfdadkljfaaGreat.Img
