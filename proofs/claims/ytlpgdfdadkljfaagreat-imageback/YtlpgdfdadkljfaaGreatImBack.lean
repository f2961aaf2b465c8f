/-
  The walk of ImageBack.
-/
import Derived.Test.YtlpgdfdadkljfaaGreatImUp
import Derived.Test.YtlpgdfdadkljfaaGreatCtLw
import Derived.Test.YtlpgdfdadkljfaaGreatCtShort
namespace Go.Proofs.YtlpgdfdadkljfaaGreat.Img
open Go.RowKit Route Tree Order Cat

set_option maxHeartbeats 16000000 in
set_option maxRecDepth 100000 in
theorem imageBack_main (a : Option Addr) (n cap : Nat) (L : List Rq) (ab : Option Addr) (nb cb : Nat) (lb : List UInt8) (w : World) (hn : n = L.length) (hl : DeedsIn w a L) (hm : n ≤ 9223372036854775807)
    (hnb : nb = lb.length) (hlb : Go.Proofs.YtlpgdfdadkljfaaGreat.Lies w ab lb) (hcb : nb ≤ cb) (hcm : cb ≤ maxLen) (hob : lb = [] ∨ ∀ y, ab = some y → y.block < w.heap.size) :
    Calls Tryz.prog 3 #[.slice a n cap, .slice ab nb cb] w fun e w' => e = .returned (.bool true) ∧ Below w.heap.size w w' := by
  have HN : Hid (n = L.length) := hn
  have HL : Hid (DeedsIn w a L) := hl
  have HNb : Hid (nb = lb.length) := hnb
  have HBy : Hid (Go.Proofs.YtlpgdfdadkljfaaGreat.Lies w ab lb ∧ nb ≤ cb ∧ cb ≤ maxLen ∧ (lb = [] ∨ ∀ y, ab = some y → y.block < w.heap.size)) := ⟨hlb, hcb, hcm, hob⟩
  have HU : Hid (Calls _ _ _ _ _) := up_any w
  have q1 := eqNil0
  have q2 := ee0
  have q3 := ne2
  clear hn hl hnb hlb hcb hcm hob
  go_enter Tryz.func3, Tryz.ntmps3
  go_wp2_with fail
  refine HU.out.mono ?_
  rintro e w1 ⟨rfl, hb1⟩
  have HS : Hid (Calls _ _ _ _ _) := shortD_any a n cap L w1 HN.out (HL.out.below hb1) hm
  have HB1 : Hid (Below w.heap.size w w1) := hb1
  clear HU hb1
  go_wp2_with fail
  refine HS.out.mono ?_
  rintro e w2 ⟨b, rfl, H2⟩
  have HB2 : Hid (Below w.heap.size w w2) := HB1.out.trans (H2.out.2.mono HB1.out.size)
  clear HS HB1
  go_wp2_with fail
  refine (new_any w2).mono ?_
  rintro e w3 ⟨rfl, hw3⟩
  have HA : Hid (Lw w w2.heap.size w2.heap.size (.slice none 0 0) [] w3) := by
    rw [hw3]
    exact ⟨cat_new (Nat.le_refl _), Inv.nil, HB2.out.alloc HB2.out.size _, HB2.out.size, by simp⟩
  clear hw3
  generalize w2.heap.size = p at *
  cases b with
  | false =>
    go_wp2
    go_ret
    exact ⟨by rfl, HA.out.bel⟩
  | true =>
    have HSH : Hid (∀ j, j < n → j < 80 → ShortR (rqAt L j)) := H2.out.1 rfl
    clear H2
    by_cases hbig : 20000 < nb
    · go_wp2
      go_ret
      exact ⟨by rfl, HA.out.bel⟩
    have hb2 : nb ≤ 20000 := by omega
    go_wp2
    go_loopw [8] (fun t8 wr => ∃ (i : Nat) (v : Value) (Z : List SZ), t8 = .int .i64 (i : Int) ∧ i ≤ n ∧ Hid (Lw w p p v Z wr)) (fun t8 _ => n - (intOf t8).toNat)
    case atStart => exact ⟨0, _, _, rfl, Nat.zero_le _, HA⟩
    case round =>
      obtain ⟨i, v, Z, rfl, hi, HP⟩ := hrel
      clear HA
      by_cases hlt : i < n ∧ i < 80
      · obtain ⟨hin, hi80⟩ := hlt
        obtain ⟨x, hx, hdd⟩ := HL.out.at (j := i) (by rw [← HN.out]; exact hin)
        subst hx
        have hsr := HSH.out i hin hi80
        have hix := index_deed x n cap i hin
        generalize rqAt L i = r at hdd hsr
        generalize x.add (i * 6) = q at hdd hix
        obtain ⟨c, t, k, m, nm, pt, ks⟩ := r
        obtain ⟨ka, kn, kc, ⟨g0, g1, g2, g3, g4, g5⟩, hqb, HD⟩ := deed_call HP.out hdd hsr
        clear hdd hsr
        go_wp2_with fail
        go_region_held (fun W => W.cell? q = some (.int .i64 c) ∧ W.cell? ⟨q.block, q.off + 1, none⟩ = some (.int .i64 k) ∧ W.cell? ⟨q.block, q.off + 1 + 1, none⟩ = some (.string nm) ∧ W.cell? ⟨q.block, q.off + 1 + 2, none⟩ = some (.string pt) ∧ W.cell? ⟨q.block, q.off + 1 + 3, none⟩ = some (.slice ka kn kc) ∧ W.cell? ⟨q.block, q.off + 1 + 4, none⟩ = some (.int .i64 m))
          (first | with_reducible assumption | simp [g0, g1, g2, g3, g4, g5])
          (first | (go_at_call 9; refine (HD.out _ (by exact (Below.refl _ _).drew)).mono ?_; rintro e w5 ⟨⟨ya, yb, s2, n2, c2, s3, n3, c3, s4, n4, c4⟩, v5, Z5, rfl, hc5, hq5, hx5, HD5⟩))
        all_goals
          have HP5 : Hid (Lw w p p v5 Z5 w5) := HP.out.did HD5.out
          clear hc5 hq5 hx5 HD5 HD HP hqb g0 g1 g2 g3 g4 g5 hix
          go_wp2
          go_roundw
          case rel => exact ⟨i + 1, v5, Z5, by go_num, by omega, HP5⟩
          case measure => simp [intOf]; omega
      · have hout : n ≤ i ∨ (i < n ∧ 80 ≤ i) := by omega
        have HW : Hid (Calls _ _ _ _ _) := put_any HP.out.cat HP.out.inv
        obtain ⟨ne, hne⟩ : ∃ ne, ne = (encI (Z.map snapOf)).length := ⟨_, rfl⟩
        have HNE : Hid (ne = (encI (Z.map snapOf)).length) := hne
        have hne8 : ne ≤ 100000000 := by have := encI_len (inv_len HP.out.inv) (Inv.nfit HP.out.inv); omega
        clear hlt hne HSH HL HN
        rcases hout with ho | ⟨ho, ho2⟩
        all_goals
          go_wp2_with fail
          refine HW.out.mono ?_
          rintro e w7 ⟨v7, rfl, hv7⟩
          have HP7 : Hid (Lw w p p v Z w7) := HP.out.below hv7.2.1
          obtain ⟨a7, c7, rfl, HV⟩ := conv_buf hv7 HNE.out
          have HG : Hid (Calls _ _ _ _ _) := get_any a7 ne c7 (encI (Z.map snapOf)) w7 HNE.out HV.out.2.1 hne8 HV.out.2.2.1 HV.out.2.2.2.1 (.inr HV.out.2.2.2.2)
          clear hv7 HW HP HV ho
          go_wp2_with fail
          refine HG.out.mono ?_
          rintro e w8 hg
          have HGG : Hid (Got _ _ _ _) := hg
          clear hg
          obtain ⟨p2, v2, Z2, rfl, H8⟩ : ∃ p2 v2 Z2, e = .returned (.tuple #[.pointer (some ⟨p2, 0, none⟩), .nilIface]) ∧ Hid (Z2.map snapOf = Z.map snapOf ∧ Cat p2 p2 v2 Z2 w8 ∧ w7.heap.size ≤ p2 ∧ Below w7.heap.size w7 w8) := by
            have hd := dec_inv HP7.out.inv
            rcases HGG.out with ⟨_, p2, v2, Z2, h1, h2, h3, h4, h5⟩ | ⟨h, _⟩
            · rw [hd] at h2
              exact ⟨p2, v2, Z2, h1, h2, h3, h4, h5⟩
            · rw [hd] at h
              exact absurd ⟨rfl, Nat.le_refl _, inv_may HP7.out.inv⟩ h
          have HP8 : Hid (Lw w p p v Z w8) := HP7.out.below H8.out.2.2.2
          have HQ8 : Hid (Lw w p2 p2 v2 Z2 w8 ∧ Z2.map snapOf = Z.map snapOf) := ⟨⟨H8.out.2.1, by rw [H8.out.1]; exact HP7.out.inv, HP8.out.bel, Nat.le_trans HP7.out.bel.size H8.out.2.2.1, Nat.le_trans (Nat.le_of_lt (Array.getElem?_eq_some_iff.1 H8.out.2.1.box).1) (Nat.le_refl _)⟩, H8.out.1⟩
          have HS1 : Hid (Calls _ _ _ _ _) := snaps_law HP8.out
          clear HGG H8 HG HP7 HNE
          go_wp2_with fail
          refine HS1.out.mono ?_
          rintro e w9 ⟨a0, n0, c0, Z0, rfl, hn0, _, H9⟩
          have HN0 : Hid (n0 = Z0.length) := hn0
          clear hn0
          have HP9 : Hid (Lw w p p v Z w9) := HP8.out.below H9.out.2.2
          have HQ9 : Hid (Lw w p2 p2 v2 Z2 w9 ∧ Z2.map snapOf = Z.map snapOf) := ⟨HQ8.out.1.below H9.out.2.2, HQ8.out.2⟩
          have HS2 : Hid (Calls _ _ _ _ _) := snaps_law HQ9.out.1
          clear HS1 HP8 HQ8
          go_wp2_with fail
          refine HS2.out.mono ?_
          rintro e w10 ⟨a10, n10, c10, Z10, rfl, hn10, _, H10⟩
          have HN10 : Hid (n10 = Z10.length) := hn10
          clear hn10
          have HP10 : Hid (Lw w p p v Z w10) := HP9.out.below H10.out.2.2
          have en : n10 = n0 := by
            rw [HN0.out, HN10.out]
            have e1 := congrArg List.length H9.out.1
            have e2 := congrArg List.length H10.out.1
            rw [HQ9.out.2] at e2
            simp only [List.length_map] at e1 e2
            omega
          subst en
          have HSM : Hid (Calls _ _ _ _ _) := same_law (H9.out.2.1.below H10.out.2.2) H10.out.2.1 H9.out.1 (H10.out.1.trans HQ9.out.2) HP10.out.inv (by rw [HN0.out, ← H9.out.1]; simp)
          clear HS2 HN0 HN10 H9 H10 HP9 HQ9
          go_wp2_with fail
          refine HSM.out.mono ?_
          rintro e w11 ⟨rfl, hb11⟩
          have HB11 : Hid (Below w.heap.size w w11) := HP10.out.bel.trans (hb11.mono HP10.out.bel.size)
          have HLB : Hid (∀ W, Below w.heap.size w W → (convert 23 9 (.slice ab nb cb)).run Tryz.prog W = .ok (.string ⟨lb.toArray⟩) W) := fun W hb => by
            rw [HNb.out]; exact conv_lies (Go.Proofs.YtlpgdfdadkljfaaGreat.Lies.below HBy.out.1 hb (Nat.le_refl _))
          have HG2 : Hid (Calls _ _ _ _ _) := get_any ab nb cb lb w11 HNb.out (Go.Proofs.YtlpgdfdadkljfaaGreat.Lies.below HBy.out.1 HB11.out (Nat.le_refl _)) (by omega) HBy.out.2.1 HBy.out.2.2.1 (HBy.out.2.2.2.imp id fun h y hy => Nat.lt_of_lt_of_le (h y hy) HB11.out.size)
          clear HSM hb11 HP10
          go_wp2_with fail
          refine HG2.out.mono ?_
          rintro e w12 hg
          rcases hg with ⟨⟨hk1, hk2, hk3⟩, p3, v3, Z3, rfl, hz3, hc3, hp3, hb12⟩ | ⟨_, rfl, hb12⟩
          · have HB12 : Hid (Below w.heap.size w w12) := HB11.out.trans (hb12.mono HB11.out.size)
            have HW3 : Hid (Calls _ _ _ _ _) := put_any hc3 (by rw [hz3]; exact hk3.inv)
            have HE3 : Hid (encI (Z3.map snapOf) = lb) := by show _ = _; rw [hz3]; exact dec_sound hk1 hk2
            rw [HE3.out] at HW3
            clear hk1 hk2 hk3 hz3 hc3 hp3 hb12 HG2 HB11 HE3
            go_wp2_with fail
            refine HW3.out.mono ?_
            rintro e w13 ⟨v13, rfl, hv13⟩
            obtain ⟨a13, c13, rfl, HV13⟩ := conv_buf hv13 HNb.out
            have HB13 : Hid (Below w.heap.size w w13) := HB12.out.trans (hv13.2.1.mono HB12.out.size)
            have k1 := HLB.out w13 HB13.out
            have k2 := HV13.out.1 w13 (Below.refl _ _)
            generalize (⟨lb.toArray⟩ : ByteArray) = sb at k1 k2
            clear hv13 HW3 HV13 HLB HBy HNb
            go_wp2
            go_ret
            exact ⟨by first | rfl | simp, HB13.out⟩
          · have HB12 : Hid (Below w.heap.size w w12) := HB11.out.trans (hb12.mono HB11.out.size)
            clear hb12 HG2 HB11
            go_wp2
            go_ret
            exact ⟨by first | rfl | simp, HB12.out⟩

theorem lies_old {w : World} {a : Option Addr} {l : List UInt8} (h : Go.Proofs.YtlpgdfdadkljfaaGreat.Lies w a l) : l = [] ∨ ∀ y, a = some y → y.block < w.heap.size := by
  rcases h with h | ⟨x, rfl, h⟩
  · exact .inl h
  · cases l with
    | nil => exact .inl rfl
    | cons b r =>
      refine .inr fun y hy => ?_
      cases hy
      have := World.block_lt_of_cell? w _ (h 0 _ rfl)
      rwa [show (x.add 0).block = x.block from rfl] at this

theorem imageBack_walk (a : Option Addr) (len cap : Nat) (ab : Option Addr) (lb : List UInt8) (nb cb : Nat) (w : World) (h : ∃ L : List Rq, len = L.length ∧ DeedsIn w a L ∧ len ≤ 9223372036854775807)
    (hnb : nb = lb.length) (hlb : Go.Proofs.YtlpgdfdadkljfaaGreat.Lies w ab lb) (hcb : nb ≤ cb) (hcm : cb ≤ maxLen) (_ : ab = none → cb = 0) :
    Calls Tryz.prog 3 #[.slice a len cap, .slice ab nb cb] w fun e w' => e = .returned (.bool true) ∧ Below w.heap.size w w' := by
  obtain ⟨L, h1, h2, h3⟩ := h
  exact imageBack_main a len cap L ab nb cb lb w h1 h2 h3 hnb hlb hcb hcm (lies_old hlb)
end Go.Proofs.YtlpgdfdadkljfaaGreat.Img
