/-
  The walk of ImagePuts.
-/
import Derived.Test.YtlpgdfdadkljfaaImMay
import Derived.Test.YtlpgdfdadkljfaaImRef
import Derived.Test.YtlpgdfdadkljfaaImOwnL
import Derived.Test.YtlpgdfdadkljfaaImParts2
import Derived.Deep.RegionHeld
namespace Go.Proofs.Ytlpgdfdadkljfaa.Img
open Go.RowKit Route Tree Order Cat

theorem parts_nil (w : World) : Calls Try.prog 11 #[.pointer none] w fun e w' => e = .returned (.tuple #[.slice none 0 0, .iface 36 (.int .i64 1)]) ∧ w' = w := by
  go_enter Try.func11, Try.ntmps11
  go_wp2
  go_ret2
  exact ⟨rfl, rfl⟩

theorem parts_tell {B p : Nat} {v : Value} {Z : List SZ} {w : World} (h : Cat B p v Z w) (hI : Inv (Z.map snapOf)) :
    Calls Try.prog 11 #[.pointer (some ⟨p, 0, none⟩)] w fun e w' => ∃ v', e = .returned (.tuple #[v', .nilIface]) ∧ Strs w.heap.size v' (partsL (Z.map snapOf)) w w' := by
  have HP : Hid (Calls _ _ _ _ _) := partsOf_any h hI
  clear h hI
  go_enter Try.func11, Try.ntmps11
  go_wp2_with fail
  refine HP.out.mono ?_
  rintro e w1 ⟨v', rfl, hs⟩
  have HS : Hid (Strs _ _ _ _ _) := hs
  clear hs HP
  go_wp2
  go_ret2
  exact ⟨_, rfl, HS.out⟩

theorem neArg1 (w : World) : (binOp .neq 27 (.iface 36 (.int .i64 1)) (.iface 36 (.int .i64 1))).run Try.prog w = .ok (.bool false) w := by kernel_rfl
theorem parts_at (S : List Snap) {i : Nat} (hi : i < 8) : (partsL S).getD i ByteArray.empty = ⟨(encI (ownS i S)).toArray⟩ := by
  simp [partsL, List.getD_eq_getElem?_getD, hi]
theorem own_fit {S : List Snap} {k : Nat} (h : ∀ s ∈ S, NFit s) : ∀ s ∈ S.filter (fun s => decide (s.1 = (k : Int))), NFit s := fun s hs => h s (List.mem_filter.1 hs).1

/-- The reference's Put, and what its bytes read as. -/
theorem refPut_tell {a : Option Addr} {n cap : Nat} {S : List Snap} {w : World} (hn : n = S.length) (hl : LiesN w a S) (hm : n ≤ 64) (hF : ∀ s ∈ S, NFit s) :
    Calls Try.prog 12 #[.slice a n cap] w fun e w' => ∃ a6 k6 c6, e = .returned (.slice a6 k6 c6) ∧ (convert 30 9 (.slice a6 k6 c6)).run Try.prog w' = .ok (.string ⟨(encI S).toArray⟩) w' ∧ Below w.heap.size w w' := by
  refine (refPut_any a n cap S w hn hl hm hF).mono ?_
  rintro e w' ⟨v, rfl, hv⟩
  obtain ⟨a3, c3, rfl, h⟩ := conv_buf hv rfl
  exact ⟨a3, _, c3, rfl, h.out.1 w' (Below.refl _ _), hv.2.1⟩

set_option maxHeartbeats 16000000 in
set_option maxRecDepth 100000 in
theorem imagePuts_main (a : Option Addr) (n cap : Nat) (S : List Snap) (w : World) (hn : n = S.length) (hl : LiesN w a S) (hm : n ≤ 9223372036854775807) :
    Calls Try.prog 3 #[.slice a n cap] w fun e w' => e = .returned (.bool true) ∧ Below w.heap.size w w' := by
  have HN : Hid (n = S.length) := hn
  have HL : Hid (LiesN w a S) := hl
  have HU : Hid (Calls _ _ _ _ _) := up_any w
  have q1 := eqNil0
  have q3 := neArg1
  clear hn hl
  go_enter Try.func3, Try.ntmps3
  go_wp2_with fail
  refine HU.out.mono ?_
  rintro e w1 ⟨rfl, hb1⟩
  have HS : Hid (Calls _ _ _ _ _) := shortS_any a n cap S w1 HN.out (HL.out.below hb1 (Nat.le_refl _))
  have HB1 : Hid (Below w.heap.size w w1) := hb1
  clear HU hb1
  go_wp2_with fail
  refine HS.out.mono ?_
  rintro e w2 ⟨b, rfl, rfl, H2⟩
  clear HS
  cases b with
  | false =>
    go_wp2
    go_ret
    exact ⟨by rfl, HB1.out⟩
  | true =>
    have HG : Hid (n ≤ 100 ∧ ∀ s ∈ S, SGiven s) := H2.out rfl
    have HM : Hid (Calls _ _ _ _ _) := may_true a n cap S w2 HN.out (HL.out.below HB1.out (Nat.le_refl _)) HG.out.1 HG.out.2
    clear H2
    go_wp2_with fail
    refine HM.out.mono ?_
    rintro e w3 ⟨b, rfl, H3⟩
    have HB3 : Hid (Below w.heap.size w w3) := HB1.out.trans (H3.out.2.mono HB1.out.size)
    clear HM HB1
    cases b with
    | false =>
      go_wp2
      go_ret
      exact ⟨by rfl, HB3.out⟩
    | true =>
      have HMY : Hid (May S) := H3.out.1 rfl
      have HI : Hid (Inv S) := May.inv HMY.out
      have hn64 : n ≤ 64 := by rw [HN.out]; exact inv_len HI.out
      have HFR : Hid (Calls _ _ _ _ _) := from_any a n cap S w3 HN.out (HL.out.below HB3.out (Nat.le_refl _)) (by omega) HG.out.2
      clear H3
      go_wp2_with fail
      refine HFR.out.mono ?_
      rintro e w4 hfr
      obtain ⟨p, v, Z, rfl, H4⟩ : ∃ p v Z, e = .returned (.tuple #[.pointer (some ⟨p, 0, none⟩), .nilIface]) ∧ Hid (Z.map snapOf = S ∧ Cat p p v Z w4 ∧ Below w3.heap.size w3 w4) := by
        rcases hfr with ⟨_, v, Z, h1, h2, h3, h4⟩ | ⟨h, _⟩
        · exact ⟨_, v, Z, h1, h2, h3, h4⟩
        · exact absurd HMY.out h
      have HB4 : Hid (Below w.heap.size w w4) := HB3.out.trans (H4.out.2.2.mono HB3.out.size)
      have HW : Hid (Calls _ _ _ _ _) := put_any H4.out.2.1 (by rw [H4.out.1]; exact HI.out)
      rw [H4.out.1] at HW
      clear hfr HFR HB3 HMY HG
      go_wp2_with fail
      refine HW.out.mono ?_
      rintro e w5 ⟨v5, rfl, hv5⟩
      obtain ⟨ne, hne⟩ : ∃ ne, ne = (encI S).length := ⟨_, rfl⟩
      obtain ⟨a7, c7, rfl, HV⟩ := conv_buf hv5 hne
      have HB5 : Hid (Below w.heap.size w w5) := HB4.out.trans (hv5.2.1.mono HB4.out.size)
      have HPA : Hid (Calls _ _ _ _ _) := parts_tell (H4.out.2.1.below hv5.2.1) (by rw [H4.out.1]; exact HI.out)
      rw [H4.out.1] at HPA
      clear hv5 HW HB4 H4 hne
      go_wp2_with fail
      refine HPA.out.mono ?_
      rintro e w6 ⟨v6, rfl, hv6⟩
      obtain ⟨g8, c8, rfl, -, -, -, -, hcells⟩ := hv6.formN (n := 8) (parts_len _).symm (by omega)
      have HC8 : Hid (∀ k, k < 8 → w6.cell? ⟨g8, k, none⟩ = some (.string ⟨(encI (ownS k S)).toArray⟩)) := fun k hk => by
        rw [hcells k (by rw [parts_len]; exact hk), parts_at _ hk]
      have HB6 : Hid (Below w.heap.size w w6) := HB5.out.trans (hv6.2.1.mono HB5.out.size)
      have HCV : Hid (∀ W, Below w6.heap.size w6 W → (convert 30 9 (.slice a7 ne c7)).run Try.prog W = .ok (.string ⟨(encI S).toArray⟩) W) := fun W hb => HV.out.1 W (hv6.2.1.trans (hb.mono hv6.2.1.size))
      have HPN : Hid (Calls _ _ _ _ _) := parts_nil w6
      clear hcells hv6 HPA HB5 HV
      go_wp2_with fail
      refine HPN.out.mono ?_
      rintro e w7 ⟨rfl, rfl⟩
      clear HPN
      have HRP : Hid (∀ W, (Below w7.heap.size w7 W ∧ (convert 30 9 (.slice a7 ne c7)).run Try.prog W = .ok (.string ⟨(encI S).toArray⟩) W) → Calls Try.prog 12 #[.slice a n cap] W fun e w' => ∃ a6 k6 c6, e = .returned (.slice a6 k6 c6) ∧ (convert 30 9 (.slice a6 k6 c6)).run Try.prog w' = .ok (.string ⟨(encI S).toArray⟩) w' ∧ (Below w7.heap.size w7 w' ∧ (convert 30 9 (.slice a7 ne c7)).run Try.prog w' = .ok (.string ⟨(encI S).toArray⟩) w')) := fun W hW => by
        refine (refPut_tell HN.out (HL.out.below (HB6.out.trans (hW.1.mono HB6.out.size)) (Nat.le_refl _)) hn64 (Img.Inv.nfit HI.out)).mono ?_
        rintro e w' ⟨a6, k6, c6, rfl, h1, h2⟩
        have h3 : Below w7.heap.size w7 w' := hW.1.trans (h2.mono hW.1.size)
        exact ⟨a6, k6, c6, rfl, h1, h3, HCV.out _ h3⟩
      have HC0 := HCV.out w7.drew (Below.refl _ _).drew
      generalize (⟨(encI S).toArray⟩ : ByteArray) = sb at HRP HC0 HCV
      clear HCV
      go_wp2_with fail
      go_region_held (fun W => (Below w7.heap.size w7 W ∧ (convert 30 9 (.slice a7 ne c7)).run Try.prog W = .ok (.string sb) W))
        (first | assumption | exact ⟨(Below.refl _ _).drew, HC0⟩)
        (first | (go_at_call 12; refine (HRP.out _ (by assumption)).mono ?_; rintro e w8 ⟨a6, k6, c6, rfl, hc6, hS6⟩))
      all_goals
        have HB8 : Hid (Below w7.heap.size w7 w8) := hS6.1
        clear hc6 hS6 HRP HC0
        go_wp2
        go_loopw [14] (fun t14 wr => ∃ k : Nat, t14 = .int .i64 (k : Int) ∧ k ≤ 8 ∧ Hid (Below w7.heap.size w7 wr)) (fun t14 _ => 8 - (intOf t14).toNat)
        case atStart => exact ⟨0, rfl, Nat.zero_le _, HB8⟩
        case round =>
          rename World => W0
          obtain ⟨k, rfl, hk, HQ⟩ := hrel
          clear HB8
          by_cases hk8 : k < 8
          · have hcell := cell_below HQ.out (Nat.le_refl _) (HC8.out k hk8)
            have HBQ : Hid (Below w.heap.size w W0) := HB6.out.trans (HQ.out.mono HB6.out.size)
            have HOW : Hid (∀ W, (Below W0.heap.size W0 W ∧ W.cell? ⟨g8, k, none⟩ = some (.string ⟨(encI (ownS k S)).toArray⟩)) → Calls Try.prog 13 #[.slice a n cap, .int .i64 (k : Int)] W fun e w' => ∃ a6 k6 c6, e = .returned (.slice a6 k6 c6) ∧ (Below W0.heap.size W0 w' ∧ w'.cell? ⟨g8, k, none⟩ = some (.string ⟨(encI (ownS k S)).toArray⟩)) ∧ Hid (∀ W2, Below w'.heap.size w' W2 → Calls Try.prog 12 #[.slice a6 k6 c6] W2 fun e w2 => ∃ a9 k9 c9, e = .returned (.slice a9 k9 c9) ∧ (convert 30 9 (.slice a9 k9 c9)).run Try.prog w2 = .ok (.string ⟨(encI (ownS k S)).toArray⟩) w2 ∧ (Below W0.heap.size W0 w2 ∧ w2.cell? ⟨g8, k, none⟩ = some (.string ⟨(encI (ownS k S)).toArray⟩)))) := fun W hW => by
              refine (own_lies k (HL.out.below (HBQ.out.trans (hW.1.mono HBQ.out.size)) (Nat.le_refl _)) HN.out (by omega)).mono ?_
              rintro e w' ⟨a6, k6, c6, rfl, h⟩
              have h3 : Below W0.heap.size W0 w' := hW.1.trans (h.out.2.2.mono hW.1.size)
              refine ⟨a6, k6, c6, rfl, ⟨h3, cell_below h3 (Nat.le_refl _) hcell⟩, fun W2 hb => ?_⟩
              have hle : k6 ≤ 64 := by
                have h5 := List.length_filter_le (fun s : Snap => decide (s.1 = (k : Int))) S
                have h6 := h.out.1
                have h7 := HN.out
                omega
              refine (refPut_tell h.out.1 (h.out.2.1.below hb (Nat.le_refl _)) hle (own_fit (Img.Inv.nfit HI.out))).mono ?_
              rintro e w2 ⟨a9, k9, c9, rfl, h1, h2⟩
              have h4 : Below W0.heap.size W0 w2 := (h3.trans (hb.mono h3.size)).trans (h2.mono (Nat.le_trans h3.size hb.size))
              exact ⟨a9, k9, c9, rfl, h1, h4, cell_below h4 (Nat.le_refl _) hcell⟩
            generalize (⟨(encI (ownS k S)).toArray⟩ : ByteArray) = sk at hcell HOW
            go_wp2_with fail
            go_region_held (fun W => (Below W0.heap.size W0 W ∧ W.cell? ⟨g8, k, none⟩ = some (.string sk)))
              (first | assumption | exact ⟨(Below.refl _ _).drew, by simpa using hcell⟩)
              (first
                | (go_at_call 13; refine (HOW.out _ (by assumption)).mono ?_; rintro e w9 ⟨a9, k9, c9, rfl, hS9, HP9⟩)
                | (go_at_call 12; refine (HP9.out _ (Below.refl _ _)).mono ?_; rintro e w11 ⟨a11, k11, c11, rfl, hc11, hS11⟩))
            all_goals
              have HB9 : Hid (Below w7.heap.size w7 w11) := HQ.out.trans (hS11.1.mono HQ.out.size)
              clear hc11 hS11 HOW HP9 hS9 hcell
              go_wp2
              go_roundw
              case rel => exact ⟨k + 1, by go_num, by omega, HB9⟩
              case measure => simp [intOf]; omega
          · go_wp2
            go_ret
            exact ⟨by first | rfl | simp, HB6.out.trans (HQ.out.mono HB6.out.size)⟩

theorem imagePuts_walk (a : Option Addr) (len cap : Nat) (w : World) (h : ∃ S : List Snap, len = S.length ∧ LiesN w a S ∧ len ≤ 9223372036854775807) :
    Calls Try.prog 3 #[.slice a len cap] w fun e w' => e = .returned (.bool true) ∧ Below w.heap.size w w' := by
  obtain ⟨S, h1, h2, h3⟩ := h
  exact imagePuts_main a len cap S w h1 h2 h3
end Go.Proofs.Ytlpgdfdadkljfaa.Img
