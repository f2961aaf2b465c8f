/-
  VoteTells, walked.
-/
import Derived.Test.YtimacmimibpgpaaVtLWho
import Derived.Test.YtimacmimibpgpaaVtUp
namespace Go.Proofs.Ytimacmimibpgpaa.Vote
open Go.RowKit

/-- What Winner tells, whatever is needed. -/
def WinX (l : List Vt) (need : Int) (x : ByteArray) (ok : Bool) : Prop := (need < 1 → x = ByteArray.empty ∧ ok = false) ∧ (1 ≤ need → Win l need x ok)
theorem winner_x (a : Option Addr) (n cap : Nat) (l : List Vt) (need : Int) (w : World) (h : VGiven w a n l) :
    Calls Try.prog 11 #[.slice a n cap, .int .i64 need] w fun e w' => (∃ x ok, e = .returned (.tuple #[.string x, .bool ok]) ∧ Hid (WinX l need x ok)) ∧ Below w.heap.size w w' := by
  by_cases h1 : need < 1
  · refine (winner_no a n cap need w h1).mono ?_
    rintro e w' ⟨rfl, rfl⟩
    exact ⟨⟨_, _, rfl, ⟨fun _ => ⟨rfl, rfl⟩, fun h => by omega⟩⟩, Below.refl _ _⟩
  · refine (winner_any a n cap l need w h (by omega)).mono ?_
    rintro e w' ⟨⟨x, ok, rfl, hx⟩, hb⟩
    exact ⟨⟨_, _, rfl, ⟨fun h => absurd h h1, fun _ => hx.out⟩⟩, hb⟩

/-- What an argument of votes is told as. -/
def VArg (W : World) (a : Option Addr) (l : List Vt) (len cap : Nat) : Prop := len = l.length ∧ LiesV W a l ∧ (∀ v ∈ l, VOk v) ∧ (a = none → cap = 0 ∧ len = 0) ∧ len ≤ 9223372036854775807

theorem len_ints {n : Nat} {v : Value} {l : List Int} {B : Nat} {W w : World} (h : Ints B v l W w) (hn : n = l.length) : ∃ b c, v = .slice b n c ∧ LiesI w b l ∧ Below B W w := by
  obtain ⟨b, c, e, _, hl, _⟩ := h.liesN hn
  exact ⟨b, c, e, hl, h.2.1⟩

theorem neqV (f : Int) (s : ByteArray) (w : World) : (binOp .neq 31 (.agg #[.int .i64 f, .string s]) (.agg #[.int .i64 f, .string s])).run Try.prog w = .ok (.bool false) w := by
  rw [run_neq_struct, run_equalIn_agg w 9999 31 _ _ (by kernel_rfl) (by kernel_rfl)]
  have p0 : (part 3 #[.int .i64 f, .string s] 0).run Try.prog w = .ok (.int .i64 f) w := by kernel_rfl
  have p1 : (part 9 #[.int .i64 f, .string s] 1).run Try.prog w = .ok (.string s) w := by kernel_rfl
  have e0 := run_equalIn_int w 9998 3 .i64 .i64 f f Try.underlying3
  have e1 := run_equalIn_string w 9998 9 s s Try.underlying9
  simp [Program.fieldsOf, Try.underlying31, Op.eqFields, p0, p1, e0, e1, Result.andThen]

set_option maxHeartbeats 4000000 in
set_option maxRecDepth 100000 in
theorem voteTells_walk (a : Option Addr) (l : List Vt) (n cap : Nat) (t : ByteArray) (need : Int) (w : World) (h : VArg w a l n cap) (_ : t.size ≤ maxLen) (_ : (Lit.int .i64 need).wf = true) :
    Calls Try.prog 3 #[.slice a n cap, .string t, .int .i64 need] w fun e w' => e = .returned (.bool true) ∧ Below w.heap.size w w' := by
  have HU : Hid (Calls _ _ _ _ _) := up_any w
  have HH : Hid (VArg w a l n cap) := h
  have hmx := h.2.2.2.2
  clear h
  by_cases hbig : 100 < n
  · go_enter Try.func3, Try.ntmps3
    go_wp2_with (go_at_call 7; refine HU.out.mono ?_; rintro e w1 ⟨rfl, hb⟩)
    go_ret
    exact ⟨rfl, hb⟩
  have HG : Hid (VGiven w a n l) := ⟨HH.out.1, HH.out.2.1, HH.out.2.2.1, by omega⟩
  have hn100 : n ≤ 100 := by omega
  obtain ⟨m, hm⟩ : ∃ m, m = (who l t).length := ⟨_, rfl⟩
  have HM : Hid (m = (who l t).length) := hm
  have HC0 : Hid (∀ (_b : Option Addr) (_c : Nat) w1, VGiven w1 _b n l → Calls Try.prog 10 #[.slice _b n _c, .string t] w1 fun e w' => e = .returned (.int .i64 (m : Int)) ∧ Below w1.heap.size w1 w') := fun b c w1 h1 => by
    rw [hm]; exact count_any b n c l t w1 h1
  have hm100 : m ≤ 100 := by have := who_len l t; have := HG.out.len; omega
  clear hm hbig
  have hnil := HH.out.2.2.2.1
  go_enter Try.func3, Try.ntmps3
  go_wp2_with (first | (go_at_call 7; refine HU.out.mono ?_; rintro e w1 ⟨rfl, hb⟩) | (at_builtin; refine wpList_votes rfl (.tmp 21) (.tmp 22) rfl w1.heap.size _ [] rfl w1 _ (VRow.fresh w1) l a n cap rfl HG.out.len ((HG.out.lies.below hb).below ((Below.refl _ _).alloc (Nat.le_refl _) _)) hnil (by simp; omega) ?_; intro v2 w2 hv2; rw [List.nil_append] at hv2; obtain ⟨b, cb, hve, hcb, hlb⟩ := hv2.liesN HG.out.len; subst hve))
  have HB2 : Hid (Below w.heap.size w w2) := hb.trans (hv2.2.1.mono hb.size)
  have HO : Hid (VGiven w2 b n l) := ⟨HG.out.len, hlb, HG.out.ok, HG.out.few⟩
  clear hb hv2 hlb hnil
  have HW : Hid (Calls _ _ _ _ _) := who_any b n cb l t w2 HO.out
  refine HW.out.mono ?_
  rintro e w3 ⟨v3, rfl, hv3⟩
  obtain ⟨b3, c3, rfl, hl3, hb3⟩ := len_ints hv3 HM.out
  have HL3 : Hid (LiesI w3 b3 (who l t)) := hl3
  have HB3 : Hid (Below w2.heap.size w2 w3) := hb3
  have HX3 : Hid (Below w.heap.size w w3) := HB2.out.trans (hb3.mono HB2.out.size)
  clear hv3 hl3 hb3 HW
  have HW : Hid (Calls _ _ _ _ _) := lwho_any a n cap l t w3 n (Nat.le_refl _) (HG.out.below HX3.out)
  have HT : Hid (l.take n = l) := List.take_of_length_le (by rw [← HG.out.len]; exact Nat.le_refl _)
  go_wp2_with fail
  refine HW.out.mono ?_
  rintro e w4 ⟨v4, rfl, hv4⟩
  rw [HT.out] at hv4
  obtain ⟨b4, c4, rfl, hl4, hb4⟩ := len_ints hv4 HM.out
  have HL4 : Hid (LiesI w4 b4 (who l t)) := hl4
  have HB4 : Hid (Below w2.heap.size w2 w4) := HB3.out.trans (hb4.mono HB3.out.size)
  have HL34 : Hid (LiesI w4 b3 (who l t)) := HL3.out.below hb4
  have HX4 : Hid (Below w.heap.size w w4) := HX3.out.trans (hb4.mono HX3.out.size)
  clear hv4 hl4 hb4 HW HT
  have HW : Hid (Calls _ _ _ _ _) := HC0.out b cb w4 (HO.out.below HB4.out)
  go_wp2_with (go_at_call 10; refine HW.out.mono ?_; rintro e w5 ⟨rfl, hb5⟩)
  have HB5 : Hid (Below w2.heap.size w2 w5) := HB4.out.trans (hb5.mono HB4.out.size)
  have HL5 : Hid (LiesI w5 b3 (who l t) ∧ LiesI w5 b4 (who l t)) := ⟨HL34.out.below hb5, HL4.out.below hb5⟩
  have HX5 : Hid (Below w.heap.size w w5) := HX4.out.trans (hb5.mono HX4.out.size)
  clear hb5 HW HC0 HL3 HL4 HL34
  go_wp2
  go_loopw [11] (fun t11 wr => ∃ k : Nat, t11 = .int .i64 (k : Int) ∧ k ≤ m ∧ Hid (Below w5.heap.size w5 wr)) (fun t11 _ => m - (intOf t11).toNat)
  case atStart => exact ⟨0, rfl, Nat.zero_le _, Below.refl _ _⟩
  case round =>
    obtain ⟨k, rfl, hk, HBr⟩ := hrel
    rename World => w6
    by_cases hkm : k < m
    · obtain ⟨y3, hy3, c3'⟩ := (HL5.out.1.below HBr.out).cellAt (j := k) (by rw [← HM.out]; exact hkm)
      obtain ⟨y4, hy4, c4'⟩ := (HL5.out.2.below HBr.out).cellAt (j := k) (by rw [← HM.out]; exact hkm)
      subst hy3; subst hy4
      have hi3 := index_int y3 m c3 k hkm
      have hi4 := index_int y4 m c4 k hkm
      generalize (who l t).getD k 0 = g at c3' c4'
      generalize y3.add k = p3 at c3' hi3
      generalize y4.add k = p4 at c4' hi4
      go_wp2_with fail
      go_quiet (fail)
      go_wp2
      go_roundw
      case rel => exact ⟨k + 1, by go_num, by omega, below_drewN HBr.out _⟩
      case measure => simp [intOf]; omega
    clear HL5
    have HX6 : Hid (Below w.heap.size w w6) := HX5.out.trans (HBr.out.mono HX5.out.size)
    have HB6 : Hid (Below w2.heap.size w2 w6) := HB5.out.trans (HBr.out.mono HB5.out.size)
    have HW : Hid (Calls _ _ _ _ _) := winner_x b n cb l need w6 (HO.out.below HB6.out)
    go_wp2_with fail
    refine HW.out.mono ?_
    rintro e w7 ⟨⟨x, ok, rfl, HWX⟩, hb7⟩
    have HX7 : Hid (Below w.heap.size w w7) := HX6.out.trans (hb7.mono HX6.out.size)
    have HB7 : Hid (Below w2.heap.size w2 w7) := HB6.out.trans (hb7.mono HB6.out.size)
    clear hb7 HW HX6 HB6 HBr HX5 HB5 HX4 HB4 HX3 HB3
    go_wp2
    go_loopw [14] (fun t14 wr => ∃ i : Nat, t14 = .int .i64 (i : Int) ∧ i ≤ n ∧ Hid (Below w7.heap.size w7 wr)) (fun t14 _ => n - (intOf t14).toNat)
    case atStart => exact ⟨0, rfl, Nat.zero_le _, Below.refl _ _⟩
    case round =>
      obtain ⟨i, rfl, hi, HBr⟩ := hrel
      rename World => w8
      by_cases hin : i < n
      · have hil : i < l.length := by rw [← HG.out.len]; exact hin
        obtain ⟨y1, hy1, c1, c1'⟩ := (HO.out.lies.below (HB7.out.trans (HBr.out.mono HB7.out.size))).at (j := i) hil
        obtain ⟨y2, hy2, c2, c2'⟩ := (HG.out.lies.below (HX7.out.trans (HBr.out.mono HX7.out.size))).at (j := i) hil
        subst hy1; subst hy2
        have hi1 := index_vote y1 n cb i hin
        have hi2 := index_vote y2 n cap i hin
        generalize vtAt l i = v at c1 c1' c2 c2'
        obtain ⟨f, s⟩ := v
        generalize y1.add (i * 2) = p1 at c1 c1' hi1
        generalize y2.add (i * 2) = p2 at c2 c2' hi2
        simp only at c1 c1' c2 c2'
        have l1 := load_vote p1 _ _ w8 c1 c1'
        have l2 := load_vote p2 _ _ w8 c2 c2'
        have hne := neqV f s
        go_wp2_with fail
        go_quiet (fail)
        go_wp2
        go_roundw
        case rel => exact ⟨i + 1, by go_num, by omega, below_drewN HBr.out _⟩
        case measure => simp [intOf]; omega
      have HX8 : Hid (Below w.heap.size w w8) := HX7.out.trans (HBr.out.mono HX7.out.size)
      clear HBr HX7 HB7 HO
      go_wp2
      go_loopw [15] (fun t15 wr => ∃ i : Nat, t15 = .int .i64 (i : Int) ∧ i ≤ n ∧ Hid (Below w.heap.size w wr) ∧ Hid (1 ≤ need → ∀ u, (cnt (l.take i) u : Int) < need)) (fun t15 _ => n - (intOf t15).toNat)
      case atStart => exact ⟨0, rfl, Nat.zero_le _, HX8, fun h u => by rw [List.take_zero]; show ((0 : Nat) : Int) < need; omega⟩
      case round =>
        obtain ⟨i, rfl, hi, HBr, HF⟩ := hrel
        rename World => w9
        by_cases hin : i < n
        · by_cases hneed : need < 1
          · obtain ⟨rfl, rfl⟩ := HWX.out.1 hneed
            go_wp2
            go_ret
            exact ⟨rfl, HBr.out⟩
          · have hil : i < l.length := by rw [← HG.out.len]; exact hin
            obtain ⟨y, hy, c0, c1⟩ := (HG.out.lies.below HBr.out).at (j := i) hil
            subst hy
            have hi1 := index_vote y n cap i hin
            have HW : Hid (Calls _ _ _ _ _) := lwho_any (some y) n cap l (vtAt l i).2 w9 (i + 1) (by omega) (HG.out.below HBr.out)
            obtain ⟨k, hk⟩ : ∃ k, k = (who (l.take (i + 1)) (vtAt l i).2).length := ⟨_, rfl⟩
            have HK : Hid (k = (who (l.take (i + 1)) (vtAt l i).2).length) := hk
            have HYes : Hid (need ≤ (k : Int) → ok = true ∧ x = (vtAt l i).2) := fun h => win_at (HWX.out.2 (by omega)) hil (HF.out (by omega)) (by show need ≤ ((who _ _).length : Int); rw [← hk]; exact h)
            have HNo : Hid ((k : Int) < need → 1 ≤ need → ∀ u, (cnt (l.take (i + 1)) u : Int) < need) := fun h h1 u => few_next hil (HF.out h1) (by show ((who _ _).length : Int) < need; rw [← hk]; exact h) u
            have HV : Hid (∀ W, Below w.heap.size w W → VtIn W (y.add (i * 2)) (vtAt l i)) := fun W hb => by
              obtain ⟨z, hz, h⟩ := (HG.out.lies.below hb).at (j := i) hil
              cases hz; exact h
            have hkn : k ≤ 100 := by
              have := who_len (l.take (i + 1)) (vtAt l i).2
              rw [List.length_take] at this
              omega
            clear hk HF
            generalize vtAt l i = v at c0 c1 HW HK HYes HNo HV
            obtain ⟨f, s⟩ := v
            generalize y.add (i * 2) = p at c0 c1 hi1 HV
            simp only at c0 c1 HW HK HYes HNo
            have HEI : Hid ((i : Int) + 1 = ((i + 1 : Nat) : Int)) := by show _ = _; omega
            by_cases hkk : need ≤ (k : Int)
            · obtain ⟨rfl, rfl⟩ := HYes.out hkk
              clear HNo HYes HWX
              go_wp2_with (go_at_call 9; rw [HEI.out]; refine HW.out.mono ?_; rintro e w10 ⟨v10, rfl, hv10⟩; obtain ⟨b10, c10, rfl, hl10, hb10⟩ := len_ints hv10 HK.out; have HX10 := HBr.out.trans (hb10.mono HBr.out.size); obtain ⟨d0, d1⟩ := HV.out w10 HX10)
              go_ret
              exact ⟨by first | rfl | simp, HX10⟩
            · have HN2 := HNo.out (by omega)
              have HN3 : Hid (1 ≤ need → ∀ u, (cnt (l.take (i + 1)) u : Int) < need) := HN2
              clear HNo HYes HWX HN2
              go_wp2_with (go_at_call 9; rw [HEI.out]; refine HW.out.mono ?_; rintro e w10 ⟨v10, rfl, hv10⟩; obtain ⟨b10, c10, rfl, hl10, hb10⟩ := len_ints hv10 HK.out; have HX10 := HBr.out.trans (hb10.mono HBr.out.size); obtain ⟨d0, d1⟩ := HV.out w10 HX10)
              go_roundw
              case rel => exact ⟨i + 1, by go_num, by omega, HX10, HN3⟩
              case measure => simp [intOf]; omega
        · by_cases hneed : need < 1
          · obtain ⟨rfl, rfl⟩ := HWX.out.1 hneed
            go_wp2
            go_ret
            exact ⟨rfl, HBr.out⟩
          · have hT : l.take i = l := List.take_of_length_le (by rw [← HG.out.len]; omega)
            obtain ⟨rfl, rfl⟩ := win_no (HWX.out.2 (by omega)) (by have := HF.out (by omega); rw [hT] at this; exact this)
            go_wp2
            go_ret
            exact ⟨rfl, HBr.out⟩
end Go.Proofs.Ytimacmimibpgpaa.Vote
