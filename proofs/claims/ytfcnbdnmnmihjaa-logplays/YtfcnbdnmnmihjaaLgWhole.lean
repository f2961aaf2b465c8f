/-
  The contract of log.wholeRecords.
-/
import Derived.Test.YtfcnbdnmnmihjaaLgRead
namespace Go.Proofs.Ytfcnbdnmnmihjaa
open Go.RowKit

/-- 'b[p:q]'. -/
theorem slice_mid {W : World} {a : Option Addr} {k cap p q : Nat} (h1 : p < q) (h2 : q ≤ k) (h3 : k ≤ cap) (_ : cap ≤ maxLen) (x y : Int) (hx : x = (p : Int)) (hy : y = (q : Int)) :
    (Instr.slice 31 (.slice a k cap) (some (.int .i64 x)) (some (.int .i64 y)) none).run Try.prog W = .ok (.slice (a.map (·.add p)) (q - p) (cap - p)) W := by
  subst hx; subst hy
  have el : Try.prog.elem 31 = 5 := by kernel_rfl
  have := run_slice_lh (P := Try.prog) W 31 a k cap (by kernel_rfl) .i64 .i64 (p : Int) (q : Int) (by omega) (by omega) (by omega)
  rw [this, el, Try.sizeOf5]
  have hc : cap ≠ p := by omega
  simp [sliced, hc, Result.andThen]

theorem Lies.mid {w : World} {a : Option Addr} {l : List UInt8} (h : Lies w a l) (p r : Nat) : Lies w (a.map (·.add p)) ((l.drop p).take r) := (h.drop p).take r

set_option maxHeartbeats 1000000 in
theorem wholeRecords_any (a : Option Addr) (l : List UInt8) (cap n : Nat) (w : World) (hn : n = l.length) (hl : Lies w a l) (hlen : n ≤ 1048576) (hlc : n ≤ cap) (hcm : cap ≤ maxLen) (hnil : a = none → n = 0 ∧ cap = 0) :
    Calls Try.prog 21 #[.slice a n cap] w fun e w' => ∃ v, e = .returned (.tuple #[v, .int .i64 (ends l : Int)]) ∧ Rws (fun k => w.heap.size ≤ k) w' v (recs l) ∧ Below w.heap.size w w' := by
  have HN : Hid (n = l.length) := hn
  have HL : Hid (Lies w a l) := hl
  have HC : Hid (cap ≤ maxLen) := hcm
  have HZ : Hid (a = none → n = 0 ∧ cap = 0) := hnil
  clear hn hl hcm hnil
  go_enter Try.func21, Try.ntmps21
  go_wp2
  go_loopw [4, 5] (fun s t wr => ∃ (rs : List (List UInt8)) (p : Nat), t = .int .i64 p ∧ p ≤ n ∧ Hid (At l rs p) ∧ Hid (Rws (fun k => w.heap.size ≤ k) wr s rs) ∧ Hid (Below w.heap.size w wr)) (fun _ t _ => n - (intOf t).toNat)
  case atStart => exact ⟨[], 0, rfl, Nat.zero_le _, At.zero l, Rws.nil _ _, Below.refl _ _⟩
  case round =>
    obtain ⟨rs, p, rfl, hpn, hat, hrw, hbw⟩ := hrel
    by_cases hw : whole (l.drop p) = true
    · obtain ⟨r1, hr1⟩ : ∃ r1, r1 = (rd 0 0 (l.drop p)).1 := ⟨_, rfl⟩
      obtain ⟨r2, hr2⟩ : ∃ r2, r2 = (rd 0 0 (l.drop p)).2 := ⟨_, rfl⟩
      have hr : rd 0 0 (l.drop p) = (r1, r2) := by rw [hr1, hr2]
      simp only [whole, hr, decide_eq_true_eq, List.length_drop] at hw
      rw [← HN.out] at hw
      obtain ⟨g1, g2, g3, g4⟩ := hw
      clear hr1 hr2
      have H1 : Hid (Calls _ _ _ _ _) := recordAt_yes a l cap n p r1 r2 wr HN.out (HL.out.below hbw.out (Nat.le_refl _)) (by omega) hlc hr g1 g2 g3 (by omega)
      have HS : Hid (At l (rs ++ [(l.drop (p + r2)).take r1]) (p + r2 + r1)) := hat.out.step hr g1 g2 g3 (by rw [← HN.out]; omega)
      have hsl : ∀ W, (Instr.slice 31 (.slice a n cap) (some (.int .i64 ((p + r2 : Nat) : Int))) (some (.int .i64 ((p + r2 + r1 : Nat) : Int))) none).run Try.prog W = .ok (.slice (a.map (·.add (p + r2))) r1 (cap - (p + r2))) W := fun W => by
        rw [slice_mid (p := p + r2) (q := p + r2 + r1) (by omega) (by omega) hlc HC.out _ _ rfl rfl, show p + r2 + r1 - (p + r2) = r1 by omega]
      have H2 : Hid (Calls Try.prog 27 #[.slice (a.map (·.add (p + r2))) r1 (cap - (p + r2))] wr fun e w' => ∃ a' k' cap', e = .returned (.slice a' k' cap') ∧ Row wr.heap.size w' (.slice a' k' cap') ((l.drop (p + r2)).take r1) ∧ Below wr.heap.size wr w') := by
        refine clone_any ?_ ((HL.out.below hbw.out (Nat.le_refl _)).mid (p + r2) r1) ?_ (by omega)
        · show _ = _; rw [List.length_take, List.length_drop, ← HN.out]; omega
        · intro h0
          have : a = none := by cases a with | none => rfl | some _ => simp at h0
          have := (HZ.out this).1
          omega
      clear hr hat
      go_wp2_with fail
      refine H1.out.mono ?_
      rintro e w' ⟨rfl, rfl⟩
      clear H1
      go_wp2_with fail
      refine H2.out.mono ?_
      rintro e w2 ⟨a', k', cap', rfl, hrow, hb2⟩
      have hR2 : Rws (fun k => w.heap.size ≤ k) w2 u4 rs := hrw.out.below hb2 (Nat.le_refl _)
      have hU : Slc (fun k => w.heap.size ≤ k ∧ u4.ownBlock ≠ some k) w2 (.slice a' k' cap') ((l.drop (p + r2)).take r1) := Slc.of_row hrow fun g hg => ⟨by have := (hrow.lt g hg).1; have := hbw.out.size; omega, fun e => by have := (hrow.lt g hg).1; have := hrw.out.lt g e; omega⟩
      have HB2 : Hid (Below w.heap.size w w2 ∧ w.heap.size ≤ w2.heap.size) := ⟨hbw.out.trans (hb2.mono hbw.out.size), Nat.le_trans hbw.out.size hb2.size⟩
      have HLn : Hid (rs.length + 1 ≤ 1000000000000) := by
        have h1 := recs_count l
        have h2 := HS.out.recs
        have h3 := congrArg List.length h2
        simp only [List.length_append, List.length_singleton] at h3
        have h4 := HN.out
        show _ ≤ _
        omega
      have HO : Hid (∀ g, u4.ownBlock = some g → w.heap.size ≤ g) := by
        obtain ⟨us, _, h2, _⟩ := hrw.out; exact h2
      clear hrow hb2 hrw hbw hsl H2
      go_wp2_with (at_builtin; refine wpList_row1 rfl (.tmp 20) (.tmp 26) rfl (fun k => w.heap.size ≤ k) u4 (.slice a' k' cap') rs _ rfl w2 hR2 hU rfl HLn.out ?_; intro v3 w3 hr3 hg3 hat3)
      have HR3 : Hid (Rws (fun k => w.heap.size ≤ k) w3 v3 (rs ++ [(l.drop (p + r2)).take r1])) := hr3.mono fun k hk => by have := HB2.out.2; rcases hk with hk | hk <;> omega
      have HB3 : Hid (Below w.heap.size w w3) := HB2.out.1.grown hg3 HB2.out.2 (fun k hk => HO.out k hk)
      clear hr3 hg3 hat3 hR2 hU HB2 HO
      go_wp2
      go_roundw
      case rel => exact ⟨_, p + r2 + r1, by go_num, by omega, HS, HR3, HB3⟩
      case measure => simp [intOf]; omega
    · have hw' : whole (l.drop p) = false := by simpa using hw
      have H1 : Hid (Calls _ _ _ _ _) := recordAt_no a l cap n p wr HN.out (HL.out.below hbw.out (Nat.le_refl _)) (by omega) hlc hpn hw'
      have HE : Hid (recs l = rs ∧ ends l = p) := hat.out.stop hw'
      clear hw hw' hat
      go_wp2_with fail
      refine H1.out.mono ?_
      rintro e w' ⟨rfl, rfl⟩
      clear H1
      go_wp2
      go_ret2
      exact ⟨u4, by rw [HE.out.2]; rfl, by rw [HE.out.1]; exact hrw.out, hbw.out⟩
end Go.Proofs.Ytfcnbdnmnmihjaa
