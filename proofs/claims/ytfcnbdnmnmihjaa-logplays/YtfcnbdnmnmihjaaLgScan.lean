/-
  The contract of the law's own 'scan'.
-/
import Derived.Test.YtfcnbdnmnmihjaaLgRef
namespace Go.Proofs.Ytfcnbdnmnmihjaa
open Go.RowKit

set_option maxHeartbeats 2000000 in
theorem scan_any (a : Option Addr) (l : List UInt8) (cap n : Nat) (w : World) (hn : n = l.length) (hl : Lies w a l) (hlen : n ≤ 1048576) (hlc : n ≤ cap) (hcm : cap ≤ maxLen) (hnil : a = none → n = 0 ∧ cap = 0) (K : Nat → Prop) (hK : ∀ x, a = some x → l = [] ∨ K x.block) :
    Calls Try.prog 14 #[.slice a n cap] w fun e w' => ∃ v, e = .returned (.tuple #[v, .int .i64 (ends l : Int)]) ∧ Rws (fun k => (K k ∧ k < w.heap.size) ∨ w.heap.size ≤ k) w' v (recs l) ∧ Below w.heap.size w w' := by
  have HN : Hid (n = l.length) := hn
  have HL : Hid (Lies w a l) := hl
  have HC : Hid (cap ≤ maxLen) := hcm
  have HZ : Hid (a = none → n = 0 ∧ cap = 0) := hnil
  have HK : Hid (∀ x, a = some x → l = [] ∨ K x.block) := hK
  clear hn hl hcm hnil hK
  go_enter Try.func14, Try.ntmps14
  go_wp2
  go_loopw [4, 5] (fun s t wr => ∃ (rs : List (List UInt8)) (p : Nat), t = .int .i64 p ∧ p ≤ n ∧ Hid (At l rs p) ∧ Hid (Rws (fun k => (K k ∧ k < w.heap.size) ∨ w.heap.size ≤ k) wr s rs) ∧ Hid (∀ g, s.ownBlock = some g → w.heap.size ≤ g) ∧ Hid (Below w.heap.size w wr)) (fun _ t _ => n - (intOf t).toNat)
  case atStart => exact ⟨[], 0, rfl, Nat.zero_le _, At.zero l, Rws.nil _ _, fun g hg => by simp [Value.ownBlock] at hg, Below.refl _ _⟩
  case round =>
    obtain ⟨rs, p, rfl, hpn, hat, hrw, hog, hbw⟩ := hrel
    by_cases hlt : p < n
    · obtain ⟨r1, hr1⟩ : ∃ r1, r1 = (rd 0 0 (l.drop p)).1 := ⟨_, rfl⟩
      obtain ⟨r2, hr2⟩ : ∃ r2, r2 = (rd 0 0 (l.drop p)).2 := ⟨_, rfl⟩
      have hr : rd 0 0 (l.drop p) = (r1, r2) := by rw [hr1, hr2]
      have H1 : Hid (Calls Try.prog 25 #[.slice a n cap, .int .i64 (p : Int)] wr fun e w' => e = .returned (.tuple #[.int .u64 (r1 : Int), .int .i64 (r2 : Int)]) ∧ Below wr.heap.size wr w') := by
        have := refGet_any a l cap n p wr HN.out (HL.out.below hbw.out (Nat.le_refl _)) hlen hlc HC.out hlt
        rw [← hr1, ← hr2] at this
        exact this
      have hr64 : r1 < 18446744073709551616 := by
        by_cases h0 : (rd 0 0 (l.drop p)).2 = 0
        · have := rd_zero _ _ _ h0
          rw [this] at hr
          simp only [Prod.mk.injEq] at hr
          omega
        · rw [hr1]; exact (rd_written _ h0).1
      have hr2n : r2 ≤ n - p := by
        have := rd_le (l.drop p) 0 0
        rw [hr, List.length_drop, ← HN.out] at this
        simpa using this
      clear hr1 hr2
      by_cases hw : whole (l.drop p) = true
      · simp only [whole, hr, decide_eq_true_eq, List.length_drop] at hw
        rw [← HN.out] at hw
        obtain ⟨g1, g2, g3, g4⟩ := hw
        have HS : Hid (At l (rs ++ [(l.drop (p + r2)).take r1]) (p + r2 + r1)) := hat.out.step hr g1 g2 g3 (by rw [← HN.out]; omega)
        have hz : ((r2 : Int) == 0) = false := by simp; omega
        have hsl : ∀ W, (Instr.slice 31 (.slice a n cap) (some (.int .i64 ((p : Int) + (r2 : Int)))) (some (.int .i64 ((p : Int) + (r2 : Int) + (r1 : Int)))) none).run Try.prog W = .ok (.slice (a.map (·.add (p + r2))) r1 (cap - (p + r2))) W := fun W => by
          rw [slice_mid (p := p + r2) (q := p + r2 + r1) (by omega) (by omega) hlc HC.out _ _ (by omega) (by omega), show p + r2 + r1 - (p + r2) = r1 by omega]
        have HLn : Hid (rs.length + 1 ≤ 1000000000000) := by
          have h1 := recs_count l
          have h3 := congrArg List.length HS.out.recs
          simp only [List.length_append, List.length_singleton] at h3
          have h4 := HN.out
          show _ ≤ _
          omega
        have HU : Hid (∀ W, Below w.heap.size w W → Slc (fun k => ((K k ∧ k < w.heap.size) ∨ w.heap.size ≤ k) ∧ u4.ownBlock ≠ some k) W (.slice (a.map (·.add (p + r2))) r1 (cap - (p + r2))) ((l.drop (p + r2)).take r1)) := by
          intro W hW
          refine ⟨_, _, _, rfl, ?_, by omega, by have := HC.out; omega, (HL.out.below hW (Nat.le_refl _)).mid (p + r2) r1, ?_, ?_⟩
          · show _ = _; rw [List.length_take, List.length_drop, ← HN.out]; omega
          · intro h0
            have : a = none := by cases a with | none => rfl | some _ => simp at h0
            have := (HZ.out this).1
            omega
          · intro y hy
            cases a with
            | none => simp at hy
            | some x =>
              simp only [Option.map_some, Option.some.injEq] at hy
              subst hy
              have hblk : x.block < w.heap.size := by
                rcases HL.out.lt with h0 | h0
                · have := HN.out; rw [h0] at this; simp at this; omega
                · exact h0
              rcases HK.out x rfl with h0 | h0
              · have := HN.out; rw [h0] at this; simp at this; omega
              · exact .inr (by rw [addr_add_block]; exact ⟨.inl ⟨h0, hblk⟩, fun e => by have := hog.out _ e; omega⟩)
        clear hr hat
        go_wp2_with fail
        refine H1.out.mono ?_
        rintro e w2 ⟨rfl, hb2⟩
        have hR2 : Rws (fun k => (K k ∧ k < w.heap.size) ∨ w.heap.size ≤ k) w2 u4 rs := hrw.out.below hb2 (Nat.le_refl _)
        have hbw2 : Below w.heap.size w w2 := hbw.out.trans (hb2.mono hbw.out.size)
        have hU := HU.out w2 hbw2
        have HB2 : Hid (Below w.heap.size w w2) := hbw2
        clear H1 hb2 hbw2 hrw hbw HU
        go_wp2_with (at_builtin; refine wpList_row1 rfl (.tmp 41) (.tmp 53) rfl (fun k => (K k ∧ k < w.heap.size) ∨ w.heap.size ≤ k) u4 (.slice (a.map (·.add (p + r2))) r1 (cap - (p + r2))) rs _ rfl w2 hR2 hU rfl HLn.out ?_; intro v3 w3 hr3 hg3 hat3)
        have HR3 : Hid (Rws (fun k => (K k ∧ k < w.heap.size) ∨ w.heap.size ≤ k) w3 v3 (rs ++ [(l.drop (p + r2)).take r1])) := hr3.mono fun k hk => by have := HB2.out.size; rcases hk with hk | hk; exact hk; exact .inr (by omega)
        have HB3 : Hid (Below w.heap.size w w3) := HB2.out.grown hg3 HB2.out.size (fun k hk => hog.out k hk)
        have HO3 : Hid (∀ g, v3.ownBlock = some g → w.heap.size ≤ g) := fun g hg => by
          rcases hat3 with e | e
          · exact hog.out g (by rw [← e]; exact hg)
          · rw [e] at hg; simp only [Option.some.injEq] at hg; have := HB2.out.size; omega
        clear hr3 hg3 hat3 hR2 hU HB2 hog
        go_wp2
        go_roundw
        case rel => exact ⟨_, p + r2 + r1, by go_num, by omega, HS, HR3, HO3, HB3⟩
        case measure => simp [intOf]; omega
      · have hw' : whole (l.drop p) = false := by simpa using hw
        have HE : Hid (recs l = rs ∧ ends l = p) := hat.out.stop hw'
        simp only [whole, hr, decide_eq_false_iff_not, List.length_drop] at hw'
        rw [← HN.out] at hw'
        have hcs : r2 = 0 ∨ (0 < r2 ∧ r1 < 1) ∨ (0 < r2 ∧ 1 ≤ r1 ∧ 65536 < r1) ∨ (0 < r2 ∧ 1 ≤ r1 ∧ r1 ≤ 65536 ∧ n - p - r2 < r1) := by omega
        clear hw hw' hat hr
        rcases hcs with rfl | ⟨g1, g2⟩ | ⟨g1, g2, g3⟩ | ⟨g1, g2, g3, g4⟩
        all_goals
          try (have hz : ((r2 : Int) == 0) = false := by simp; omega)
          go_wp2_with fail
          refine H1.out.mono ?_
          rintro e w2 ⟨rfl, hb2⟩
          have HB2 : Hid (Below w.heap.size w w2) := hbw.out.trans (hb2.mono hbw.out.size)
          have HR2 : Hid (Rws (fun k => (K k ∧ k < w.heap.size) ∨ w.heap.size ≤ k) w2 u4 rs) := hrw.out.below hb2 (Nat.le_refl _)
          clear H1 hb2 hbw hrw hog
          go_wp2
          go_ret2
          exact ⟨u4, by rw [HE.out.2]; rfl, by rw [HE.out.1]; exact HR2.out, HB2.out⟩
    · have hpe : p = n := by omega
      have HE : Hid (recs l = rs ∧ ends l = p) := hat.out.stop (by rw [List.drop_of_length_le (by rw [← HN.out]; omega)]; exact whole_nil)
      clear hat hpe
      go_wp2
      go_ret2
      exact ⟨u4, by rw [HE.out.2]; rfl, by rw [HE.out.1]; exact hrw.out, hbw.out⟩
end Go.Proofs.Ytfcnbdnmnmihjaa
