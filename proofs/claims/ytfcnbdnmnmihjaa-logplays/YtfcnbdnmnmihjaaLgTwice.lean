/-
  The walk of LogTwice.
-/
import Derived.Test.YtfcnbdnmnmihjaaLgSame
namespace Go.Proofs.Ytfcnbdnmnmihjaa
open Go.RowKit

/-- A log that was opened, and that no call turns any more. -/
def Old (w : World) (lg : Nat) (rs : List (List UInt8)) : Prop := ∃ L tp torn rv, LogAt L w lg tp rs torn rv ∧ (∀ k, L k → k < w.heap.size) ∧ rs.length ≤ 1048576 ∧ ∀ b ∈ rs, b.length ≤ 65536

theorem Old.later {w w' : World} {lg : Nat} {rs : List (List UInt8)} (h : Old w lg rs) (hb : Below w.heap.size w w') : Old w' lg rs := by
  obtain ⟨L, tp, torn, rv, h1, h2, h3⟩ := h
  exact ⟨L, tp, torn, rv, h1.keep fun k hk => hb.block k (h2 k hk), fun k hk => Nat.lt_of_lt_of_le (h2 k hk) hb.size, h3⟩

theorem LogSt.old {W0 w : World} {tp sy lg : Nat} {l : List UInt8} {r rv : Option Nat} {rs : List (List UInt8)} {t : Bool} {X : Nat → Prop} (h : LogSt W0 w tp l sy r lg rs t rv X) (hn : rs.length ≤ 1048576) (hg : ∀ b ∈ rs, b.length ≤ 65536) : Old w lg rs := by
  obtain ⟨_, L, h1, h2, _⟩ := h
  exact ⟨L, tp, t, rv, h1, fun k hk => (h2 k hk).2.1, hn, hg⟩
/-- .. and behind another log's opening. -/
theorem LogSt.old_open {W0 w w' : World} {tp sy lg : Nat} {l : List UInt8} {r rv : Option Nat} {rs : List (List UInt8)} {t : Bool} {M' X : Nat → Prop} (h : LogSt W0 w tp l sy r lg rs t rv X) (hn : rs.length ≤ 1048576) (hg : ∀ b ∈ rs, b.length ≤ 65536) (ht : Turn (MT tp r) M' w w') : Old w' lg rs := by
  obtain ⟨_, L, h1, h2, _⟩ := h
  exact ⟨L, tp, t, rv, h1.keep fun k hk => ht.kept (h2 k hk).2, fun k hk => (ht.off (h2 k hk).2).1, hn, hg⟩

/-- Records of it. -/
theorem records_old {w : World} {lg : Nat} {rs : List (List UInt8)} (h : Old w lg rs) :
    Calls Try.prog 17 #[.pointer (some ⟨lg, 0, none⟩)] w fun e w' => ∃ a k cap, e = .returned (.slice a k cap) ∧ Hid (k = rs.length) ∧ Hid (SRows (fun _ => True) w' a rs) ∧ Below w.heap.size w w' ∧ Hid (Outs w.heap.size w' (.slice a k cap) rs) := by
  obtain ⟨L, tp, torn, rv, h1, h2, h3, h4⟩ := h
  refine (records_any h1 h3 h4).mono ?_
  rintro e w' ⟨v, rfl, ho, hb⟩
  obtain ⟨a, k, cap, rfl, hk, _, _, hs, _⟩ := ho.rws.form
  exact ⟨a, k, cap, rfl, hk, hs.mono fun _ _ => trivial, hb, ho⟩

/-- 'same' of two such answers. -/
theorem same_two {w : World} {a1 a2 : Option Addr} {n m cap1 cap2 : Nat} {rs : List (List UInt8)} (hn : Hid (n = rs.length)) (hm : Hid (m = rs.length)) (h1 : SRows (fun _ => True) w a1 rs) (h2 : SRows (fun _ => True) w a2 rs) (hr : rs.length ≤ 1048576) :
    Calls Try.prog 16 #[.slice a1 n cap1, .slice a2 m cap2] w fun e w' => e = .returned (.bool true) ∧ Below w.heap.size w w' := by
  have e : m = n := hm.out.trans hn.out.symm
  subst e
  exact same_yes hn h1 h2 (by rw [hn.out]; omega)

theorem good_len {l : List UInt8} : ∀ b ∈ recs l, b.length ≤ 65536 := fun b hb => (recs_good l b hb).2

set_option maxHeartbeats 4000000 in
theorem logTwice_core (a0 : Option Addr) (l : List UInt8) (k0 c0 : Nat) (w : World) (hk : Hid (k0 = l.length)) (hl : Lies w a0 l) (hkc : k0 ≤ c0) (hcm : c0 ≤ maxLen) (hnil : a0 = none → k0 = 0 ∧ c0 = 0) (h5 : k0 ≤ 5000) :
    Calls Try.prog 6 #[.slice a0 k0 c0] w fun e w' => e = .returned (.bool true) ∧ Below w.heap.size w w' := by
  have HL : Hid (Lies w a0 l) := hl
  have HC : Hid (k0 ≤ c0 ∧ c0 ≤ maxLen) := ⟨hkc, hcm⟩
  have HZ : Hid (a0 = none → k0 = 0 ∧ c0 = 0) := hnil
  have HLl : Hid (l.length ≤ 5000) := by show _ ≤ _; rw [← hk.out]; exact h5
  clear hl hkc hcm hnil
  go_enter Try.func6, Try.ntmps6
  go_wp2_with fail
  refine (up_any w).mono ?_
  rintro e w1 ⟨rfl, hb1⟩
  have H1 : Hid (Calls _ _ _ _ _) := new_st w w1 hb1
  clear hb1
  go_wp2_with fail
  refine H1.out.mono ?_
  rintro e w2 ⟨tp, rfl, h2, _, _⟩
  have H2 : Hid (Calls _ _ _ _ _) := append_st h2 hk (HL.out.below h2.2 (Nat.le_refl _)) HZ.out (by have := HLl.out; simp; omega)
  clear h2 H1
  go_wp2_with fail
  refine H2.out.mono ?_
  rintro e w3 ⟨rfl, r3, h3, _⟩
  rw [List.nil_append] at h3
  have H3 : Hid (Calls _ _ _ _ _) := open_st h3
  clear h3 H2
  go_wp2_with fail
  refine H3.out.mono ?_
  rintro e w4 ⟨lg4, rv4, rfl, h4, _⟩
  have H4 : Hid (LogSt _ _ _ _ _ _ _ _ _ _) := h4
  have H4b : Hid (Calls _ _ _ _ _) := bytes_st h4.1
  clear h4 H3
  go_wp2_with fail
  refine H4b.out.mono ?_
  rintro e w5 ⟨a5, k5, cap5, rfl, _, _, hb5, h5', hc5⟩
  obtain ⟨A, hA⟩ : ∃ A : ByteArray, A = ⟨(laid (recs l)).toArray⟩ := ⟨_, rfl⟩
  have HA : Hid (A = ⟨(laid (recs l)).toArray⟩) := hA
  rw [← hA] at hc5
  have H5 : Hid (LogSt _ _ _ _ _ _ _ _ _ _) := H4.out.later hb5
  have H5o : Hid (Calls _ _ _ _ _) := open_st h5'
  clear hA h5' hb5 H4 H4b
  go_wp2_with fail
  refine H5o.out.mono ?_
  rintro e w6 ⟨lg6, rv6, rfl, h6, ht6⟩
  have er : recs (laid (recs l)) = recs l := recs_back (recs_good l)
  rw [er] at h6
  have hcnt : (recs l).length ≤ 1048576 := by have := recs_count l; have := HLl.out; omega
  have H6x : Hid (Old w6 lg4 (recs l)) := H5.out.old_open hcnt good_len ht6
  have H6y : Hid (Old w6 lg6 (recs l)) := h6.old hcnt good_len
  have H6 : Hid (Calls _ _ _ _ _) := bytes_st h6.1
  have HR : Hid ((recs l).length ≤ 1048576) := hcnt
  clear h6 ht6 H5 H5o hc5 er hcnt
  go_wp2_with fail
  refine H6.out.mono ?_
  rintro e w7 ⟨a7, k7, cap7, rfl, _, _, hb7, h7, hc7⟩
  rw [← HA.out] at hc7
  have hAs : A.size ≤ k0 := by rw [HA.out, hk.out]; exact ends_le l
  have hsl : ∀ W, (Instr.slice 31 (.slice a0 k0 c0) none (some (.int .i64 (A.size : Int))) none).run Try.prog W = .ok (.slice a0 A.size c0) W := fun W => slice_head hAs HC.out.1 HC.out.2 HZ.out _ rfl
  have hcv : (convert 31 9 (.slice a0 A.size c0)).run Try.prog w7 = .ok (.string A) w7 := by
    have e1 : A.size = (laid (recs l)).length := by rw [HA.out]; rfl
    have hlw : Lies w7 a0 (laid (recs l)) := by rw [← take_ends]; exact (HL.out.below h7.2 (Nat.le_refl _)).take _
    exact conv_named hlw e1 HA.out
  have HE : Hid (Below w.heap.size w w7) := h7.2
  have H7x : Hid (Old w7 lg4 (recs l)) := H6x.out.later hb7
  have H7y : Hid (Old w7 lg6 (recs l)) := H6y.out.later hb7
  have H7 : Hid (Calls _ _ _ _ _) := records_old H7x.out
  clear h7 hb7 H6 H6x H6y
  go_wp2_with fail
  refine H7.out.mono ?_
  rintro e w8 ⟨a8, k8, cap8, rfl, hk8, hs8, hb8, _⟩
  have H8y : Hid (Old w8 lg6 (recs l)) := H7y.out.later hb8
  have H8 : Hid (Calls _ _ _ _ _) := records_old H8y.out
  have HE8 : Hid (Below w.heap.size w w8) := HE.out.trans (hb8.mono HE.out.size)
  clear hb8 H7 H7x H7y hcv hc7 hsl HE
  go_wp2_with fail
  refine H8.out.mono ?_
  rintro e w9 ⟨a9, k9, cap9, rfl, hk9, hs9, hb9, _⟩
  have H9 : Hid (Calls _ _ _ _ _) := same_two (cap1 := cap8) (cap2 := cap9) hk8 hk9 (hs8.out.below hb9 (Nat.le_refl _)) hs9.out HR.out
  have HE9 : Hid (Below w.heap.size w w9) := HE8.out.trans (hb9.mono HE8.out.size)
  clear hb9 H8 H8y HE8
  go_wp2_with fail
  refine H9.out.mono ?_
  rintro e w10 ⟨rfl, hb10⟩
  have HE10 : Hid (Below w.heap.size w w10) := HE9.out.trans (hb10.mono HE9.out.size)
  clear hb10 H9
  go_wp2
  go_ret
  exact ⟨rfl, HE10.out⟩

set_option maxHeartbeats 400000 in
theorem logTwice_far (a0 : Option Addr) (k0 c0 : Nat) (w : World) (h : 5000 < k0) :
    Calls Try.prog 6 #[.slice a0 k0 c0] w fun e w' => e = .returned (.bool true) ∧ Below w.heap.size w w' := by
  go_enter Try.func6, Try.ntmps6
  go_wp2_with fail
  refine (up_any w).mono ?_
  rintro e w1 ⟨rfl, hb1⟩
  go_wp2
  go_ret
  exact ⟨rfl, hb1⟩

theorem logTwice_walk (a0 : Option Addr) (l : List UInt8) (k0 c0 : Nat) (w : World) (hk : Hid (k0 = l.length)) (hl : Lies w a0 l) (hkc : k0 ≤ c0) (hcm : c0 ≤ maxLen) (hnil : a0 = none → k0 = 0 ∧ c0 = 0) :
    Calls Try.prog 6 #[.slice a0 k0 c0] w fun e w' => e = .returned (.bool true) ∧ Below w.heap.size w w' := by
  by_cases h : 5000 < k0
  · exact logTwice_far a0 k0 c0 w h
  · exact logTwice_core a0 l k0 c0 w hk hl hkc hcm hnil (by omega)
end Go.Proofs.Ytfcnbdnmnmihjaa
