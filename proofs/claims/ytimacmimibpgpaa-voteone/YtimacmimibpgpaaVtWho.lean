/-
  The contracts of Who and Count, of Quorum and Faults.
-/
import Derived.Test.YtimacmimibpgpaaVtSort
namespace Go.Proofs.Ytimacmimibpgpaa.Vote
open Go.RowKit

/-- What is asked of votes that a call is handed. -/
structure VGiven (w : World) (a : Option Addr) (n : Nat) (l : List Vt) : Prop where
  len : n = l.length
  lies : LiesV w a l
  ok : ∀ v ∈ l, VOk v
  few : n ≤ 1000000

theorem VGiven.below {w w' : World} {a : Option Addr} {n : Nat} {l : List Vt} (h : VGiven w a n l) (hb : Below w.heap.size w w') : VGiven w' a n l := ⟨h.len, h.lies.below hb, h.ok, h.few⟩

theorem ne_text {a b : ByteArray} (h : a ≠ b) : (a.toList == b.toList) = false := by rw [str_eq, decide_eq_false h]

set_option maxHeartbeats 400000 in
set_option maxRecDepth 100000 in
theorem who_any (a : Option Addr) (n cap : Nat) (l : List Vt) (t : ByteArray) (w : World) (h : VGiven w a n l) :
    Calls Try.prog 8 #[.slice a n cap, .string t] w fun e w' => ∃ v, e = .returned v ∧ Ints w.heap.size v (who l t) w w' := by
  have HG : Hid (VGiven w a n l) := h
  have hnm := h.few
  clear h
  go_enter Try.func8, Try.ntmps8
  go_wp2
  go_loopw [5, 7, 10] (fun t5 _ t10 wr => ∃ (i : Nat) (v5 : Value), v5 = t5 ∧ t10 = .int .i64 (i : Int) ∧ i ≤ n ∧ Hid (Ints w.heap.size v5 (saying (l.take i) t) w wr)) (fun _ _ t10 _ => n - (intOf t10).toNat)
  case atStart => exact ⟨0, _, rfl, rfl, Nat.zero_le _, Ints.nil w⟩
  case round =>
    obtain ⟨i, v5, rfl, rfl, hi, HI⟩ := hrel
    by_cases hin : i < n
    · obtain ⟨x, hx, h0, h1⟩ := (HG.out.lies.below HI.out.2.1).at (j := i) (by rw [← HG.out.len]; exact hin)
      subst hx
      have HT : Hid (saying (l.take (i + 1)) t = if (vtAt l i).2 = t then saying (l.take i) t ++ [(vtAt l i).1] else saying (l.take i) t) := by
        show saying (l.take (i + 1)) t = _
        rw [take_snoc (by rw [← HG.out.len]; exact hin), saying_snoc]
      have HLn : Hid ((saying (l.take i) t).length ≤ 1000000) := by
        have := HG.out.len
        have h2 : (saying (l.take i) t).length ≤ (l.take i).length := by unfold saying; rw [List.length_map]; exact List.length_filter_le _ _
        rw [List.length_take] at h2
        show _ ≤ _
        omega
      generalize vtAt l i = v at h0 h1 HT
      obtain ⟨f, s⟩ := v
      simp only at h0 h1 HT
      have hix := index_vote x n cap i hin
      generalize x.add (i * 2) = q at h0 h1 hix
      have hld := load_vote q (.int .i64 f) (.string s) wr h0 h1
      have hB : Hid (Ints w.heap.size v5 (saying (l.take i) t) w (wr.alloc (.cells #[.int .i64 f, .string s] 31))) := HI.out.alloc _
      by_cases hst : s = t
      · have hd : (s.toList == t.toList) = true := by rw [str_eq, decide_eq_true hst]
        have HT2 : Hid (saying (l.take (i + 1)) t = saying (l.take i) t ++ [f]) := by show _ = _; rw [HT.out, if_pos hst]
        clear hst HT
        have hB2 := HI.out.alloc (.cells #[.int .i64 f, .string s] 31)
        have hr := HLn.out
        generalize saying (l.take i) t = r at hB2 hr HT2
        clear HI hB HLn
        go_wp2_with (at_builtin; refine wpList_int rfl (.tmp 18) (.tmp 21) rfl w.heap.size v5 r rfl w _ f hB2 _ rfl (by simp) (by omega) ?_; intro v' w' hv')
        go_roundw
        case rel => exact ⟨i + 1, _, rfl, by go_num, by omega, by show Ints _ _ _ _ _; rw [HT2.out]; exact hv'⟩
        case measure => simp [intOf]; omega
      · have hd := ne_text hst
        have HT2 : Hid (saying (l.take (i + 1)) t = saying (l.take i) t) := by show _ = _; rw [HT.out, if_neg hst]
        clear hst HT
        go_wp2
        go_roundw
        case rel => exact ⟨i + 1, _, rfl, by go_num, by omega, by show Ints _ _ _ _ _; rw [HT2.out]; exact hB.out⟩
        case measure => simp [intOf]; omega
    · have HT : Hid (saying (l.take i) t = saying l t) := by show _ = _; rw [List.take_of_length_le (by rw [← HG.out.len]; omega)]
      have hI : Ints w.heap.size v5 (saying l t) w wr := by rw [← HT.out]; exact HI.out
      have HLn : Hid ((saying l t).length ≤ 1000000) := by
        have := HG.out.len
        have h2 : (saying l t).length ≤ l.length := by unfold saying; rw [List.length_map]; exact List.length_filter_le _ _
        show _ ≤ _
        omega
      have HS : Hid (Calls _ _ _ _ _) := sort_any hI (by have := HLn.out; omega)
      clear hI HI HT
      go_wp2_with fail
      refine HS.out.mono ?_
      rintro e w1 ⟨rfl, hs1⟩
      have HC : Hid (Calls _ _ _ _ _) := compact_any hs1 (by rw [len_sorted]; have := HLn.out; omega)
      clear hs1 HS
      go_wp2_with fail
      refine HC.out.mono ?_
      rintro e w2 ⟨v2, rfl, hs2⟩
      rw [single_sorted] at hs2
      go_wp2
      go_ret
      exact ⟨_, rfl, hs2⟩

theorem count_any (a : Option Addr) (n cap : Nat) (l : List Vt) (t : ByteArray) (w : World) (h : VGiven w a n l) :
    Calls Try.prog 10 #[.slice a n cap, .string t] w fun e w' => e = .returned (.int .i64 (cnt l t : Int)) ∧ Below w.heap.size w w' := by
  have HW : Hid (Calls _ _ _ _ _) := who_any a n cap l t w h
  obtain ⟨m, hm⟩ : ∃ m, m = cnt l t := ⟨_, rfl⟩
  have HM : Hid (m = (who l t).length) := hm
  rw [← hm]
  clear h hm
  go_enter Try.func10, Try.ntmps10
  go_wp2_with fail
  refine HW.out.mono ?_
  rintro e w1 ⟨v, rfl, hv⟩
  obtain ⟨b, c, rfl, _, _, _⟩ := hv.liesN HM.out
  have HB : Hid (Below w.heap.size w w1) := hv.2.1
  clear hv
  go_wp2
  go_ret
  exact ⟨rfl, HB.out⟩

/-- How many are enough. -/
def quorum (f : Int) : Int := if 0 ≤ f ∧ f ≤ 4 then 2 * f + 1 else 0
theorem quorum_any (f : Int) (w : World) : Calls Try.prog 12 #[.int .i64 f] w fun e w' => e = .returned (.int .i64 (quorum f)) ∧ w' = w := by
  by_cases h0 : f < 0
  · have hq : quorum f = 0 := if_neg (by omega)
    rw [hq]
    go_enter Try.func12, Try.ntmps12
    go_wp2
    go_ret
    exact ⟨rfl, rfl⟩
  · by_cases h4 : 4 < f
    · have hq : quorum f = 0 := if_neg (by omega)
      rw [hq]
      go_enter Try.func12, Try.ntmps12
      go_wp2
      go_ret
      exact ⟨rfl, rfl⟩
    · have hq : quorum f = 2 * f + 1 := if_pos (by omega)
      rw [hq]
      go_enter Try.func12, Try.ntmps12
      go_wp2
      go_ret
      exact ⟨by go_num, rfl⟩

theorem wf_bound {n : Int} (h : (Lit.int .i64 n).wf = true) : -9223372036854775808 ≤ n ∧ n ≤ 9223372036854775807 := by
  unfold Lit.wf at h
  rw [Bool.and_eq_true, decide_eq_true_eq, decide_eq_true_eq] at h
  exact h
/-- How many may be faulty. -/
def faults (n : Int) : Int := if n < 1 then 0 else (n - 1) / 3
theorem faults_any (n : Int) (w : World) (hn : (Lit.int .i64 n).wf = true) : Calls Try.prog 13 #[.int .i64 n] w fun e w' => e = .returned (.int .i64 (faults n)) ∧ w' = w := by
  by_cases h0 : n < 1
  · have hq : faults n = 0 := if_pos h0
    rw [hq]
    go_enter Try.func13, Try.ntmps13
    go_wp2
    go_ret
    exact ⟨rfl, rfl⟩
  · have hq : faults n = (n - 1) / 3 := if_neg h0
    rw [hq]
    have hw : n ≤ 9223372036854775807 := by
      have := wf_bound hn
      omega
    go_enter Try.func13, Try.ntmps13
    go_wp2
    go_ret
    exact ⟨by go_num, rfl⟩
end Go.Proofs.Ytimacmimibpgpaa.Vote
