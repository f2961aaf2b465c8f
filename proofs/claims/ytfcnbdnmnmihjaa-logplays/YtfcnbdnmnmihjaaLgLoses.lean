/-
  The walk of LogLoses.
-/
import Derived.Test.YtfcnbdnmnmihjaaLgTwice
namespace Go.Proofs.Ytfcnbdnmnmihjaa
open Go.RowKit

/-- A log of the law's own, all of whose records stand on its tape, n bytes at most. -/
def Full (W0 w : World) (tp lg : Nat) (rs : List (List UInt8)) (n : Nat) : Prop :=
  ∃ r rv, LogSt W0 w tp (laid rs) (laid rs).length r lg rs false rv ∧ (∀ b ∈ rs, Good b) ∧ (laid rs).length ≤ n

theorem Full.later {W0 w w' : World} {tp lg n : Nat} {rs : List (List UInt8)} (h : Full W0 w tp lg rs n) (hb : Below w.heap.size w w') : Full W0 w' tp lg rs n := by
  obtain ⟨r, rv, h1, h2⟩ := h; exact ⟨r, rv, h1.later hb, h2⟩
theorem Full.mono {W0 w : World} {tp lg n m : Nat} {rs : List (List UInt8)} (h : Full W0 w tp lg rs n) (hm : n ≤ m) : Full W0 w tp lg rs m := by
  obtain ⟨r, rv, h1, h2, h3⟩ := h; exact ⟨r, rv, h1, h2, Nat.le_trans h3 hm⟩
theorem Full.below {W0 w : World} {tp lg n : Nat} {rs : List (List UInt8)} (h : Full W0 w tp lg rs n) : Below W0.heap.size W0 w := by
  obtain ⟨r, rv, h1, _⟩ := h; exact h1.1.2

theorem rec1_small {b : List UInt8} (h : b.length ≤ 65536) : (rec1 b).length ≤ b.length + 3 := by
  rw [rec1_len]
  have := digs_len 2 b.length (by have : (128 : Nat) ^ (2 + 1) = 2097152 := by decide
                                  omega)
  omega

/-- Append of bytes that came in, or that lie beside. -/
theorem append_full {W0 w : World} {tp lg n k cap : Nat} {a : Option Addr} {b : List UInt8} {rs : List (List UInt8)} (h : Full W0 w tp lg rs n) (hk : Hid (k = b.length)) (hb : Lies w a b) (hnil : a = none → k = 0 ∧ cap = 0) (hoff : ∀ x, a = some x → b = [] ∨ x.block < W0.heap.size)
    (h1 : 1 ≤ k) (h2 : k ≤ 65536) (hn : n + k ≤ 1000000) :
    Calls Try.prog 15 #[.pointer (some ⟨lg, 0, none⟩), .slice a k cap] w fun e w' => e = .returned .nilIface ∧ Full W0 w' tp lg (rs ++ [b]) (n + k + 3) := by
  obtain ⟨r, rv, hs, hg, hl⟩ := h
  have hr := rec1_small (b := b) (by rw [← hk.out]; exact h2)
  have hkb := hk.out
  have hc := laid_count rs
  refine (append_log hs hk hb hnil (fun x hx => (hoff x hx).imp id fun hx => ⟨Nat.lt_of_lt_of_le hx hs.1.2.size, fun hm => by have := (hs.made _ hm).1; omega⟩) h1 h2 (by omega) (by omega)).mono ?_
  rintro e w' ⟨rfl, r', rv', h', _⟩
  refine ⟨rfl, r', rv', by rw [laid_snoc]; exact h', fun c hc => ?_, by rw [laid_snoc, List.length_append]; omega⟩
  rcases List.mem_append.1 hc with hc | hc
  · exact hg c hc
  · simp only [List.mem_singleton] at hc; subst hc; exact ⟨by omega, by omega⟩

theorem append_none {W0 w : World} {tp lg n cap : Nat} {a : Option Addr} {rs : List (List UInt8)} (h : Full W0 w tp lg rs n) :
    Calls Try.prog 15 #[.pointer (some ⟨lg, 0, none⟩), .slice a 0 cap] w fun e w' => e = .returned (.iface 50 (.int .i64 1)) ∧ w' = w := by
  obtain ⟨r, rv, ⟨_, L, hl, _⟩, _⟩ := h
  exact append_bad (write_arg hl (.inl (by omega)))

set_option maxHeartbeats 4000000 in
theorem logLoses_core (a0 : Option Addr) (rs0 : List (List UInt8)) (k0 c0 : Nat) (a1 : Option Addr) (b : List UInt8) (k1 c1 : Nat) (n : Int) (w : World)
    (hk0 : Hid (k0 = rs0.length)) (hs0 : SRows (fun k => k < w.heap.size) w a0 rs0) (hk1 : Hid (k1 = b.length)) (hl1 : Lies w a1 b) (hn1 : a1 = none → k1 = 0 ∧ c1 = 0)
    (g0 : k0 ≤ 30) (g1 : 1 ≤ k1) (g2 : k1 ≤ 2000) (g3 : 0 ≤ n) (g4 : n ≤ k1) :
    Calls Try.prog 5 #[.slice a0 k0 c0, .slice a1 k1 c1, .int .i64 n] w fun e w' => e = .returned (.bool true) ∧ Below w.heap.size w w' := by
  have HS0 : Hid (SRows (fun k => k < w.heap.size) w a0 rs0) := hs0
  have HL1 : Hid (Lies w a1 b) := hl1
  have HN1 : Hid (a1 = none → k1 = 0 ∧ c1 = 0) := hn1
  clear hs0 hl1 hn1
  go_enter Try.func5, Try.ntmps5
  go_wp2_with fail
  refine (up_any w).mono ?_
  rintro e w1 ⟨rfl, hb1⟩
  have H1 : Hid (Calls _ _ _ _ _) := new_st w w1 hb1
  clear hb1
  go_wp2_with fail
  refine H1.out.mono ?_
  rintro e w2 ⟨tp, rfl, h2, _, _⟩
  have H2 : Hid (Calls _ _ _ _ _) := open_st h2
  clear h2 H1
  go_wp2_with fail
  refine H2.out.mono ?_
  rintro e w3 ⟨lg, rv3, rfl, h3, _⟩
  have H3 : Hid (Full w w3 tp lg [] 0) := ⟨_, _, h3, by simp, Nat.le_refl _⟩
  clear h3 H2
  go_wp2
  go_loopw [11] (fun i wr => ∃ (j : Nat) (rs : List (List UInt8)), i = .int .i64 j ∧ j ≤ k0 ∧ Hid (Full w wr tp lg rs (j * 2003))) (fun i _ => k0 - (intOf i).toNat)
  case atStart => exact ⟨0, [], rfl, Nat.zero_le _, H3⟩
  case round =>
    obtain ⟨j, rs, rfl, hj, hfl⟩ := hrel
    by_cases hlt : j < k0
    · have hjr : j < rs0.length := by rw [← hk0.out]; exact hlt
      obtain ⟨x, aj, kj, cj, e1, hc1, hkj, _, _, hlj, hnj, hoj⟩ := (HS0.out.below hfl.out.below (Nat.le_refl _)).at_ j hjr
      subst e1
      have i1 := fun W => index32 x k0 c0 j hlt W
      by_cases hbig : 2000 < kj
      · have HE : Hid (Below w.heap.size w wr) := hfl.out.below
        clear hlj hnj hoj hkj hfl H3
        go_wp2
        go_ret
        exact ⟨rfl, HE.out⟩
      · by_cases hz : 1 ≤ kj
        · have HA : Hid (Calls _ _ _ _ _) := append_full hfl.out hkj hlj hnj (fun y hy => (hoj y hy)) hz (by omega) (by omega)
          clear hlj hnj hoj hkj hfl H3
          go_wp2_with fail
          refine HA.out.mono ?_
          rintro e w4 ⟨rfl, h4⟩
          have H4 : Hid (Full w w4 tp lg (rs ++ [rs0[j]]) ((j + 1) * 2003)) := h4.mono (by omega)
          clear h4 HA
          go_wp2
          go_roundw
          case rel => exact ⟨j + 1, _, by go_num, by omega, H4⟩
          case measure => simp [intOf]; omega
        · have hz0 : kj = 0 := by omega
          subst hz0
          have HA : Hid (Calls _ _ _ _ _) := append_none (cap := cj) (a := aj) hfl.out
          have HF : Hid (Full w wr tp lg rs ((j + 1) * 2003)) := hfl.out.mono (by omega)
          clear hlj hnj hoj hkj hfl H3
          go_wp2_with fail
          refine HA.out.mono ?_
          rintro e w4 ⟨rfl, rfl⟩
          clear HA
          go_wp2
          go_roundw
          case rel => exact ⟨j + 1, _, by go_num, by omega, HF⟩
          case measure => simp [intOf]; omega
    · obtain ⟨r4, rv4, h4, hg4, hm4⟩ := hfl.out
      have hm4' : (laid rs).length ≤ 60090 := by have := Nat.mul_le_mul_right 2003 (Nat.le_trans hj g0); omega
      have HG : Hid (∀ b ∈ rs, Good b) := hg4
      have HM : Hid ((laid rs).length ≤ 60090) := hm4'
      have H4 : Hid (LogSt _ _ _ _ _ _ _ _ _ _) := h4
      have H4b : Hid (Calls _ _ _ _ _) := bytes_st h4.1
      clear h4 hg4 hm4 hm4' hfl H3
      go_wp2_with fail
      refine H4b.out.mono ?_
      rintro e w5 ⟨a5, k5, cap5, rfl, _, _, hb5, h5, hc5⟩
      obtain ⟨A, hA⟩ : ∃ A : ByteArray, A = ⟨(laid rs).toArray⟩ := ⟨_, rfl⟩
      have HA : Hid (A = ⟨(laid rs).toArray⟩) := hA
      rw [← hA] at hc5
      have hrb := rec1_small (b := b) (by rw [← hk1.out]; omega)
      have H5 : Hid (Calls _ _ _ _ _) := torn_ok (n := n) (by omega) (H4.out.later hb5) rfl hk1 (HL1.out.below h5.2 (Nat.le_refl _)) HN1.out g1 (by omega) (by have := HM.out; have := hk1.out; omega)
      clear hA h5 hb5 H4 H4b hrb
      go_wp2_with fail
      refine H5.out.mono ?_
      rintro e w6 ⟨rfl, r6, h6, _⟩
      have hgb : Good b := ⟨by rw [← hk1.out]; exact g1, by rw [← hk1.out]; omega⟩
      have ht : min n.toNat (rec1 b).length < (rec1 b).length := by
        rw [rec1_len]
        have := digs_pos b.length
        have := hk1.out
        omega
      have er : recs (laid rs ++ (rec1 b).take (min n.toNat (rec1 b).length)) = rs := by
        rw [recs_laid rs _ HG.out, recs_no (whole_torn hgb ht), List.append_nil]
      have H6o := open_st h6.1
      rw [er] at H6o
      have H6c : Hid (Calls _ _ _ _ _) := H6o
      have H6 : Hid (LogSt _ _ _ _ _ _ _ _ _ _) := h6
      clear h6 H5 hc5 er ht hgb H6o
      go_wp2_with fail
      refine H6c.out.mono ?_
      rintro e w7 ⟨lg7, rv7, rfl, h7, ht7⟩
      have hcnt : rs.length ≤ 1048576 := by have := laid_count rs; have := HM.out; omega
      have hgl : ∀ b ∈ rs, b.length ≤ 65536 := fun b hb => (HG.out b hb).2
      have H7x : Hid (Old w7 lg rs) := H6.out.old_open hcnt hgl ht7
      have H7y : Hid (Old w7 lg7 rs) := h7.old hcnt hgl
      have H7 : Hid (Calls _ _ _ _ _) := bytes_st h7.1
      have HR : Hid (rs.length ≤ 1048576) := hcnt
      clear h7 ht7 H6 H6c hcnt hgl
      go_wp2_with fail
      refine H7.out.mono ?_
      rintro e w8 ⟨a8, k8, cap8, rfl, _, _, hb8, h8, hc8⟩
      rw [← HA.out] at hc8
      have HE : Hid (Below w.heap.size w w8) := h8.2
      have H8x : Hid (Old w8 lg rs) := H7x.out.later hb8
      have H8y : Hid (Old w8 lg7 rs) := H7y.out.later hb8
      have H8 : Hid (Calls _ _ _ _ _) := records_old H8y.out
      clear h8 hb8 H7 H7x H7y H8y
      go_wp2_with fail
      refine H8.out.mono ?_
      rintro e w9 ⟨a9, k9, cap9, rfl, hk9, hs9, hb9, _⟩
      have H9x : Hid (Old w9 lg rs) := H8x.out.later hb9
      have H9 : Hid (Calls _ _ _ _ _) := records_old H9x.out
      have HE9 : Hid (Below w.heap.size w w9) := HE.out.trans (hb9.mono HE.out.size)
      clear hb9 H8 H8x H9x hc8 HE
      go_wp2_with fail
      refine H9.out.mono ?_
      rintro e w10 ⟨a10, k10, cap10, rfl, hk10, hs10, hb10, _⟩
      have H10 : Hid (Calls _ _ _ _ _) := same_two (cap1 := cap9) (cap2 := cap10) hk9 hk10 (hs9.out.below hb10 (Nat.le_refl _)) hs10.out HR.out
      have HE10 : Hid (Below w.heap.size w w10) := HE9.out.trans (hb10.mono HE9.out.size)
      clear hb10 H9 HE9
      go_wp2_with fail
      refine H10.out.mono ?_
      rintro e w11 ⟨rfl, hb11⟩
      have HE11 : Hid (Below w.heap.size w w11) := HE10.out.trans (hb11.mono HE10.out.size)
      clear hb11 H10
      go_wp2
      go_ret
      exact ⟨rfl, HE11.out⟩

set_option maxHeartbeats 800000 in
theorem logLoses_far (a0 : Option Addr) (k0 c0 : Nat) (a1 : Option Addr) (k1 c1 : Nat) (n : Int) (w : World) (h : 30 < k0 ∨ k1 < 1 ∨ 2000 < k1 ∨ n < 0 ∨ (k1 : Int) < n) :
    Calls Try.prog 5 #[.slice a0 k0 c0, .slice a1 k1 c1, .int .i64 n] w fun e w' => e = .returned (.bool true) ∧ Below w.heap.size w w' := by
  have h' : 30 < k0 ∨ (k0 ≤ 30 ∧ k1 < 1) ∨ (k0 ≤ 30 ∧ 1 ≤ k1 ∧ 2000 < k1) ∨ (k0 ≤ 30 ∧ 1 ≤ k1 ∧ k1 ≤ 2000 ∧ n < 0) ∨ (k0 ≤ 30 ∧ 1 ≤ k1 ∧ k1 ≤ 2000 ∧ 0 ≤ n ∧ (k1 : Int) < n) := by omega
  clear h
  rcases h' with h | ⟨h1, h2⟩ | ⟨h1, h2, h3⟩ | ⟨h1, h2, h3, h4⟩ | ⟨h1, h2, h3, h4, h5⟩
  all_goals
    go_enter Try.func5, Try.ntmps5
    go_wp2_with fail
    refine (up_any w).mono ?_
    rintro e w1 ⟨rfl, hb1⟩
    go_wp2
    go_ret
    exact ⟨rfl, hb1⟩

theorem logLoses_walk (a0 : Option Addr) (rs0 : List (List UInt8)) (k0 c0 : Nat) (a1 : Option Addr) (b : List UInt8) (k1 c1 : Nat) (n : Int) (w : World)
    (hk0 : Hid (k0 = rs0.length)) (hs0 : SRows (fun k => k < w.heap.size) w a0 rs0) (_ : k0 ≤ c0) (_ : c0 ≤ maxLen) (_ : a0 = none → k0 = 0 ∧ c0 = 0) (hk1 : Hid (k1 = b.length)) (hl1 : Lies w a1 b) (_ : k1 ≤ c1) (_ : c1 ≤ maxLen) (hn1 : a1 = none → k1 = 0 ∧ c1 = 0)
    (_ : -9223372036854775808 ≤ n) (_ : n ≤ 9223372036854775807) :
    Calls Try.prog 5 #[.slice a0 k0 c0, .slice a1 k1 c1, .int .i64 n] w fun e w' => e = .returned (.bool true) ∧ Below w.heap.size w w' := by
  by_cases h : 30 < k0 ∨ k1 < 1 ∨ 2000 < k1 ∨ n < 0 ∨ (k1 : Int) < n
  · exact logLoses_far a0 k0 c0 a1 k1 c1 n w h
  · exact logLoses_core a0 rs0 k0 c0 a1 b k1 c1 n w hk0 hs0 hk1 hl1 hn1 (by omega) (by omega) (by omega) (by omega) (by omega)
end Go.Proofs.Ytfcnbdnmnmihjaa
