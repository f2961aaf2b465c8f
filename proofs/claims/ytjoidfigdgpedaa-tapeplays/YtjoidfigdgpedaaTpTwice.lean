/-
  The walk of TapeTwice.
-/
import Derived.Test.YtjoidfigdgpedaaTpUp
import Derived.Deep.RegionHeld
namespace Go.Proofs.Ytjoidfigdgpedaa
open Go.RowKit

/-- A crash where all was synced. -/
theorem crash_all {W0 w : World} {tp : Nat} {r : Option Nat} {l : List UInt8} {n : Int} (hn : -9223372036854775808 ≤ n ∧ n ≤ 9223372036854775807) (h : St W0 w tp l l.length r) :
    Calls Try.prog 11 #[.pointer (some ⟨tp, 0, none⟩), .int .i64 n] w fun e w' => e = .returned (.tuple #[]) ∧ St W0 w' tp l l.length r ∧ Turns tp r r w w' := by
  have hs : stay l l.length n = l.length := by unfold stay; omega
  refine (crash_st hn h).mono ?_
  rintro e w' ⟨rfl, ht, hu⟩
  rw [hs, List.take_length] at ht
  exact ⟨rfl, ht, hu⟩

/-- A crash: what is left, and all of it synced. -/
theorem crash_left {W0 w : World} {tp sy : Nat} {r : Option Nat} {l : List UInt8} {n : Int} (hn : -9223372036854775808 ≤ n ∧ n ≤ 9223372036854775807) (h : St W0 w tp l sy r) :
    Calls Try.prog 11 #[.pointer (some ⟨tp, 0, none⟩), .int .i64 n] w fun e w' => e = .returned (.tuple #[]) ∧ ∃ X, Hid (X = l.take (stay l sy n)) ∧ St W0 w' tp X X.length r ∧ Turns tp r r w w' := by
  have hsl : sy ≤ l.length := by obtain ⟨⟨_, _, _, _, _, _, hs, _⟩, _⟩ := h; exact hs
  refine (crash_st hn h).mono ?_
  rintro e w' ⟨rfl, ht, hu⟩
  refine ⟨rfl, _, rfl, ?_, hu⟩
  have hl : (l.take (stay l sy n)).length = stay l sy n := by rw [List.length_take]; have := stay_le (n := n) hsl; omega
  rw [hl]; exact ht

theorem synced_st {W0 w : World} {tp : Nat} {r : Option Nat} {l : List UInt8} (h : St W0 w tp l l.length r) :
    Calls Try.prog 15 #[.pointer (some ⟨tp, 0, none⟩)] w fun e w' => e = .returned (.int .i64 ((⟨l.toArray⟩ : ByteArray).size : Int)) ∧ w' = w := by
  have := synced_any h.1
  exact this

theorem size_text (l : List UInt8) : (⟨l.toArray⟩ : ByteArray).size = l.length := rfl

set_option maxHeartbeats 4000000 in
theorem tapeTwice_core (a0 : Option Addr) (la : List UInt8) (k0 c0 : Nat) (a1 : Option Addr) (lb : List UInt8) (k1 c1 : Nat) (n m : Int) (w : World)
    (ha : Hid (k0 = la.length)) (hla : Lies w a0 la) (hna : a0 = none → k0 = 0 ∧ c0 = 0) (hb : Hid (k1 = lb.length)) (hlb : Lies w a1 lb) (hnb : a1 = none → k1 = 0 ∧ c1 = 0)
    (hn : -9223372036854775808 ≤ n ∧ n ≤ 9223372036854775807) (hm : -9223372036854775808 ≤ m ∧ m ≤ 9223372036854775807) (hk0 : k0 ≤ 2000) (hk1 : k1 ≤ 2000) :
    Calls Try.prog 6 #[.slice a0 k0 c0, .slice a1 k1 c1, .int .i64 n, .int .i64 m] w fun e w' => e = .returned (.bool true) ∧ Below w.heap.size w w' := by
  have HLA : Hid (Lies w a0 la) := hla
  have HLB : Hid (Lies w a1 lb) := hlb
  have HNA : Hid (a0 = none → k0 = 0 ∧ c0 = 0) := hna
  have HNB : Hid (a1 = none → k1 = 0 ∧ c1 = 0) := hnb
  have HN : Hid (_ ∧ _) := hn
  have HM : Hid (_ ∧ _) := hm
  clear hla hlb hna hnb hn hm
  go_enter Try.func6, Try.ntmps6
  go_wp2_with fail
  refine (up_any w).mono ?_
  rintro e w1 ⟨rfl, hb1⟩
  have H1 : Hid (Calls _ _ _ _ _) := new_st w w1 hb1
  clear hb1
  go_wp2_with fail
  refine H1.out.mono ?_
  rintro e w2 ⟨tp, rfl, h2, _, _⟩
  have H2 : Hid (Calls _ _ _ _ _) := append_st h2 ha (HLA.out.below h2.2 (Nat.le_refl _)) HNA.out (by have := ha.out; simp; omega)
  clear h2 H1
  go_wp2_with fail
  refine H2.out.mono ?_
  rintro e w3 ⟨rfl, r3, h3, _⟩
  rw [List.nil_append] at h3
  have H3 : Hid (Calls _ _ _ _ _) := sync_st h3
  clear h3 H2
  go_wp2_with fail
  refine H3.out.mono ?_
  rintro e w4 ⟨rfl, h4, _⟩
  have H4 : Hid (Calls _ _ _ _ _) := crash_all HM.out h4
  clear h4 H3
  go_wp2_with fail
  refine H4.out.mono ?_
  rintro e w5 ⟨rfl, h5, _⟩
  obtain ⟨A, hA⟩ : ∃ A : ByteArray, A = ⟨la.toArray⟩ := ⟨_, rfl⟩
  have HA : Hid (A = ⟨la.toArray⟩) := hA
  clear hA H4
  have H5 : Hid (St w w5 tp la la.length r3) := h5
  have cA : (convert 26 9 (.slice a0 k0 c0)).run Try.prog w5.drew = .ok (.string A) w5.drew := conv_named (HLA.out.below h5.2.drew (Nat.le_refl _)) ha.out HA.out
  clear h5
  have hreg : Hid (∀ W, (Below w5.heap.size w5 W ∧ (convert 26 9 (.slice a0 k0 c0)).run Try.prog W = .ok (.string A) W) → Calls Try.prog 14 #[.pointer (some ⟨tp, 0, none⟩)] W fun e w' => ∃ a k cap, e = .returned (.slice a k cap) ∧ (convert 26 9 (.slice a k cap)).run Try.prog w' = .ok (.string A) w' ∧ (Below w5.heap.size w5 w' ∧ (convert 26 9 (.slice a0 k0 c0)).run Try.prog w' = .ok (.string A) w')) := by
    rintro W ⟨hW, _⟩
    refine (bytes_st (H5.out.later hW)).mono ?_
    rintro e w' ⟨a, k, cap, rfl, _, _, hb, _, hc⟩
    have hbw : Below w5.heap.size w5 w' := hW.trans (hb.mono hW.size)
    exact ⟨a, k, cap, rfl, by rw [HA.out]; exact hc, hbw, conv_named (HLA.out.below (H5.out.2.trans (hbw.mono H5.out.2.size)) (Nat.le_refl _)) ha.out HA.out⟩
  go_wp2_with fail
  go_region_held (fun W => (Below w5.heap.size w5 W ∧ (convert 26 9 (.slice a0 k0 c0)).run Try.prog W = .ok (.string A) W)) (first | assumption | exact ⟨(Below.refl _ _).drew, cA⟩)
    (first | (go_at_call 14; refine (hreg.out _ (by assumption)).mono ?_; rintro e w6 ⟨a6, k6, cap6, rfl, hc6, hS6⟩))
  all_goals
    have h6 := H5.out.later hS6.1
    have H6 : Hid (Calls _ _ _ _ _) := append_st h6 hb (HLB.out.below h6.2 (Nat.le_refl _)) HNB.out (by have h1 := ha.out; have h2 := hb.out; omega)
    clear hS6 h6 hc6 hreg cA
    go_wp2_with fail
    refine H6.out.mono ?_
    rintro e w7 ⟨rfl, r7, h7, _⟩
    have H7 : Hid (Calls _ _ _ _ _) := crash_left HN.out h7
    clear h7 H6
    go_wp2_with fail
    refine H7.out.mono ?_
    rintro e w8 ⟨rfl, X, _, h8, _⟩
    have H8 : Hid (Calls _ _ _ _ _) := bytes_st h8
    clear h8 H7
    go_wp2_with fail
    refine H8.out.mono ?_
    rintro e w9 ⟨a9, k9, cap9, rfl, _, _, _, h9, hc9⟩
    have H9 : Hid (Calls _ _ _ _ _) := crash_all HM.out h9
    clear h9 H8
    go_wp2_with fail
    refine H9.out.mono ?_
    rintro e w10 ⟨rfl, h10, _⟩
    have H10 : Hid (Calls _ _ _ _ _) := bytes_st h10
    clear h10 H9 hc9
    go_wp2_with fail
    refine H10.out.mono ?_
    rintro e w11 ⟨a11, k11, cap11, rfl, _, _, _, h11, hc11⟩
    have H11 : Hid (Calls _ _ _ _ _) := synced_st h11
    have hE : Hid (Below w.heap.size w w11) := h11.2
    clear h11 H10
    go_wp2_with fail
    refine H11.out.mono ?_
    rintro e w12 ⟨rfl, rfl⟩
    go_wp2
    go_ret
    exact ⟨rfl, hE.out⟩

set_option maxHeartbeats 400000 in
theorem tapeTwice_far (a0 : Option Addr) (k0 c0 : Nat) (a1 : Option Addr) (k1 c1 : Nat) (n m : Int) (w : World) (h : 2000 < k0 ∨ 2000 < k1) :
    Calls Try.prog 6 #[.slice a0 k0 c0, .slice a1 k1 c1, .int .i64 n, .int .i64 m] w fun e w' => e = .returned (.bool true) ∧ Below w.heap.size w w' := by
  have h' : (2000 < k0) ∨ (k0 ≤ 2000 ∧ 2000 < k1) := by omega
  clear h
  rcases h' with h | ⟨h1, h2⟩
  all_goals
    go_enter Try.func6, Try.ntmps6
    go_wp2_with fail
    refine (up_any w).mono ?_
    rintro e w1 ⟨rfl, hb1⟩
    go_wp2
    go_ret
    exact ⟨rfl, hb1⟩

theorem tapeTwice_walk (a0 : Option Addr) (la : List UInt8) (k0 c0 : Nat) (a1 : Option Addr) (lb : List UInt8) (k1 c1 : Nat) (n m : Int) (w : World)
    (ha : Hid (k0 = la.length)) (hla : Lies w a0 la) (_ : k0 ≤ c0) (_ : c0 ≤ maxLen) (hna : a0 = none → k0 = 0 ∧ c0 = 0) (hb : Hid (k1 = lb.length)) (hlb : Lies w a1 lb) (_ : k1 ≤ c1) (_ : c1 ≤ maxLen) (hnb : a1 = none → k1 = 0 ∧ c1 = 0)
    (hn1 : -9223372036854775808 ≤ n) (hn2 : n ≤ 9223372036854775807) (hm1 : -9223372036854775808 ≤ m) (hm2 : m ≤ 9223372036854775807) :
    Calls Try.prog 6 #[.slice a0 k0 c0, .slice a1 k1 c1, .int .i64 n, .int .i64 m] w fun e w' => e = .returned (.bool true) ∧ Below w.heap.size w w' := by
  by_cases h : 2000 < k0 ∨ 2000 < k1
  · exact tapeTwice_far a0 k0 c0 a1 k1 c1 n m w h
  · exact tapeTwice_core a0 la k0 c0 a1 lb k1 c1 n m w ha hla hna hb hlb hnb ⟨hn1, hn2⟩ ⟨hm1, hm2⟩ (by omega) (by omega)
end Go.Proofs.Ytjoidfigdgpedaa
