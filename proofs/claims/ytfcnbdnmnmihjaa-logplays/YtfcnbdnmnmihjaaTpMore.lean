/-
  More of a tape: crashes, what stays beside it, cuts of slices.
-/
import Derived.Test.YtfcnbdnmnmihjaaTpSt
namespace Go.Proofs.Ytfcnbdnmnmihjaa
open Go.RowKit

/-- A crash where all was synced. -/
theorem crash_all {W0 w : World} {tp : Nat} {r : Option Nat} {l : List UInt8} {n : Int} (hn : -9223372036854775808 ≤ n ∧ n ≤ 9223372036854775807) (h : St W0 w tp l l.length r) :
    Calls Try.prog 24 #[.pointer (some ⟨tp, 0, none⟩), .int .i64 n] w fun e w' => e = .returned (.tuple #[]) ∧ St W0 w' tp l l.length r ∧ Turns tp r r w w' := by
  have hs : stay l l.length n = l.length := by unfold stay; omega
  refine (crash_st hn h).mono ?_
  rintro e w' ⟨rfl, ht, hu⟩
  rw [hs, List.take_length] at ht
  exact ⟨rfl, ht, hu⟩

/-- A crash: what is left, and all of it synced. -/
theorem crash_left {W0 w : World} {tp sy : Nat} {r : Option Nat} {l : List UInt8} {n : Int} (hn : -9223372036854775808 ≤ n ∧ n ≤ 9223372036854775807) (h : St W0 w tp l sy r) :
    Calls Try.prog 24 #[.pointer (some ⟨tp, 0, none⟩), .int .i64 n] w fun e w' => e = .returned (.tuple #[]) ∧ ∃ X, Hid (X = l.take (stay l sy n)) ∧ St W0 w' tp X X.length r ∧ Turns tp r r w w' := by
  have hsl : sy ≤ l.length := by obtain ⟨⟨_, _, _, _, _, _, hs, _⟩, _⟩ := h; exact hs
  refine (crash_st hn h).mono ?_
  rintro e w' ⟨rfl, ht, hu⟩
  refine ⟨rfl, _, rfl, ?_, hu⟩
  have hl : (l.take (stay l sy n)).length = stay l sy n := by rw [List.length_take]; have := stay_le (n := n) hsl; omega
  rw [hl]; exact ht

theorem synced_st {W0 w : World} {tp : Nat} {r : Option Nat} {l : List UInt8} (h : St W0 w tp l l.length r) :
    Calls Try.prog 19 #[.pointer (some ⟨tp, 0, none⟩)] w fun e w' => e = .returned (.int .i64 ((⟨l.toArray⟩ : ByteArray).size : Int)) ∧ w' = w := by
  have := synced_any h.1
  exact this

theorem size_text (l : List UInt8) : (⟨l.toArray⟩ : ByteArray).size = l.length := rfl

theorem TapeAt.apart {B B' : Nat} {w w' : World} {tp sy : Nat} {l l' : List UInt8} {r : Option Nat} {v : Value} (h : TapeAt B w tp l sy r) (hr : Row B' w' v l') (hB : w.heap.size ≤ B') : Apart v tp r := by
  obtain ⟨u, hh, _, ho, hv, _⟩ := h
  have hlt : tp < w.heap.size := (Array.getElem?_eq_some_iff.1 hh).1
  intro k hk
  have h1 := (hr.lt k hk).1
  refine ⟨by omega, fun e => ?_⟩
  have := (ho.lt k (by rw [hv]; exact e.symm)).2
  omega

theorem Row.set {B g k cap : Nat} {yl : List UInt8} {w : World} (h : Row B w (.slice (some ⟨g, 0, none⟩) k cap) yl) (hk : k = yl.length) (j c : Nat) (hc : c < 256) :
    ∃ yl' : List UInt8, Hid (k = yl'.length) ∧ Row B (w.setCell ⟨g, j, none⟩ (.int .u8 (c : Int))) (.slice (some ⟨g, 0, none⟩) k cap) yl' := by
  refine ⟨yl.set j (UInt8.ofNat c), by show _ = _; rw [hk]; simp, ?_⟩
  have h1 : w.ownsRow B 5 1 (.slice (some ⟨g, 0, none⟩) k cap) k (bv yl) := by have h2 : World.ownsRow _ _ _ _ _ _ _ := h; rw [← hk] at h2; exact h2
  have h2 := (h1.stored j (.int .u8 (c : Int))).1
  have e : bv (yl.set j (UInt8.ofNat c)) = (bv yl).set j (.int .u8 (c : Int)) := by
    simp only [bv, List.map_set, u8_small hc]
  show World.ownsRow _ _ _ _ _ _ _
  rw [e, List.length_set, ← hk]
  exact h2

theorem slice_head {W : World} {a : Option Addr} {k cap n : Nat} (h1 : n ≤ k) (h2 : k ≤ cap) (h3 : cap ≤ maxLen) (hnil : a = none → k = 0 ∧ cap = 0) (q : Int) (hq : q = (n : Int)) :
    (Instr.slice 31 (.slice a k cap) none (some (.int .i64 q)) none).run Try.prog W = .ok (.slice a n cap) W := by
  subst hq
  unfold maxLen at h3
  have el : Try.prog.elem 31 = 5 := by kernel_rfl
  have := run_slice_h (P := Try.prog) W 31 a k cap (by kernel_rfl) .i64 (n : Int) (by omega) (by omega)
  rw [this, el, Try.sizeOf5]
  cases a with
  | none => obtain ⟨rfl, rfl⟩ := hnil rfl; obtain rfl : n = 0 := by omega
            simp [sliced, Result.andThen]
  | some x => 
    have e : x.add 0 = x := by unfold Addr.add; split <;> simp_all
    simp [sliced, Result.andThen, e]

theorem slice_tail {W0 : World} {B k cap n : Nat} {l : List UInt8} {a : Option Addr} (hr : Row B W0 (.slice a k cap) l) (hk : k = l.length) (h1 : n ≤ k) :
    ∃ a' cap', (∀ W, (Instr.slice 31 (.slice a k cap) (some (.int .i64 (n : Int))) none none).run Try.prog W = .ok (.slice a' (k - n) cap') W) ∧ Lies W0 a' (l.drop n) := by
  obtain ⟨a1, k1, cap1, hv, _, hkc, hcm, hl, hnil, hat⟩ := hr.form
  simp only [Value.slice.injEq] at hv
  obtain ⟨rfl, rfl, rfl⟩ := hv
  unfold maxLen at hcm
  have el : Try.prog.elem 31 = 5 := by kernel_rfl
  refine ⟨if cap = n then a else a.map (·.add n), cap - n, fun W => ?_, ?_⟩
  · have := run_slice_l (P := Try.prog) W 31 a k cap (by kernel_rfl) .i64 (n : Int) (by omega) (by omega)
    rw [this, el, Try.sizeOf5]
    by_cases h : cap = n
    · simp [sliced, h, Result.andThen]
    · simp [sliced, h, Result.andThen]
  · by_cases h : cap = n
    · rw [if_pos h]; exact .inl (List.eq_nil_of_length_eq_zero (by rw [List.length_drop]; omega))
    · rw [if_neg h]
      rcases hl with rfl | ⟨x, rfl, hx⟩
      · exact .inl (by simp)
      · obtain ⟨g, rfl, _⟩ := hat x rfl
        refine .inr ⟨_, rfl, fun j u hj => ?_⟩
        have := hx (n + j) u (by simpa [bv, List.getElem?_drop] using hj)
        rw [Go.WideShapes.add_plain] at this
        show W0.cell? (((⟨g, 0, none⟩ : Addr).add n).add j) = some u
        rw [Go.WideShapes.add_plain, Go.WideShapes.add_plain, Nat.add_assoc]
        exact this

/-- What a crash behind a sync and an append leaves. -/
theorem left_is {la lb X : List UInt8} {n : Int} (h : X = (la ++ lb).take (stay (la ++ lb) la.length n)) : ∃ t, t ≤ lb.length ∧ X = la ++ lb.take t := by
  refine ⟨min n.toNat lb.length, by omega, ?_⟩
  rw [h, List.take_append]
  have e1 : stay (la ++ lb) la.length n - la.length = min n.toNat lb.length := by unfold stay; simp
  have e2 : la.take (stay (la ++ lb) la.length n) = la := List.take_of_length_le (by unfold stay; omega)
  rw [e1, e2]

end Go.Proofs.Ytfcnbdnmnmihjaa
