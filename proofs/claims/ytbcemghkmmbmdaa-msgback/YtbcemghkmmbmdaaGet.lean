/-
  The contracts of what reads: wire.readNum, wire.GetNum, wire.GetText.
-/
import Derived.Test.YtbcemghkmmbmdaaBuf
namespace Go.Proofs.Ytbcemghkmmbmdaa
open Go.RowKit

theorem Lies.at {w : World} {a : Option Addr} {l : List UInt8} (h : Lies w a l) (h0 : 0 < l.length) :
    ∃ b off, a = some ⟨b, off, none⟩ ∧ ∀ j (hj : j < l.length), w.cell? ⟨b, off + j, none⟩ = some (.int .u8 ((l[j]).toNat : Int)) := by
  rcases h with rfl | ⟨x, rfl, hx⟩
  · simp at h0
  · have hc : ∀ j (hj : j < l.length), w.cell? (x.add j) = some (.int .u8 ((l[j]).toNat : Int)) := fun j hj => hx j _ (by simp [bv, List.getElem?_eq_getElem hj])
    obtain ⟨b, off, spot⟩ := x
    have hspot : spot = none := by simpa [Addr.add] using World.cell?_spot (hc 0 h0)
    subst hspot
    exact ⟨b, off, rfl, fun j hj => by rw [← Go.WideShapes.add_plain]; exact hc j hj⟩

theorem mask127 {d : Nat} (h : d < 256) : bits .and .u8 (d : Int) 127 = (d : Int) % 128 := bits_mask .u8 8 (by decide) wraps_u8 7 (by decide) d (by omega) (by omega)

set_option maxRecDepth 100000 in
theorem mask128 {d : Nat} (h : d < 256) : bits .and .u8 (d : Int) 128 = if 128 ≤ d then 128 else 0 := by
  have := (bits_nat .u8 8 (by decide) wraps_u8 d 128 (by omega) (by decide)).1
  rw [show ((128 : Nat) : Int) = 128 from rfl] at this
  rw [this]
  have hall : ∀ x : Fin 256, ((x.val &&& 128 : Nat) : Int) = if 128 ≤ x.val then 128 else 0 := by decide
  exact hall ⟨d, h⟩

theorem shl_small {d k : Nat} (hd : d < 256) (hk : k < 10) (h9 : k = 9 → d ≤ 1) : d % 128 * 2 ^ (7 * k) < 18446744073709551616 := by
  by_cases h : k = 9
  · subst h
    have h2 : (2 : Nat) ^ (7 * 9) = 9223372036854775808 := by decide
    have := h9 rfl
    rw [h2]; omega
  · have hp : 2 ^ (7 * k) ≤ 2 ^ (7 * 8) := Nat.pow_le_pow_right (by decide) (by omega)
    have h2 : (2 : Nat) ^ (7 * 8) = 72057594037927936 := by decide
    rw [h2] at hp
    have := Nat.mul_le_mul (show d % 128 ≤ 127 by omega) hp
    omega

theorem or_shl {acc d k : Nat} (hacc : acc < 2 ^ (7 * k)) (hs : d % 128 * 2 ^ (7 * k) < 18446744073709551616) (hk : k < 10) :
    bits .or .u64 (acc : Int) ((d % 128 * 2 ^ (7 * k) : Nat) : Int) = ((acc + d % 128 * 2 ^ (7 * k) : Nat) : Int) := by
  have hp : 2 ^ (7 * k) ≤ 2 ^ (7 * 9) := Nat.pow_le_pow_right (by decide) (by omega)
  have h2 : (2 : Nat) ^ (7 * 9) = 9223372036854775808 := by decide
  rw [bits_or_u64_nat acc _ (by omega) hs, Nat.or_comm, Nat.mul_comm, ← Nat.two_pow_add_eq_or_of_lt hacc, Nat.add_comm]

theorem ret_pair {p : Nat × Nat} {x k : Nat} (h : p = (x, k + 1)) : Ending.returned (.tuple #[.int .u64 (x : Int), .int .i64 ((k : Int) + 1)]) = .returned (.tuple #[.int .u64 (p.1 : Int), .int .i64 (p.2 : Int)]) := by
  subst h; simp

theorem ret_nine {p : Nat × Nat} {x k : Nat} {y : Int} (h : p = (x, k + 1)) (hk : k = 9) (hy : y = (x : Int)) : Ending.returned (.tuple #[.int .u64 y, .int .i64 (9 + 1)]) = .returned (.tuple #[.int .u64 (p.1 : Int), .int .i64 (p.2 : Int)]) := by
  subst h; subst hk; subst hy; simp

set_option maxHeartbeats 400000 in
theorem readNum_some (b off cap : Nat) (l : List UInt8) (w : World) (hc : ∀ j (hj : j < l.length), w.cell? ⟨b, off + j, none⟩ = some (.int .u8 ((l[j]).toNat : Int))) (hlen : l.length ≤ 140737488355328) :
    Calls Try.prog 93 #[.slice (some ⟨b, off, none⟩) l.length cap] w fun e w' => e = .returned (.tuple #[.int .u64 (rd 0 0 l).1, .int .i64 (rd 0 0 l).2]) ∧ w = w' := by
  obtain ⟨n, hn⟩ : ∃ n, n = l.length := ⟨_, rfl⟩
  have HN : Hid (n = l.length) := hn
  rw [← hn] at hlen ⊢
  clear hn
  by_cases h10 : n ≤ 10
  all_goals
    go_enter Try.func93, Try.ntmps93
    go_wp2
    go_loop [4, 10] (fun x i => ∃ k acc : Nat, k ≤ n ∧ k ≤ 10 ∧ x = .int .u64 acc ∧ i = .int .i64 k ∧ acc < 2 ^ (7 * k) ∧ rd 0 0 l = rd k acc (l.drop k)) (fun _ i => 10 - (intOf i).toNat)
    case atStart => exact ⟨0, 0, by omega, by omega, rfl, rfl, by simp, by simp⟩
    case round =>
      obtain ⟨k, acc, hk, hk10, rfl, rfl, hacc, hr⟩ := hrel
      have HR : Hid (rd 0 0 l = rd k acc (l.drop k)) := hr
      clear hr
      have HA : Hid (acc < 2 ^ (7 * k)) := hacc
      clear hacc
      by_cases hkn : k < n ∧ k < 10
      · obtain ⟨hkn, hkt⟩ := hkn
        have hkl : k < l.length := by have := HN.out; omega
        have hcell := hc k hkl
        obtain ⟨d, hd⟩ : ∃ d : Nat, d = (l[k]).toNat := ⟨_, rfl⟩
        have hd256 : d < 256 := by rw [hd]; exact (l[k]).toNat_lt
        rw [← hd] at hcell
        have HD : Hid (d = (l[k]).toNat) := hd
        clear hd hc
        have hdrop : l.drop k = l[k] :: l.drop (k + 1) := List.drop_eq_getElem_cons hkl
        have HR1 : Hid (rd 0 0 l = rd k acc (l[k] :: l.drop (k + 1))) := by rw [← hdrop]; exact HR
        have hm := mask127 hd256
        by_cases hA : k = 9 ∧ 1 < d
        · have hv : rd 0 0 l = (0, 0) := by rw [HR1.out, rd, ← HD.out]; simp [hA]
          have hA1 : 8 < k := by omega
          have hA2 := hA.2
          have HV : Hid (rd 0 0 l = (0, 0)) := hv
          clear hA hv hdrop
          go_wp2
          go_ret2
          exact ⟨by rw [HV.out]; rfl, rfl⟩
        · have h9 : k = 9 → d ≤ 1 := by omega
          have hs := shl_small hd256 hkt h9
          have ho := or_shl HA.out hs hkt
          obtain ⟨sv, hsv⟩ : ∃ sv : Nat, sv = d % 128 * 2 ^ (7 * k) := ⟨_, rfl⟩
          have hsh : IntKind.u64.wrap ((d : Int) % 128 * 2 ^ (7 * k)) = (sv : Int) := by
            have e : (d : Int) % 128 * 2 ^ (7 * k) = (sv : Int) := by rw [hsv]; simp
            rw [e]
            exact IntWalk.u64_in _ ⟨by omega, by omega⟩
          rw [← hsv] at ho
          obtain ⟨na, hna⟩ : ∃ na : Nat, na = acc + sv := ⟨_, rfl⟩
          rw [← hna] at ho
          have HNA : Hid (na = acc + d % 128 * 2 ^ (7 * k)) := by rw [← hsv]; exact hna
          have hAn : ¬ (k = 9 ∧ 1 < (l[k]).toNat) := by rw [← HD.out]; exact hA
          have hkn10 : ¬ 10 ≤ k := by omega
          by_cases hB : 128 ≤ d
          · have hm2 : bits .and .u8 (d : Int) 128 = 128 := by rw [mask128 hd256, if_pos hB]
            have hk9 : k < 9 := by omega
            have HV : Hid (rd 0 0 l = rd (k + 1) na (l.drop (k + 1))) := by
              have hB' : 128 ≤ (l[k]).toNat := by rw [← HD.out]; exact hB
              rw [HNA.out]
              refine HR1.out.trans ?_
              rw [rd, if_neg hkn10, if_neg hAn, if_pos hB', ← HD.out]
            have HNL : Hid (na < 2 ^ (7 * (k + 1))) := by
              show na < 2 ^ (7 * (k + 1))
              rw [HNA.out, pow7_succ]
              have h1 := HA.out
              have h2 : d % 128 * 2 ^ (7 * k) ≤ 127 * 2 ^ (7 * k) := Nat.mul_le_mul_right _ (by omega)
              omega
            clear hA hs h9 hAn hsv hna hdrop
            go_wp2
            go_round
            case rel => exact ⟨k + 1, na, by omega, by omega, rfl, by go_num, HNL.out, HV.out⟩
            case measure => simp [intOf]; omega
          · have hm2 : bits .and .u8 (d : Int) 128 = 0 := by rw [mask128 hd256, if_neg hB]
            have hBn : ¬ 128 ≤ (l[k]).toNat := by rw [← HD.out]; exact hB
            by_cases hC : d = 0 ∧ 0 < k
            · have hv : rd 0 0 l = (0, 0) := by
                have hC' : (l[k]).toNat = 0 ∧ 0 < k := by rw [← HD.out]; exact hC
                refine HR1.out.trans ?_
                rw [rd, if_neg hkn10, if_neg hAn, if_neg hBn, if_pos hC']
              have HV : Hid (rd 0 0 l = (0, 0)) := hv
              have hC1 : d < 1 := by omega
              have hC2 := hC.2
              clear hA hs h9 hAn hsv hna hC hv hdrop
              go_wp2
              all_goals (go_ret2; exact ⟨by rw [HV.out]; rfl, rfl⟩)
            · have hv : rd 0 0 l = (na, k + 1) := by
                have hC' : ¬ ((l[k]).toNat = 0 ∧ 0 < k) := by rw [← HD.out]; exact hC
                refine HR1.out.trans ?_
                rw [rd, if_neg hkn10, if_neg hAn, if_neg hBn, if_neg hC', ← HD.out, HNA.out]
              have HV : Hid (rd 0 0 l = (na, k + 1)) := hv
              have hC1 : (0 < d ∧ k < 9) ∨ (0 < d ∧ 8 < k ∧ d ≤ 1) ∨ (k < 1 ∧ d < 1) := by omega
              have H9 : Hid (k = 9 → bits .or .u64 (acc : Int) ((d : Int) % 128 * 9223372036854775808) = (na : Int)) := fun h => by
                rw [← ho, hsv, h]; simp
              clear hs h9 hAn hsv hna hC hv hdrop hA
              rcases hC1 with ⟨hC1, hC2⟩ | ⟨hC1, hC2, hC3⟩ | ⟨hC1, hC2⟩
              all_goals
                go_wp2
                all_goals (go_ret2; first | exact ⟨ret_pair HV.out, rfl⟩ | exact ⟨ret_nine HV.out (by omega) (H9.out (by omega)), rfl⟩)
      · have hv : rd 0 0 l = (0, 0) := by
          refine HR.out.trans ?_
          by_cases hkt : k < 10
          · rw [List.drop_eq_nil_of_le (by have := HN.out; omega)]; rfl
          · cases h : l.drop k with
            | nil => rfl
            | cons x r => rw [rd, if_pos (by omega)]
        have HV : Hid (rd 0 0 l = (0, 0)) := hv
        have hkx : n ≤ k ∨ 10 ≤ k := by omega
        clear hkn hv hc
        go_wp2
        all_goals (go_ret2; exact ⟨by rw [HV.out]; rfl, rfl⟩)
end Go.Proofs.Ytbcemghkmmbmdaa
