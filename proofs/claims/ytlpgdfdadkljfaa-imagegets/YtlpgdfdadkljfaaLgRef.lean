/-
  The contract of the answer's GetNum.
-/
import Derived.Test.YtlpgdfdadkljfaaPut
import Derived.Test.YtlpgdfdadkljfaaGet2
import Derived.Test.YtlpgdfdadkljfaaLgMath2
import Derived.Deep.RegionHeld
namespace Go.Proofs.Ytlpgdfdadkljfaa
open Go.RowKit

theorem slice_mid {W : World} {a : Option Addr} {k cap p q : Nat} (h1 : p < q) (h2 : q ≤ k) (h3 : k ≤ cap) (_ : cap ≤ maxLen) (x y : Int) (hx : x = (p : Int)) (hy : y = (q : Int)) :
    (Instr.slice 30 (.slice a k cap) (some (.int .i64 x)) (some (.int .i64 y)) none).run Try.prog W = .ok (.slice (a.map (·.add p)) (q - p) (cap - p)) W := by
  subst hx; subst hy
  have el : Try.prog.elem 30 = 5 := by kernel_rfl
  have := run_slice_lh (P := Try.prog) W 30 a k cap (by kernel_rfl) .i64 .i64 (p : Int) (q : Int) (by omega) (by omega) (by omega)
  rw [this, el, Try.sizeOf5]
  have hc : cap ≠ p := by omega
  simp [sliced, hc, Result.andThen]

theorem Lies.mid {w : World} {a : Option Addr} {l : List UInt8} (h : Lies w a l) (p r : Nat) : Lies w (a.map (·.add p)) ((l.drop p).take r) := (h.drop p).take r

theorem conv_named {w : World} {a : Option Addr} {l : List UInt8} {k cap : Nat} {T : ByteArray} (h : Lies w a l) (hk : k = l.length) (hT : T = ⟨l.toArray⟩) :
    (convert 30 9 (.slice a k cap)).run Try.prog w = .ok (.string T) w := by
  subst hk; subst hT; exact conv_lies h

theorem text_ne {l r : List UInt8} (h : l ≠ r) : (⟨l.toArray⟩ : ByteArray) ≠ ⟨r.toArray⟩ := fun e => h (by
  have := congrArg (fun b : ByteArray => b.data.toList) e
  simpa using this)

theorem str_eq (a b : ByteArray) : (a.toList == b.toList) = decide (a = b) := by
  by_cases h : a = b
  · subst h; simp
  · have h2 : ¬ a.toList = b.toList := fun e => h (by
      rw [ByteArray.toList_eq, ByteArray.toList_eq] at e
      apply ByteArray.ext
      exact Array.ext' e)
    simp [h, h2]

theorem wrap_mul (u : Nat) : IntKind.u64.wrap ((u : Int) * 128) = ((u * 128 % 18446744073709551616 : Nat) : Int) := by
  rw [IntKind.wrap_u64]; omega
theorem wrap_add (u d : Nat) : IntKind.u64.wrap (((u * 128 % 18446744073709551616 : Nat) : Int) + (d : Int) % 128) = (((u * 128 + d % 128) % 18446744073709551616 : Nat) : Int) := by
  rw [IntKind.wrap_u64]; omega

set_option maxHeartbeats 2000000 in
theorem refGet_any (a : Option Addr) (l : List UInt8) (cap n p : Nat) (w : World) (hn : n = l.length) (hl : Lies w a l) (hlen : n ≤ 1048576) (hlc : n ≤ cap) (hcm : cap ≤ maxLen) (hp : p < n) :
    Calls Try.prog 48 #[.slice a n cap, .int .i64 (p : Int)] w fun e w' => e = .returned (.tuple #[.int .u64 ((rd 0 0 (l.drop p)).1 : Int), .int .i64 ((rd 0 0 (l.drop p)).2 : Int)]) ∧ Below w.heap.size w w' := by
  obtain ⟨b, off, rfl, hc⟩ := hl.at (by omega)
  obtain ⟨m, hm⟩ : ∃ m, m = l.drop p := ⟨_, rfl⟩
  have hml : m.length = n - p := by rw [hm, List.length_drop, hn]
  have HM : Hid (m.length = n - p) := hml
  have HC : Hid (∀ i (hi : i < m.length), w.cell? ⟨b, off + (p + i), none⟩ = some (.int .u8 ((m[i]).toNat : Int))) := by
    intro i hi
    have := hc (p + i) (by omega)
    rw [this]
    simp only [hm, List.getElem_drop]
  have HL : Hid (Lies w (some ⟨b, off, none⟩) l) := hl
  have HD : Hid (m = l.drop p) := hm
  have HZ : Hid (cap ≤ maxLen) := hcm
  rw [← hm]
  clear hn hl hc hml hm hcm
  go_enter Try.func48, Try.ntmps48
  go_wp2
  go_loop [6] (fun t => ∃ k : Nat, t = .int .i64 k ∧ k ≤ 10 ∧ p + k ≤ n ∧ Hid (∀ i (hi : i < m.length), i < k → 128 ≤ (m[i]).toNat)) (fun t => 10 - (intOf t).toNat)
  case atStart => exact ⟨0, rfl, by omega, by omega, fun i _ h => absurd h (Nat.not_lt_zero _)⟩
  case round =>
    obtain ⟨k, rfl, hk10, hkn, hb⟩ := hrel
    by_cases hlt : p + k < n ∧ k < 10
    · obtain ⟨h1, h2⟩ := hlt
      have hkm : k < m.length := by have := HM.out; omega
      have hcell := HC.out k hkm
      obtain ⟨d, hd⟩ : ∃ d : Nat, d = (m[k]).toNat := ⟨_, rfl⟩
      rw [← hd] at hcell
      have hd256 : d < 256 := by rw [hd]; exact (m[k]).toNat_lt
      have HDD : Hid (d = (m[k]).toNat) := hd
      clear hd
      by_cases hbig : 127 < d
      · have HB : Hid (∀ i (hi : i < m.length), i < k + 1 → 128 ≤ (m[i]).toNat) := by
          intro i hi hik
          by_cases e : i = k
          · subst e; rw [← HDD.out]; omega
          · exact hb.out i hi (by omega)
        clear hb
        go_wp2
        go_round
        case rel => exact ⟨k + 1, by go_num, by omega, by omega, HB⟩
        case measure => simp [intOf]; omega
      · obtain ⟨v, hv⟩ : ∃ v : Nat, v = val (m.take (k + 1)) % 18446744073709551616 := ⟨_, rfl⟩
        have hres := rd_ref_some hb.out hkm (by rw [← HDD.out]; omega) hv
        have HVV : Hid (v = val (m.take (k + 1)) % 18446744073709551616) := hv
        have hv64 : v < 18446744073709551616 := by rw [hv]; exact Nat.mod_lt _ (by decide)
        have hkl : (m.take (k + 1)).length = k + 1 := by rw [List.length_take]; omega
        obtain ⟨T, hT⟩ : ∃ T : ByteArray, T = ⟨(m.take (k + 1)).toArray⟩ := ⟨_, rfl⟩
        have HT : Hid (T = ⟨(m.take (k + 1)).toArray⟩) := hT
        have hcv : ∀ W, Below w.heap.size w W → (convert 30 9 (.slice (some ⟨b, off + p, none⟩) (k + 1) (cap - p))).run Try.prog W = .ok (.string T) W := by
          intro W hW
          have h3 := (HL.out.below hW (Nat.le_refl _)).mid p (k + 1)
          rw [← HD.out] at h3
          have h4 : Option.map (fun x : Addr => x.add p) (some ⟨b, off, none⟩) = some ⟨b, off + p, none⟩ := by rw [Option.map_some, Go.WideShapes.add_plain]
          rw [h4] at h3
          exact conv_named h3 hkl.symm HT.out
        have HCV : Hid _ := hcv
        have HRES : Hid (_ ∧ _) := hres
        clear hres hv hT hcv hb
        go_wp2
        go_loop [7, 8] (fun u i => ∃ (t y : Nat), i = .int .i64 ((t : Int) - 1) ∧ t ≤ k + 1 ∧ u = .int .u64 (y : Int) ∧ y < 18446744073709551616 ∧ Hid (y = val ((m.take (k + 1)).drop t) % 18446744073709551616)) (fun _ i => (intOf i + 1).toNat)
        case atStart => exact ⟨k + 1, 0, by go_num, Nat.le_refl _, rfl, by decide, by show _ = _; rw [List.drop_of_length_le (by omega)]; rfl⟩
        case round =>
          obtain ⟨t, y, rfl, htk, rfl, hy64, hy⟩ := hrel
          by_cases ht : 1 ≤ t
          · obtain ⟨s, rfl⟩ : ∃ s, t = s + 1 := ⟨t - 1, by omega⟩
            have hsm : s < m.length := by omega
            have hc2 := HC.out s hsm
            obtain ⟨e, he⟩ : ∃ e : Nat, e = (m[s]).toNat := ⟨_, rfl⟩
            rw [← he] at hc2
            have he256 : e < 256 := by rw [he]; exact (m[s]).toNat_lt
            obtain ⟨y1, hy1⟩ : ∃ y1 : Nat, y1 = y * 128 % 18446744073709551616 := ⟨_, rfl⟩
            obtain ⟨y2, hy2⟩ : ∃ y2 : Nat, y2 = (y * 128 + e % 128) % 18446744073709551616 := ⟨_, rfl⟩
            have w1 : IntKind.u64.wrap ((y : Int) * 128) = (y1 : Int) := by rw [hy1]; exact wrap_mul y
            have w2 : IntKind.u64.wrap ((y1 : Int) + (e : Int) % 128) = (y2 : Int) := by rw [hy1, hy2]; exact wrap_add y e
            have hy2l : y2 < 18446744073709551616 := by rw [hy2]; exact Nat.mod_lt _ (by decide)
            have HY2 : Hid (y2 = val ((m.take (k + 1)).drop s) % 18446744073709551616) := by
              show _ = _
              rw [hy2, ← val_step (m.take (k + 1)) s (by omega) y hy.out, he, List.getElem_take]
            have hi0 : (((s + 1 : Nat) : Int) - 1) = (s : Int) := by omega
            rw [hi0]
            clear hy hy1 hy2 he
            go_wp2
            refine ⟨⟨s, y2, rfl, by omega, rfl, hy2l, HY2⟩, ?_⟩
            simp [intOf]
          · have ht0 : t = 0 := by omega
            subst ht0
            have hyv : y = v := by have h3 := hy.out; rw [List.drop_zero] at h3; rw [h3, HVV.out]
            subst hyv
            have hi0 : (((0 : Nat) : Int) - 1) = -1 := by omega
            rw [hi0]
            obtain ⟨D, hD⟩ : ∃ D : ByteArray, D = ⟨(digs y).toArray⟩ := ⟨_, rfl⟩
            have HDg : Hid (D = ⟨(digs y).toArray⟩) := hD
            have cT : (convert 30 9 (.slice (some ⟨b, off + p, none⟩) (k + 1) (cap - p))).run Try.prog w.drew = .ok (.string T) w.drew := HCV.out _ (Below.refl _ _).drew
            have hreg : Hid (∀ W, (Below w.heap.size w W ∧ (convert 30 9 (.slice (some ⟨b, off + p, none⟩) (k + 1) (cap - p))).run Try.prog W = .ok (.string T) W) → Calls Try.prog 27 #[.int .u64 (y : Int)] W fun e w' => ∃ a k2 c2, e = .returned (.slice a k2 c2) ∧ (convert 30 9 (.slice a k2 c2)).run Try.prog w' = .ok (.string D) w' ∧ (Below w.heap.size w w' ∧ (convert 30 9 (.slice (some ⟨b, off + p, none⟩) (k + 1) (cap - p))).run Try.prog w' = .ok (.string T) w')) := by
              rintro W ⟨hW, _⟩
              refine (refNum_any y W hy64).mono ?_
              rintro e w' ⟨v', rfl, hbuf⟩
              have hbw : Below w.heap.size w w' := hW.trans (hbuf.2.1.mono hW.size)
              obtain ⟨a2, c2, rfl, _, _, hl2, _⟩ := hbuf.form
              exact ⟨a2, _, c2, rfl, conv_named hl2 rfl HDg.out, hbw, HCV.out _ hbw⟩
            have hpc : p < cap := by omega
            have wr1 : IntKind.i64.wrap ((p : Int) + (k : Int)) = (p : Int) + (k : Int) := by rw [IntKind.wrap_i64]; omega
            have wr2 : IntKind.i64.wrap ((p : Int) + (k : Int) + 1) = (p : Int) + (k : Int) + 1 := by rw [IntKind.wrap_i64]; omega
            have hsl : ∀ W, (Instr.slice 30 (.slice (some ⟨b, off, none⟩) n cap) (some (.int .i64 (p : Int))) (some (.int .i64 ((p : Int) + (k : Int) + 1))) none).run Try.prog W = .ok (.slice (some ⟨b, off + p, none⟩) (k + 1) (cap - p)) W := fun W => by
              rw [slice_mid (p := p) (q := p + k + 1) (by omega) (by omega) hlc HZ.out _ _ rfl (by omega), Option.map_some, Go.WideShapes.add_plain, show p + k + 1 - p = k + 1 by omega]
            by_cases hDT : digs y = m.take (k + 1)
            · have hTD : T = D := by rw [HT.out, HDg.out, hDT]
              have HV : Hid (rd 0 0 m = (y, k + 1)) := HRES.out.1 hDT
              subst hTD
              clear hDT hD hy HRES hcell HVV
              go_wp2
              go_region_held (fun W => (Below w.heap.size w W ∧ (convert 30 9 (.slice (some ⟨b, off + p, none⟩) (k + 1) (cap - p))).run Try.prog W = .ok (.string T) W)) (first | assumption | exact ⟨(Below.refl _ _).drew, cT⟩)
                (first | (go_at_call 27; refine (hreg.out _ (by assumption)).mono ?_; rintro e w6 ⟨a6, k6, c6, rfl, hc6, hS6⟩))
              all_goals
                have HB6 : Hid (Below w.heap.size w w6) := hS6.1
                clear hS6 hreg cT
                go_wp2
                go_ret2
                exact ⟨by rw [HV.out]; simp, HB6.out⟩
            · have hTD : (D.toList == T.toList) = false := by rw [str_eq, decide_eq_false_iff_not, HT.out, HDg.out]; exact text_ne hDT
              have HV : Hid (rd 0 0 m = (0, 0)) := HRES.out.2 hDT
              clear hDT hD hy HRES hcell HVV
              go_wp2
              go_region_held (fun W => (Below w.heap.size w W ∧ (convert 30 9 (.slice (some ⟨b, off + p, none⟩) (k + 1) (cap - p))).run Try.prog W = .ok (.string T) W)) (first | assumption | exact ⟨(Below.refl _ _).drew, cT⟩)
                (first | (go_at_call 27; refine (hreg.out _ (by assumption)).mono ?_; rintro e w6 ⟨a6, k6, c6, rfl, hc6, hS6⟩))
              all_goals
                have HB6 : Hid (Below w.heap.size w w6) := hS6.1
                clear hS6 hreg cT
                go_wp2
                go_ret2
                exact ⟨by rw [HV.out]; rfl, HB6.out⟩
    · have hv : rd 0 0 m = (0, 0) := rd_ref_none hb.out (by have := HM.out; omega)
      have HV : Hid (rd 0 0 m = (0, 0)) := hv
      have hx : n ≤ p + k ∨ (p + k < n ∧ 10 ≤ k) := by omega
      clear hv hlt hb
      rcases hx with hx | ⟨hx1, hx2⟩
      all_goals
        go_wp2
        all_goals (go_ret2; exact ⟨by rw [HV.out]; rfl, Below.refl _ _⟩)
end Go.Proofs.Ytlpgdfdadkljfaa
