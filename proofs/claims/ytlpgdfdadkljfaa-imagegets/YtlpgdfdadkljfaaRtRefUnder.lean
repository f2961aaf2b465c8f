/-
  The document's 'Under', of every two texts.
-/
import Derived.Test.YtlpgdfdadkljfaaMgC
namespace Go.Proofs.Ytlpgdfdadkljfaa.Route
open Go.RowKit

set_option maxHeartbeats 4000000 in
set_option maxRecDepth 100000 in
theorem refUnder_core (d s : ByteArray) (l m : List ByteArray) (n k : Nat) (p q r : Bool) (w : World) (HN : Hid (n = l.length)) (HK : Hid (k = m.length)) (hn : 1 ≤ n) (hnn : n ≤ 100001) (hkk : k ≤ 100001)
    (h12 : Hid (∀ w1, Calls Try.prog 51 #[.string d] w1 fun e w' => ∃ v, e = .returned v ∧ Strs w1.heap.size v l w1 w'))
    (h12' : Hid (∀ w1, Calls Try.prog 51 #[.string s] w1 fun e w' => ∃ v, e = .returned v ∧ Strs w1.heap.size v m w1 w'))
    (h15 : Hid (∀ a1 cap1 w1, Lies w1 a1 l → Calls Try.prog 50 #[.slice a1 n cap1] w1 fun e w' => e = .returned (.bool p) ∧ w1 = w'))
    (h15' : Hid (∀ a1 cap1 w1, Lies w1 a1 m → Calls Try.prog 50 #[.slice a1 k cap1] w1 fun e w' => e = .returned (.bool q) ∧ w1 = w'))
    (HR : Hid (r = (p && q && decide (n < k ∧ m.take n = l)))) :
    Calls Try.prog 36 #[.string d, .string s] w fun e w' => e = .returned (.bool r) ∧ Below w.heap.size w w' := by
  cases p with
  | false =>
    have hr : r = false := HR.out
    go_enter Try.func36, Try.ntmps36
    go_wp2_with fail
    refine (h12.out w).mono ?_
    rintro e w1 ⟨v, rfl, hb⟩
    obtain ⟨a1, c1, rfl, hc1, hcm1, hl1⟩ := hb.liesN HN.out
    go_wp2_with fail
    refine (h12'.out w1).mono ?_
    rintro e w2 ⟨v2, rfl, hb2⟩
    obtain ⟨a2, c2, rfl, hc2, hcm2, hl2⟩ := hb2.liesN HK.out
    have hl1' := hl1.below hb2.2.1 (Nat.le_refl _)
    go_wp2_with fail
    refine (h15.out a1 c1 w2 hl1').mono ?_
    rintro e w3 ⟨rfl, rfl⟩
    go_wp2
    go_ret
    exact ⟨by first | rfl | (rw [hr]; rfl), hb.2.1.trans (hb2.2.1.mono hb.2.2)⟩
  | true =>
    cases q with
    | false =>
      have hr : r = false := HR.out
      go_enter Try.func36, Try.ntmps36
      go_wp2_with fail
      refine (h12.out w).mono ?_
      rintro e w1 ⟨v, rfl, hb⟩
      obtain ⟨a1, c1, rfl, hc1, hcm1, hl1⟩ := hb.liesN HN.out
      go_wp2_with fail
      refine (h12'.out w1).mono ?_
      rintro e w2 ⟨v2, rfl, hb2⟩
      obtain ⟨a2, c2, rfl, hc2, hcm2, hl2⟩ := hb2.liesN HK.out
      have hl1' := hl1.below hb2.2.1 (Nat.le_refl _)
      go_wp2_with fail
      refine (h15.out a1 c1 w2 hl1').mono ?_
      rintro e w3 ⟨rfl, rfl⟩
      go_wp2_with fail
      refine (h15'.out a2 c2 w2 hl2).mono ?_
      rintro e w3 ⟨rfl, rfl⟩
      go_wp2
      go_ret
      exact ⟨by first | rfl | (rw [hr]; rfl), hb.2.1.trans (hb2.2.1.mono hb.2.2)⟩
    | true =>
      by_cases hnk : n < k
      · have HR2 : Hid (r = decide (l = m.take n)) := by
          show r = _
          rw [HR.out]
          exact decide_eq_decide.2 ⟨fun h => h.2.symm, fun h => ⟨hnk, h.symm⟩⟩
        obtain ⟨M, hM⟩ : ∃ M, M = m.take n := ⟨_, rfl⟩
        have HM : Hid (n = M.length) := by show n = _; rw [hM, List.length_take, ← HK.out]; omega
        have HLM : Hid (∀ {w1 a1}, Lies w1 a1 m → Lies w1 a1 M) := fun h => by rw [hM]; exact h.take n
        rw [← hM] at HR2
        clear hM HR
        go_enter Try.func36, Try.ntmps36
        go_wp2_with fail
        refine (h12.out w).mono ?_
        rintro e w1 ⟨v, rfl, hb⟩
        obtain ⟨a1, c1, rfl, hc1, hcm1, hl1⟩ := hb.liesN HN.out
        go_wp2_with fail
        refine (h12'.out w1).mono ?_
        rintro e w2 ⟨v2, rfl, hb2⟩
        obtain ⟨a2, c2, rfl, hc2, hcm2, hl2⟩ := hb2.liesN HK.out
        have hl1' := hl1.below hb2.2.1 (Nat.le_refl _)
        have hl2' := HLM.out hl2
        go_wp2_with fail
        refine (h15.out a1 c1 w2 hl1').mono ?_
        rintro e w3 ⟨rfl, rfl⟩
        go_wp2_with fail
        refine (h15'.out a2 c2 w2 hl2).mono ?_
        rintro e w3 ⟨rfl, rfl⟩
        have hB : Below w.heap.size w w2 := hb.2.1.trans (hb2.2.1.mono hb.2.2)
        obtain ⟨b, off, rfl, hcL⟩ := hl1'.at (by rw [← HN.out]; omega)
        obtain ⟨b', off', rfl, hcM⟩ := hl2'.at (by rw [← HM.out]; omega)
        have HC : Hid (∀ j, j < l.length → w2.cell? ⟨b, off + j, none⟩ = some (.string (l.getD j ByteArray.empty))) := hcL
        have HC' : Hid (∀ j, j < M.length → w2.cell? ⟨b', off' + j, none⟩ = some (.string (M.getD j ByteArray.empty))) := hcM
        clear hcL hcM hl1 hl2 hl1' hl2' h12 h12' h15 h15' hb hb2
        go_wp2
        go_loopw [4, 7] (fun t4 t7 wr => t4 = .bool false ∧ ∃ j : Nat, t7 = .int .i64 j ∧ j ≤ n ∧ Below w2.heap.size w2 wr ∧ Hid (r = decide (l.drop j = M.drop j))) (fun _ t7 _ => n - (intOf t7).toNat)
        case atStart => exact ⟨rfl, 0, rfl, by omega, Below.refl _ _, by show r = _; rw [List.drop_zero, List.drop_zero]; exact HR2.out⟩
        case round =>
          obtain ⟨rfl, j, rfl, hj, hbw, HJ⟩ := hrel
          by_cases hjk : j < n
          · have hjl : j < l.length := by rw [← HN.out]; exact hjk
            have hjm : j < M.length := by rw [← HM.out]; exact hjk
            have hcell := cell_later hbw (HC.out j hjl)
            have hcell' := cell_later hbw (HC'.out j hjm)
            have hall := drop_step hjl hjm
            obtain ⟨x, hx⟩ : ∃ x, x = l.getD j ByteArray.empty := ⟨_, rfl⟩
            obtain ⟨y, hy⟩ : ∃ y, y = M.getD j ByteArray.empty := ⟨_, rfl⟩
            rw [← hx] at hcell hall
            rw [← hy] at hcell' hall
            have HX : Hid (decide (l.drop j = M.drop j) = (decide (x = y) && decide (l.drop (j + 1) = M.drop (j + 1)))) := hall
            clear hx hy hall hjl hjm
            have hse := str_eq x y
            have hjk2 : j < k := by omega
            by_cases hxy : x = y
            · rw [decide_eq_true hxy] at hse
              go_wp2
              go_region
              go_wp2
              go_roundw
              case rel => exact ⟨rfl, j + 1, by go_num, by omega, hbw.drew, by show r = _; rw [HJ.out, HX.out, decide_eq_true hxy, Bool.true_and]⟩
              case measure => simp [intOf]; omega
            · rw [decide_eq_false hxy] at hse
              have hr : r = false := by rw [HJ.out, HX.out, decide_eq_false hxy, Bool.false_and]
              go_wp2
              go_region
              go_wp2
              go_ret
              exact ⟨by first | rfl | (rw [hr]; rfl), hB.trans (hbw.drew.mono hB.size)⟩
          · have hr : r = true := by rw [HJ.out, List.drop_of_length_le (by rw [← HN.out]; omega), List.drop_of_length_le (by rw [← HM.out]; omega)]; rfl
            go_wp2
            go_ret
            exact ⟨by first | rfl | (rw [hr]; rfl), hB.trans (hbw.mono hB.size)⟩
      · have hr : r = false := HR.out.trans (by simp [hnk])
        clear HR
        go_enter Try.func36, Try.ntmps36
        go_wp2_with fail
        refine (h12.out w).mono ?_
        rintro e w1 ⟨v, rfl, hb⟩
        obtain ⟨a1, c1, rfl, hc1, hcm1, hl1⟩ := hb.liesN HN.out
        go_wp2_with fail
        refine (h12'.out w1).mono ?_
        rintro e w2 ⟨v2, rfl, hb2⟩
        obtain ⟨a2, c2, rfl, hc2, hcm2, hl2⟩ := hb2.liesN HK.out
        have hl1' := hl1.below hb2.2.1 (Nat.le_refl _)
        go_wp2_with fail
        refine (h15.out a1 c1 w2 hl1').mono ?_
        rintro e w3 ⟨rfl, rfl⟩
        go_wp2_with fail
        refine (h15'.out a2 c2 w2 hl2).mono ?_
        rintro e w3 ⟨rfl, rfl⟩
        go_wp2
        go_ret
        exact ⟨by first | rfl | (rw [hr]; rfl), hb.2.1.trans (hb2.2.1.mono hb.2.2)⟩

theorem parts_pos (s : ByteArray) : 1 ≤ (parts s).length := List.length_pos_iff.2 (pieces_ne s _ _ _)

theorem refUnder_any (d s : ByteArray) (w : World) (hd : d.size ≤ 100000) (hs : s.size ≤ 100000) :
    Calls Try.prog 36 #[.string d, .string s] w fun e w' => e = .returned (.bool (isUnder d s)) ∧ Below w.heap.size w w' := by
  have h1 := parts_count d
  have h2 := parts_count s
  exact refUnder_core d s (parts d) (parts s) _ _ (isPath d) (isPath s) (isUnder d s) w rfl rfl (parts_pos d) (by omega) (by omega) (fun w1 => split_any d w1 hd) (fun w1 => split_any s w1 hs)
    (fun a1 cap1 w1 hl => refParts_any a1 (parts d) _ cap1 w1 rfl hl (by omega) (fun x hx => by have := parts_size d x hx; omega))
    (fun a1 cap1 w1 hl => refParts_any a1 (parts s) _ cap1 w1 rfl hl (by omega) (fun x hx => by have := parts_size s x hx; omega)) rfl
end Go.Proofs.Ytlpgdfdadkljfaa.Route
