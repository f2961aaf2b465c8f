/-
  The walk of RoutePaths.
-/
import Derived.Test.YtdbndfignjnjkaaUp
import Derived.Test.YtdbndfignjnjkaaBack
namespace Go.Proofs.Ytdbndfignjnjkaa
open Go.RowKit

theorem emptyList : (⟨#[]⟩ : ByteArray).toList = [] := by rw [ByteArray.toList_eq]

set_option maxHeartbeats 1000000 in
theorem routePaths_far (s : ByteArray) (w : World) (hs : s.size ≤ maxLen) (h : 2000 < s.size) :
    Calls Try.prog 3 #[.string s] w fun e w' => e = .returned (.bool true) ∧ Below w.heap.size w w' := by
  unfold maxLen at hs
  go_enter Try.func3, Try.ntmps3
  go_wp2_with fail
  refine (up_any w).mono ?_
  rintro e w1 ⟨rfl, hb⟩
  go_wp2
  go_ret
  exact ⟨rfl, hb⟩

set_option maxHeartbeats 4000000 in
set_option maxRecDepth 100000 in
theorem routePaths_no (s : ByteArray) (w : World) (hs : s.size ≤ 2000) (hp : isPath s = false) :
    Calls Try.prog 3 #[.string s] w fun e w' => e = .returned (.bool true) ∧ Below w.heap.size w w' := by
  have he := eqErr
  have hel := emptyList
  have h8 : Hid (∀ w1, Calls Try.prog 8 #[.string s] w1 fun e w' => e = .returned (.iface 30 (.int .i64 2)) ∧ Below w1.heap.size w1 w') := fun w1 => check_no s w1 (by omega) hp
  have h9 : Hid (∀ w1, Calls Try.prog 9 #[.string s] w1 fun e w' => e = .returned (.tuple #[.slice none 0 0, .iface 30 (.int .i64 2)]) ∧ Below w1.heap.size w1 w') := fun w1 => parts_no s w1 (by omega) hp
  have h10 : Hid (∀ w1, Calls Try.prog 10 #[.string s] w1 fun e w' => e = .returned (.bool false) ∧ Below w1.heap.size w1 w') := fun w1 => by
    have := path_any s w1 (by omega)
    rw [hp] at this
    exact this
  have h11 : Hid (∀ w1, Calls Try.prog 11 #[.string s] w1 fun e w' => e = .returned (.string ⟨#[]⟩) ∧ Below w1.heap.size w1 w') := fun w1 => parent_no s w1 (by omega) hp
  clear hp
  go_enter Try.func3, Try.ntmps3
  go_wp2_with fail
  refine (up_any w).mono ?_
  rintro e w1 ⟨rfl, hB⟩
  go_wp2_with fail
  refine (h8.out w1).mono ?_
  rintro e w2 ⟨rfl, hb⟩
  replace hB := hB.trans (hb.mono hB.size)
  clear hb
  go_wp2_with fail
  refine (h9.out w2).mono ?_
  rintro e w3 ⟨rfl, hb⟩
  replace hB := hB.trans (hb.mono hB.size)
  clear hb
  go_wp2_with fail
  refine (h10.out w3).mono ?_
  rintro e w4 ⟨rfl, hb⟩
  replace hB := hB.trans (hb.mono hB.size)
  clear hb
  go_wp2_with fail
  refine (h11.out w4).mono ?_
  rintro e w5 ⟨rfl, hb⟩
  replace hB := hB.trans (hb.mono hB.size)
  clear hb
  go_wp2
  go_ret
  exact ⟨rfl, hB⟩

set_option maxHeartbeats 4000000 in
set_option maxRecDepth 100000 in
theorem routePaths_ok (s : ByteArray) (w : World) (hs : s.size ≤ 2000) (hp : isPath s = true) :
    Calls Try.prog 3 #[.string s] w fun e w' => e = .returned (.bool true) ∧ Below w.heap.size w w' := by
  have he := eqNil
  have hlen := path_len hp
  have h8 : Hid (∀ w1, Calls Try.prog 8 #[.string s] w1 fun e w' => e = .returned .nilIface ∧ Below w1.heap.size w1 w') := fun w1 => check_ok s w1 (by omega) hp
  have h9 : Hid (∀ w1, Calls Try.prog 9 #[.string s] w1 fun e w' => ∃ v, e = .returned (.tuple #[v, .nilIface]) ∧ Strs w1.heap.size v (parts s) w1 w') := fun w1 => parts_ok s w1 (by omega) hp
  have h10 : Hid (∀ w1, Calls Try.prog 10 #[.string s] w1 fun e w' => e = .returned (.bool true) ∧ Below w1.heap.size w1 w') := fun w1 => by
    have := path_any s w1 (by omega)
    rw [hp] at this
    exact this
  have h11 : Hid (∀ w1, Calls Try.prog 11 #[.string s] w1 fun e w' => e = .returned (.string (joined ((parts s).take ((parts s).length - 1)))) ∧ Below w1.heap.size w1 w') := fun w1 => parent_ok s w1 (by omega) hp
  have h12 : Hid (∀ w1, Calls Try.prog 12 #[.string s] w1 fun e w' => ∃ v, e = .returned v ∧ Strs w1.heap.size v (parts s) w1 w') := fun w1 => split_any s w1 (by omega)
  have HSZ : Hid (∀ i, (joined ((parts s).take i)).size ≤ 1000000 ∧ ∀ x ∈ parts s, x.size ≤ 1000000) := fun i => ⟨by
    have h := joined_size ((parts s).take i) s.size (fun x hx => parts_size s x (List.mem_of_mem_take hx))
    rw [List.length_take] at h
    have h8 : min i (parts s).length ≤ 8 := by omega
    have := Nat.mul_le_mul h8 (show s.size + 1 ≤ 2001 by omega)
    omega, fun x hx => by have := parts_size s x hx; omega⟩
  clear hp
  generalize parts s = l at *
  obtain ⟨k, hk⟩ : ∃ k, l.length = k + 1 := ⟨l.length - 1, by omega⟩
  rw [hk] at hlen h11
  rw [show k + 1 - 1 = k from rfl] at h11
  have HN : Hid (k + 1 = l.length) := hk.symm
  clear hk
  go_enter Try.func3, Try.ntmps3
  go_wp2_with fail
  refine (up_any w).mono ?_
  rintro e w1 ⟨rfl, hB⟩
  go_wp2_with fail
  refine (h8.out w1).mono ?_
  rintro e w2 ⟨rfl, hb⟩
  replace hB := hB.trans (hb.mono hB.size)
  clear hb
  go_wp2_with fail
  refine (h9.out w2).mono ?_
  rintro e w3 ⟨v, rfl, hbS⟩
  replace hB := hB.trans (hbS.2.1.mono hB.size)
  obtain ⟨a1, c1, rfl, hc1, hcm1, hl1⟩ := hbS.liesN HN.out
  clear hbS
  go_wp2_with fail
  refine (h10.out w3).mono ?_
  rintro e w4 ⟨rfl, hb⟩
  replace hB := hB.trans (hb.mono hB.size)
  have hl2 := hl1.below hb (Nat.le_refl _)
  clear hb hl1
  go_wp2_with fail
  refine (h12.out w4).mono ?_
  rintro e w5 ⟨v, rfl, hbS⟩
  replace hB := hB.trans (hbS.2.1.mono hB.size)
  have hl3 := hl2.below hbS.2.1 (Nat.le_refl _)
  obtain ⟨a2, c2, rfl, hc2, hcm2, hl4⟩ := hbS.liesN HN.out
  clear hbS hl2
  obtain ⟨b, off, rfl, hcs⟩ := hl4.at (by rw [← HN.out]; omega)
  have HC : Hid (∀ j, j < l.length → w5.cell? ⟨b, off + j, none⟩ = some (.string (l.getD j ByteArray.empty))) := hcs
  have HL3 : Hid (Lies w5 a1 l) := hl3
  have HL4 : Hid (Lies w5 (some ⟨b, off, none⟩) l) := hl4
  clear hcs hl3 hl4
  go_wp2
  go_loop [9, 10] (fun t9 t10 => ∃ (i : Nat) (U : ByteArray), t9 = .string U ∧ t10 = .int .i64 i ∧ i ≤ k ∧ Hid (U = joined (l.take i))) (fun _ t10 => k - (intOf t10).toNat)
  case atStart => exact ⟨0, ⟨#[]⟩, rfl, rfl, by omega, rfl⟩
  case round =>
    obtain ⟨i, U, rfl, rfl, hi, HU⟩ := hrel
    by_cases hik : i < k
    · have hil : i < l.length := by rw [← HN.out]; omega
      have hcell := HC.out i hil
      have hstep := joined_step l i hil
      have hUs : U.size ≤ 1000000 := by rw [HU.out]; exact (HSZ.out i).1
      obtain ⟨x, hx⟩ : ∃ x, x = l.getD i ByteArray.empty := ⟨_, rfl⟩
      have hxs : x.size ≤ 1000000 := (HSZ.out i).2 x (by rw [hx]; simp [List.getD_eq_getElem?_getD, List.getElem?_eq_getElem hil])
      rw [← hx] at hcell hstep
      clear hx hil
      by_cases hi0 : i = 0
      · subst hi0
        rw [Nat.add_zero] at hcell
        rw [if_pos rfl] at hstep
        have hU : U = ⟨#[]⟩ := HU.out
        subst hU
        have HV : Hid ((⟨#[]⟩ : ByteArray) ++ x = joined (l.take (0 + 1))) := hstep.symm
        have ha : ∀ W : World, (Op.stringOp .add ⟨#[]⟩ x).run Try.prog W = .ok (.string (⟨#[]⟩ ++ x)) W := fun W => run_string_add_sum W _ _ (by omega)
        generalize (⟨#[]⟩ : ByteArray) ++ x = V at *
        clear hstep
        go_wp2
        go_round
        case rel => exact ⟨1, V, rfl, rfl, by omega, HV⟩
        case measure => simp [intOf]; omega
      · rw [if_neg hi0, ← HU.out] at hstep
        have HV : Hid (U ++ ⟨#[47]⟩ ++ x = joined (l.take (i + 1))) := hstep.symm
        have ha : ∀ W : World, (Op.stringOp .add U ⟨#[47]⟩).run Try.prog W = .ok (.string (U ++ ⟨#[47]⟩)) W := fun W => run_string_add_sum W _ _ (by show U.size + 1 ≤ _; omega)
        have hUz : (U ++ ⟨#[47]⟩ : ByteArray).size = U.size + 1 := by rw [ByteArray.size_append]; rfl
        generalize U ++ (⟨#[47]⟩ : ByteArray) = U2 at *
        have hb2 : ∀ W : World, (Op.stringOp .add U2 x).run Try.prog W = .ok (.string (U2 ++ x)) W := fun W => run_string_add_sum W _ _ (by omega)
        generalize U2 ++ x = V at *
        clear hstep hUz
        go_wp2
        go_round
        case rel => exact ⟨i + 1, V, rfl, by go_num, by omega, HV⟩
        case measure => simp [intOf]; omega
    · obtain rfl : i = k := by omega
      have h11' := h11.out
      rw [← HU.out] at h11'
      have H11 : Hid (∀ w1, Calls Try.prog 11 #[.string s] w1 fun e w' => e = .returned (.string U) ∧ Below w1.heap.size w1 w') := h11'
      have hsame := same_any a1 l (i + 1) c1 (some ⟨b, off, none⟩) l (i + 1) c2 w5 HN.out HL3.out HN.out HL4.out (by omega) (by omega)
      rw [decide_eq_true rfl] at hsame
      have hse : (U.toList == U.toList) = true := by simp
      clear h11'
      go_wp2_with fail
      refine hsame.mono ?_
      rintro e w6 ⟨rfl, hb⟩
      replace hB := hB.trans (hb.mono hB.size)
      clear hb
      go_wp2_with fail
      refine (H11.out w6).mono ?_
      rintro e w7 ⟨rfl, hb⟩
      replace hB := hB.trans (hb.mono hB.size)
      clear hb
      go_wp2
      go_ret
      exact ⟨rfl, hB⟩

theorem routePaths_walk (s : ByteArray) (w : World) (hs : s.size ≤ maxLen) :
    Calls Try.prog 3 #[.string s] w fun e w' => e = .returned (.bool true) ∧ Below w.heap.size w w' := by
  by_cases h : 2000 < s.size
  · exact routePaths_far s w hs h
  · cases hp : isPath s with
    | false => exact routePaths_no s w (by omega) hp
    | true => exact routePaths_ok s w (by omega) hp
end Go.Proofs.Ytdbndfignjnjkaa
