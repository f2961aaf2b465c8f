/-
  The walk of RouteJoins.
-/
import Derived.Test.YtdbndfignjnjkaaUp
import Derived.Test.YtdbndfignjnjkaaBack
namespace Go.Proofs.Ytdbndfignjnjkaa
open Go.RowKit

set_option maxHeartbeats 1000000 in
theorem routeJoins_far (a : Option Addr) (n cap : Nat) (w : World) (hn : 20 < n) (hm : n ≤ maxLen) :
    Calls Try.prog 4 #[.slice a n cap] w fun e w' => e = .returned (.bool true) ∧ Below w.heap.size w w' := by
  unfold maxLen at hm
  go_enter Try.func4, Try.ntmps4
  go_wp2_with fail
  refine (up_any w).mono ?_
  rintro e w1 ⟨rfl, hb⟩
  go_wp2
  go_ret
  exact ⟨rfl, hb⟩

theorem joinsEmpty : (⟨#[]⟩ : ByteArray).toList = [] := by rw [ByteArray.toList_eq]

set_option maxHeartbeats 4000000 in
set_option maxRecDepth 100000 in
theorem routeJoins_near (a : Option Addr) (l : List ByteArray) (n cap : Nat) (w : World) (hn : n = l.length) (hl : Lies w a l) (hn20 : n ≤ 20) (hkc : n ≤ cap) (hnil : a = none → cap = 0) (hs : ∀ x ∈ l, x.size ≤ maxLen) :
    Calls Try.prog 4 #[.slice a n cap] w fun e w' => e = .returned (.bool true) ∧ Below w.heap.size w w' := by
  have he := eqErr
  have he2 := eqNil
  have hel := joinsEmpty
  have HN : Hid (n = l.length) := hn
  have HL : Hid (Lies w a l) := hl
  have HS : Hid (∀ x ∈ l, x.size ≤ maxLen) := hs
  have HNIL : Hid (a = none → cap = 0) := hnil
  clear hn hl hs hnil
  go_enter Try.func4, Try.ntmps4
  go_wp2_with fail
  refine (up_any w).mono ?_
  rintro e w1 ⟨rfl, hB⟩
  have HL1 : Hid (Lies w1 a l) := HL.out.below hB (Nat.le_refl _)
  clear HL
  go_wp2
  go_loop [2, 4, 5] (fun t2 t4 t5 => t2 = .bool false ∧ ∃ (i : Nat) (U : ByteArray), t4 = .string U ∧ t5 = .int .i64 i ∧ i ≤ n ∧ Hid (U = joined (l.take i)) ∧ Hid (∀ x ∈ l.take i, x.size ≤ 1000)) (fun _ _ t5 => n - (intOf t5).toNat)
  case atStart => exact ⟨rfl, 0, ⟨#[]⟩, rfl, rfl, by omega, rfl, fun x hx => by simp at hx⟩
  case round =>
    obtain ⟨rfl, i, U, rfl, rfl, hi, HU, HX⟩ := hrel
    by_cases hik : i < n
    · have hil : i < l.length := by rw [← HN.out]; omega
      obtain ⟨b, off, rfl, hc⟩ := HL1.out.at (by omega)
      have hcell := hc i hil
      have hstep := joined_step l i hil
      have hUs : U.size ≤ 100000 := by
        have h := joined_size (l.take i) 1000 HX.out
        rw [List.length_take] at h
        have h8 : min i l.length ≤ 20 := by omega
        have := Nat.mul_le_mul_right 1001 h8
        rw [HU.out]; omega
      obtain ⟨x, hx⟩ : ∃ x, x = l.getD i ByteArray.empty := ⟨_, rfl⟩
      have hxs : x.size ≤ maxLen := HS.out x (by rw [hx]; simp [List.getD_eq_getElem?_getD, List.getElem?_eq_getElem hil])
      unfold maxLen at hxs
      rw [← hx] at hcell hstep
      have htake : l.take (i + 1) = l.take i ++ [x] := by
        rw [List.take_add_one, List.getElem?_eq_getElem hil, hx]
        simp [List.getD_eq_getElem?_getD, List.getElem?_eq_getElem hil]
      have HXN : Hid (x.size ≤ 1000 → ∀ y ∈ l.take (i + 1), y.size ≤ 1000) := fun hx1 y hy => by
        rw [htake] at hy
        rcases List.mem_append.1 hy with h | h
        · exact HX.out y h
        · simp at h; subst h; exact hx1
      clear hx hil hc htake HX
      by_cases hbig : 1000 < x.size
      · clear hstep
        by_cases hi0 : i = 0
        · subst hi0
          rw [Nat.add_zero] at hcell
          go_wp2
          go_ret
          exact ⟨rfl, hB⟩
        · go_wp2
          go_ret
          exact ⟨rfl, hB⟩
      · have HX2 := HXN.out (by omega)
        have HX3 : Hid (∀ y ∈ l.take (i + 1), y.size ≤ 1000) := HX2
        clear HX2 HXN
        by_cases hi0 : i = 0
        · subst hi0
          rw [Nat.add_zero] at hcell
          rw [if_pos rfl] at hstep
          have hU : U = ⟨#[]⟩ := HU.out
          subst hU
          have HV : Hid ((⟨#[]⟩ : ByteArray) ++ x = joined (l.take (0 + 1))) := hstep.symm
          have ha : ∀ W : World, (Op.stringOp .add ⟨#[]⟩ x).run Try.prog W = .ok (.string (⟨#[]⟩ ++ x)) W := fun W => run_string_add_sum W _ _ (by omega)
          generalize (⟨#[]⟩ : ByteArray) ++ x = V at *
          clear hstep
          go_wp2
          go_round
          case rel => exact ⟨rfl, 1, V, rfl, rfl, by omega, HV, HX3⟩
          case measure => simp [intOf]; omega
        · rw [if_neg hi0, ← HU.out] at hstep
          have HV : Hid (U ++ ⟨#[47]⟩ ++ x = joined (l.take (i + 1))) := hstep.symm
          have ha : ∀ W : World, (Op.stringOp .add U ⟨#[47]⟩).run Try.prog W = .ok (.string (U ++ ⟨#[47]⟩)) W := fun W => run_string_add_sum W _ _ (by show U.size + 1 ≤ _; omega)
          have hUz : (U ++ ⟨#[47]⟩ : ByteArray).size = U.size + 1 := by rw [ByteArray.size_append]; rfl
          generalize U ++ (⟨#[47]⟩ : ByteArray) = U2 at *
          have hb2 : ∀ W : World, (Op.stringOp .add U2 x).run Try.prog W = .ok (.string (U2 ++ x)) W := fun W => run_string_add_sum W _ _ (by omega)
          generalize U2 ++ x = V at *
          clear hstep hUz
          go_wp2
          go_round
          case rel => exact ⟨rfl, i + 1, V, rfl, by go_num, by omega, HV, HX3⟩
          case measure => simp [intOf]; omega
    · have hin : i = n := by omega
      subst hin
      have htl : l.take i = l := List.take_of_length_le (by rw [← HN.out]; omega)
      rw [htl] at HU HX
      have hJ : (joined l).size ≤ 140737488355328 := by
        have h := joined_size l 1000 HX.out
        rw [← HN.out] at h
        have := Nat.mul_le_mul_right 1001 hn20
        omega
      have hcapm : i ≤ 140737488355328 := by omega
      have hown0 : Strs w1.heap.size (.slice (some ⟨w1.heap.size, 0, none⟩) 0 0) [] w1 (w1.alloc (.cells #[] 9)) :=
        ⟨World.ownsRow_lit w1 #[] 0 (Nat.le_refl _) (Nat.zero_le _) rfl, (Below.refl _ _).alloc (Nat.le_refl _) _, Nat.le_of_lt (by simp)⟩
      have hl0 : Lies (w1.alloc (.cells #[] 9)) a l := HL1.out.below ((Below.refl _ _).alloc (Nat.le_refl _) _) (Nat.le_refl _)
      have hbL : Hid (∀ W, Below w1.heap.size w1 W → Lies W a l) := fun W h => HL1.out.below h (Nat.le_refl _)
      have hP : Hid (∀ W, Lies W a l → Calls Try.prog 15 #[.slice a i cap] W fun e w' => e = .returned (.bool (arePath l)) ∧ W = w') := fun W h =>
        refParts_any a l i cap W HN.out h hcapm (fun x hx => by have := HX.out x hx; omega)
      have hsame : Hid (∀ a1 c1 W, Lies W a1 l → Lies W a l → Calls Try.prog 13 #[.slice a1 i c1, .slice a i cap] W fun e w' => e = .returned (.bool true) ∧ Below W.heap.size W w') := fun a1 c1 W h1 h2 => by
        have := same_any a1 l i c1 a l i cap W HN.out h1 HN.out h2 hcapm hcapm
        rw [decide_eq_true rfl] at this
        exact this
      cases hok : arePath l with
      | true =>
        have hj : Hid (∀ a1 c1 W, Lies W a1 l → i ≤ c1 → Calls Try.prog 14 #[.slice a1 i c1] W fun e w' => e = .returned (.tuple #[.string U, .nilIface]) ∧ Below W.heap.size W w') := fun a1 c1 W h1 hc => by
          have := join_ok a1 l i c1 W HN.out h1 hc hcapm hJ hok
          rw [← HU.out] at this
          exact this
        have hse : (U.toList == U.toList) = true := by simp
        rw [hok] at hP
        clear hJ HX HU HS
        go_wp2_with (at_builtin; refine wpList_strs rfl (.tmp 38) (.tmp 39) rfl w1.heap.size _ [] rfl w1 hown0 l a i cap rfl HN.out hl0 HNIL.out hkc (by show 0 + i ≤ _; omega) ?_; intro v' w2 hb2; rw [List.nil_append] at hb2; obtain ⟨a1, c1, rfl, hc1, hcm1, hl1⟩ := hb2.liesN HN.out)
        refine (hj.out a1 c1 w2 hl1 hc1).mono ?_
        rintro e w3 ⟨rfl, hb3⟩
        have hB3 := hb2.2.1.trans (hb3.mono hb2.2.2)
        have hl3 := hl1.below hb3 (Nat.le_refl _)
        have hA3 := hbL.out w3 hB3
        clear hl0 hown0 hl1
        go_wp2_with fail
        refine (hsame.out a1 c1 w3 hl3 hA3).mono ?_
        rintro e w4 ⟨rfl, hb4⟩
        have hB4 := hB3.trans (hb4.mono hB3.size)
        have hA4 := hbL.out w4 hB4
        go_wp2_with fail
        refine (hP.out w4 hA4).mono ?_
        rintro e w5 ⟨rfl, rfl⟩
        go_wp2
        go_ret
        exact ⟨rfl, hB.trans (hB4.mono hB.size)⟩
      | false =>
        have hj : Hid (∀ a1 c1 W, Lies W a1 l → Calls Try.prog 14 #[.slice a1 i c1] W fun e w' => e = .returned (.tuple #[.string ⟨#[]⟩, .iface 30 (.int .i64 2)]) ∧ Below W.heap.size W w') := fun a1 c1 W h1 =>
          join_no a1 l i c1 W HN.out h1 hcapm hok
        rw [hok] at hP
        clear hJ HX HU HS
        go_wp2_with (at_builtin; refine wpList_strs rfl (.tmp 38) (.tmp 39) rfl w1.heap.size _ [] rfl w1 hown0 l a i cap rfl HN.out hl0 HNIL.out hkc (by show 0 + i ≤ _; omega) ?_; intro v' w2 hb2; rw [List.nil_append] at hb2; obtain ⟨a1, c1, rfl, hc1, hcm1, hl1⟩ := hb2.liesN HN.out)
        refine (hj.out a1 c1 w2 hl1).mono ?_
        rintro e w3 ⟨rfl, hb3⟩
        have hB3 := hb2.2.1.trans (hb3.mono hb2.2.2)
        have hl3 := hl1.below hb3 (Nat.le_refl _)
        have hA3 := hbL.out w3 hB3
        clear hl0 hown0 hl1
        go_wp2_with fail
        refine (hsame.out a1 c1 w3 hl3 hA3).mono ?_
        rintro e w4 ⟨rfl, hb4⟩
        have hB4 := hB3.trans (hb4.mono hB3.size)
        have hA4 := hbL.out w4 hB4
        go_wp2_with fail
        refine (hP.out w4 hA4).mono ?_
        rintro e w5 ⟨rfl, rfl⟩
        go_wp2
        go_ret
        exact ⟨rfl, hB.trans (hB4.mono hB.size)⟩

theorem routeJoins_walk (a : Option Addr) (l : List ByteArray) (n cap : Nat) (w : World) (hn : n = l.length) (hl : Lies w a l) (hkc : n ≤ cap) (hcm : cap ≤ maxLen) (hnil : a = none → cap = 0) (hs : ∀ x ∈ l, x.size ≤ maxLen) :
    Calls Try.prog 4 #[.slice a n cap] w fun e w' => e = .returned (.bool true) ∧ Below w.heap.size w w' := by
  by_cases h : 20 < n
  · exact routeJoins_far a n cap w h (by omega)
  · exact routeJoins_near a l n cap w hn hl (by omega) hkc hnil hs
end Go.Proofs.Ytdbndfignjnjkaa
