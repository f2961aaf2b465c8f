/-
  The walk of RouteBack.
-/
import Derived.Test.YtdbndfignjnjkaaUp
import Derived.Test.YtdbndfignjnjkaaBack
namespace Go.Proofs.Ytdbndfignjnjkaa
open Go.RowKit

set_option maxHeartbeats 1000000 in
theorem routeBack_far (a b c : ByteArray) (w : World) (ha : a.size ≤ maxLen) (hb : b.size ≤ maxLen) (hc : c.size ≤ maxLen) (h : 2000 < a.size ∨ 2000 < b.size ∨ 2000 < c.size) :
    Calls Try.prog 6 #[.string a, .string b, .string c] w fun e w' => e = .returned (.bool true) ∧ Below w.heap.size w w' := by
  unfold maxLen at ha hb hc
  by_cases h1 : 2000 < a.size
  · clear h
    go_enter Try.func6, Try.ntmps6
    go_wp2_with fail
    refine (up_any w).mono ?_
    rintro e w1 ⟨rfl, hb⟩
    go_wp2
    go_ret
    exact ⟨rfl, hb⟩
  · by_cases h2 : 2000 < b.size
    · clear h
      go_enter Try.func6, Try.ntmps6
      go_wp2_with fail
      refine (up_any w).mono ?_
      rintro e w1 ⟨rfl, hb⟩
      go_wp2
      go_ret
      exact ⟨rfl, hb⟩
    · have h3 : 2000 < c.size := by omega
      clear h
      go_enter Try.func6, Try.ntmps6
      go_wp2_with fail
      refine (up_any w).mono ?_
      rintro e w1 ⟨rfl, hb⟩
      go_wp2
      go_ret
      exact ⟨rfl, hb⟩

/-- The tests behind: what goes together. -/
theorem tests (a b c : ByteArray) : (isUnder a b && isUnder b c && !isUnder a c) = false ∧ (isUnder a b && isUnder b a) = false ∧ isUnder a a = false := by
  refine ⟨?_, ?_, under_self a⟩
  · cases h1 : isUnder a b with
    | false => rfl
    | true =>
      cases h2 : isUnder b c with
      | false => rfl
      | true => rw [under_trans h1 h2]; rfl
  · cases h1 : isUnder a b with
    | false => rfl
    | true => rw [under_not h1]; rfl

theorem empty_toList : (⟨#[]⟩ : ByteArray).toList = [] := by rw [ByteArray.toList_eq]

set_option maxHeartbeats 4000000 in
set_option maxRecDepth 100000 in
theorem routeBack_no (a b c : ByteArray) (w : World) (ha : a.size ≤ 2000) (hb : b.size ≤ 2000) (hc : c.size ≤ 2000) (hp : isPath a = false) :
    Calls Try.prog 6 #[.string a, .string b, .string c] w fun e w' => e = .returned (.bool true) ∧ Below w.heap.size w w' := by
  have hpn : Hid (∀ w1, Calls Try.prog 9 #[.string a] w1 fun e w' => e = .returned (.tuple #[.slice none 0 0, .iface 30 (.int .i64 2)]) ∧ Below w1.heap.size w1 w') := fun w1 => parts_no a w1 (by omega) hp
  have hen := eqErrNil
  have hen2 := eqNil
  have hen3 := neNil
  have hab : Hid (∀ w1, Calls Try.prog 16 #[.string a, .string b] w1 fun e w' => e = .returned (.bool (isUnder a b)) ∧ Below w1.heap.size w1 w') := fun w1 => under_any a b w1 (by omega) (by omega)
  have hbc : Hid (∀ w1, Calls Try.prog 16 #[.string b, .string c] w1 fun e w' => e = .returned (.bool (isUnder b c)) ∧ Below w1.heap.size w1 w') := fun w1 => under_any b c w1 (by omega) (by omega)
  have hac : Hid (∀ w1, Calls Try.prog 16 #[.string a, .string c] w1 fun e w' => e = .returned (.bool (isUnder a c)) ∧ Below w1.heap.size w1 w') := fun w1 => under_any a c w1 (by omega) (by omega)
  have hba : Hid (∀ w1, Calls Try.prog 16 #[.string b, .string a] w1 fun e w' => e = .returned (.bool (isUnder b a)) ∧ Below w1.heap.size w1 w') := fun w1 => under_any b a w1 (by omega) (by omega)
  have haa : Hid (∀ w1, Calls Try.prog 16 #[.string a, .string a] w1 fun e w' => e = .returned (.bool (isUnder a a)) ∧ Below w1.heap.size w1 w') := fun w1 => under_any a a w1 (by omega) (by omega)
  obtain ⟨t1, t2, t3⟩ := tests a b c
  rw [t3] at haa
  clear t3
  generalize isUnder a b = ab at *
  generalize isUnder b c = bc at *
  generalize isUnder a c = ac at *
  generalize isUnder b a = ba at *
  clear hp
  cases ab with
  | false =>
    clear t1 t2 hba hbc hac
    go_enter Try.func6, Try.ntmps6
    go_wp2_with fail
    refine (up_any w).mono ?_
    rintro e w1 ⟨rfl, hb1⟩
    go_wp2_with fail
    refine (hpn.out w1).mono ?_
    rintro e W ⟨rfl, hb2⟩
    have hB := hb1.trans (hb2.mono hb1.size)
    clear hb1 hb2
    go_wp2_with fail
    refine (hab.out W).mono ?_
    rintro e W0 ⟨rfl, hb⟩
    replace hB := hB.trans (hb.mono hB.size)
    clear hb
    go_wp2_with fail
    refine (hab.out W0).mono ?_
    rintro e W1 ⟨rfl, hb⟩
    replace hB := hB.trans (hb.mono hB.size)
    clear hb
    go_wp2_with fail
    refine (haa.out W1).mono ?_
    rintro e W2 ⟨rfl, hb⟩
    replace hB := hB.trans (hb.mono hB.size)
    clear hb
    go_wp2
    go_ret
    exact ⟨rfl, hB⟩
  | true =>
    have hba0 : ba = false := t2
    subst hba0
    cases bc with
    | false =>
      clear t1 t2 hac
      go_enter Try.func6, Try.ntmps6
      go_wp2_with fail
      refine (up_any w).mono ?_
      rintro e w1 ⟨rfl, hb1⟩
      go_wp2_with fail
      refine (hpn.out w1).mono ?_
      rintro e W ⟨rfl, hb2⟩
      have hB := hb1.trans (hb2.mono hb1.size)
      clear hb1 hb2
      go_wp2_with fail
      refine (hab.out W).mono ?_
      rintro e W0 ⟨rfl, hb⟩
      replace hB := hB.trans (hb.mono hB.size)
      clear hb
      go_wp2_with fail
      refine (hbc.out W0).mono ?_
      rintro e W1 ⟨rfl, hb⟩
      replace hB := hB.trans (hb.mono hB.size)
      clear hb
      go_wp2_with fail
      refine (hab.out W1).mono ?_
      rintro e W2 ⟨rfl, hb⟩
      replace hB := hB.trans (hb.mono hB.size)
      clear hb
      go_wp2_with fail
      refine (hba.out W2).mono ?_
      rintro e W3 ⟨rfl, hb⟩
      replace hB := hB.trans (hb.mono hB.size)
      clear hb
      go_wp2_with fail
      refine (haa.out W3).mono ?_
      rintro e W4 ⟨rfl, hb⟩
      replace hB := hB.trans (hb.mono hB.size)
      clear hb
      go_wp2
      go_ret
      exact ⟨rfl, hB⟩
    | true =>
      have hac1 : ac = true := by cases ac <;> simp_all
      subst hac1
      clear t1 t2
      go_enter Try.func6, Try.ntmps6
      go_wp2_with fail
      refine (up_any w).mono ?_
      rintro e w1 ⟨rfl, hb1⟩
      go_wp2_with fail
      refine (hpn.out w1).mono ?_
      rintro e W ⟨rfl, hb2⟩
      have hB := hb1.trans (hb2.mono hb1.size)
      clear hb1 hb2
      go_wp2_with fail
      refine (hab.out W).mono ?_
      rintro e W0 ⟨rfl, hb⟩
      replace hB := hB.trans (hb.mono hB.size)
      clear hb
      go_wp2_with fail
      refine (hbc.out W0).mono ?_
      rintro e W1 ⟨rfl, hb⟩
      replace hB := hB.trans (hb.mono hB.size)
      clear hb
      go_wp2_with fail
      refine (hac.out W1).mono ?_
      rintro e W2 ⟨rfl, hb⟩
      replace hB := hB.trans (hb.mono hB.size)
      clear hb
      go_wp2_with fail
      refine (hab.out W2).mono ?_
      rintro e W3 ⟨rfl, hb⟩
      replace hB := hB.trans (hb.mono hB.size)
      clear hb
      go_wp2_with fail
      refine (hba.out W3).mono ?_
      rintro e W4 ⟨rfl, hb⟩
      replace hB := hB.trans (hb.mono hB.size)
      clear hb
      go_wp2_with fail
      refine (haa.out W4).mono ?_
      rintro e W5 ⟨rfl, hb⟩
      replace hB := hB.trans (hb.mono hB.size)
      clear hb
      go_wp2
      go_ret
      exact ⟨rfl, hB⟩

set_option maxHeartbeats 4000000 in
set_option maxRecDepth 100000 in
theorem routeBack_one (a b c : ByteArray) (w : World) (ha : a.size ≤ 2000) (hb : b.size ≤ 2000) (hc : c.size ≤ 2000) (hp : isPath a = true) (hone : (parts a).length = 1) :
    Calls Try.prog 6 #[.string a, .string b, .string c] w fun e w' => e = .returned (.bool true) ∧ Below w.heap.size w w' := by
  have hup : Hid (∀ w1, Calls Try.prog 11 #[.string a] w1 fun e w' => e = .returned (.string ⟨#[]⟩) ∧ Below w1.heap.size w1 w') := fun w1 => by
    have := parent_ok a w1 (by omega) hp
    rw [up_empty hone] at this
    exact this
  have hlen := path_len hp
  obtain ⟨n, hn⟩ : ∃ n, n = (parts a).length := ⟨_, rfl⟩
  rw [← hn] at hlen hone
  have HN : Hid (n = (parts a).length) := hn
  have hpo : Hid (∀ w1, Calls Try.prog 9 #[.string a] w1 fun e w' => ∃ v, e = .returned (.tuple #[v, .nilIface]) ∧ Strs w1.heap.size v (parts a) w1 w') := fun w1 => parts_ok a w1 (by omega) hp
  have hj : Hid (∀ a1 cap1 w1, Lies w1 a1 (parts a) → n ≤ cap1 → Calls Try.prog 14 #[.slice a1 n cap1] w1 fun e w' => e = .returned (.tuple #[.string a, .nilIface]) ∧ Below w1.heap.size w1 w') := fun a1 cap1 w1 hl hc => by
    have := join_ok a1 (parts a) n cap1 w1 hn hl hc (by omega) (by rw [joined_parts]; omega) hp
    rw [joined_parts] at this
    exact this
  have hse : (a.toList == a.toList) = true := by simp
  subst hone
  have hen := eqErrNil
  have hen2 := eqNil
  have hen3 := neNil
  have hab : Hid (∀ w1, Calls Try.prog 16 #[.string a, .string b] w1 fun e w' => e = .returned (.bool (isUnder a b)) ∧ Below w1.heap.size w1 w') := fun w1 => under_any a b w1 (by omega) (by omega)
  have hbc : Hid (∀ w1, Calls Try.prog 16 #[.string b, .string c] w1 fun e w' => e = .returned (.bool (isUnder b c)) ∧ Below w1.heap.size w1 w') := fun w1 => under_any b c w1 (by omega) (by omega)
  have hac : Hid (∀ w1, Calls Try.prog 16 #[.string a, .string c] w1 fun e w' => e = .returned (.bool (isUnder a c)) ∧ Below w1.heap.size w1 w') := fun w1 => under_any a c w1 (by omega) (by omega)
  have hba : Hid (∀ w1, Calls Try.prog 16 #[.string b, .string a] w1 fun e w' => e = .returned (.bool (isUnder b a)) ∧ Below w1.heap.size w1 w') := fun w1 => under_any b a w1 (by omega) (by omega)
  have haa : Hid (∀ w1, Calls Try.prog 16 #[.string a, .string a] w1 fun e w' => e = .returned (.bool (isUnder a a)) ∧ Below w1.heap.size w1 w') := fun w1 => under_any a a w1 (by omega) (by omega)
  obtain ⟨t1, t2, t3⟩ := tests a b c
  rw [t3] at haa
  clear t3
  generalize isUnder a b = ab at *
  generalize isUnder b c = bc at *
  generalize isUnder a c = ac at *
  generalize isUnder b a = ba at *
  clear hp hn
  generalize parts a = l at *
  cases ab with
  | false =>
    clear t1 t2 hba hbc hac
    go_enter Try.func6, Try.ntmps6
    go_wp2_with fail
    refine (up_any w).mono ?_
    rintro e w1 ⟨rfl, hB⟩
    go_wp2_with fail
    refine (hpo.out w1).mono ?_
    rintro e w2 ⟨v, rfl, hbS⟩
    obtain ⟨a1, cap1, rfl, hc1, hcm1, hl1⟩ := hbS.liesN HN.out
    replace hB := hB.trans (hbS.2.1.mono hB.size)
    go_wp2_with fail
    refine (hj.out a1 cap1 w2 hl1 hc1).mono ?_
    rintro e w3 ⟨rfl, hb⟩
    replace hB := hB.trans (hb.mono hB.size)
    clear hb hl1 hbS
    go_wp2_with fail
    refine (hup.out w3).mono ?_
    rintro e W ⟨rfl, hb⟩
    replace hB := hB.trans (hb.mono hB.size)
    clear hb
    go_wp2_with fail
    refine (hab.out W).mono ?_
    rintro e W0 ⟨rfl, hb⟩
    replace hB := hB.trans (hb.mono hB.size)
    clear hb
    go_wp2_with fail
    refine (hab.out W0).mono ?_
    rintro e W1 ⟨rfl, hb⟩
    replace hB := hB.trans (hb.mono hB.size)
    clear hb
    go_wp2_with fail
    refine (haa.out W1).mono ?_
    rintro e W2 ⟨rfl, hb⟩
    replace hB := hB.trans (hb.mono hB.size)
    clear hb
    go_wp2
    go_ret
    exact ⟨rfl, hB⟩
  | true =>
    have hba0 : ba = false := t2
    subst hba0
    cases bc with
    | false =>
      clear t1 t2 hac
      go_enter Try.func6, Try.ntmps6
      go_wp2_with fail
      refine (up_any w).mono ?_
      rintro e w1 ⟨rfl, hB⟩
      go_wp2_with fail
      refine (hpo.out w1).mono ?_
      rintro e w2 ⟨v, rfl, hbS⟩
      obtain ⟨a1, cap1, rfl, hc1, hcm1, hl1⟩ := hbS.liesN HN.out
      replace hB := hB.trans (hbS.2.1.mono hB.size)
      go_wp2_with fail
      refine (hj.out a1 cap1 w2 hl1 hc1).mono ?_
      rintro e w3 ⟨rfl, hb⟩
      replace hB := hB.trans (hb.mono hB.size)
      clear hb hl1 hbS
      go_wp2_with fail
      refine (hup.out w3).mono ?_
      rintro e W ⟨rfl, hb⟩
      replace hB := hB.trans (hb.mono hB.size)
      clear hb
      go_wp2_with fail
      refine (hab.out W).mono ?_
      rintro e W0 ⟨rfl, hb⟩
      replace hB := hB.trans (hb.mono hB.size)
      clear hb
      go_wp2_with fail
      refine (hbc.out W0).mono ?_
      rintro e W1 ⟨rfl, hb⟩
      replace hB := hB.trans (hb.mono hB.size)
      clear hb
      go_wp2_with fail
      refine (hab.out W1).mono ?_
      rintro e W2 ⟨rfl, hb⟩
      replace hB := hB.trans (hb.mono hB.size)
      clear hb
      go_wp2_with fail
      refine (hba.out W2).mono ?_
      rintro e W3 ⟨rfl, hb⟩
      replace hB := hB.trans (hb.mono hB.size)
      clear hb
      go_wp2_with fail
      refine (haa.out W3).mono ?_
      rintro e W4 ⟨rfl, hb⟩
      replace hB := hB.trans (hb.mono hB.size)
      clear hb
      go_wp2
      go_ret
      exact ⟨rfl, hB⟩
    | true =>
      have hac1 : ac = true := by cases ac <;> simp_all
      subst hac1
      clear t1 t2
      go_enter Try.func6, Try.ntmps6
      go_wp2_with fail
      refine (up_any w).mono ?_
      rintro e w1 ⟨rfl, hB⟩
      go_wp2_with fail
      refine (hpo.out w1).mono ?_
      rintro e w2 ⟨v, rfl, hbS⟩
      obtain ⟨a1, cap1, rfl, hc1, hcm1, hl1⟩ := hbS.liesN HN.out
      replace hB := hB.trans (hbS.2.1.mono hB.size)
      go_wp2_with fail
      refine (hj.out a1 cap1 w2 hl1 hc1).mono ?_
      rintro e w3 ⟨rfl, hb⟩
      replace hB := hB.trans (hb.mono hB.size)
      clear hb hl1 hbS
      go_wp2_with fail
      refine (hup.out w3).mono ?_
      rintro e W ⟨rfl, hb⟩
      replace hB := hB.trans (hb.mono hB.size)
      clear hb
      go_wp2_with fail
      refine (hab.out W).mono ?_
      rintro e W0 ⟨rfl, hb⟩
      replace hB := hB.trans (hb.mono hB.size)
      clear hb
      go_wp2_with fail
      refine (hbc.out W0).mono ?_
      rintro e W1 ⟨rfl, hb⟩
      replace hB := hB.trans (hb.mono hB.size)
      clear hb
      go_wp2_with fail
      refine (hac.out W1).mono ?_
      rintro e W2 ⟨rfl, hb⟩
      replace hB := hB.trans (hb.mono hB.size)
      clear hb
      go_wp2_with fail
      refine (hab.out W2).mono ?_
      rintro e W3 ⟨rfl, hb⟩
      replace hB := hB.trans (hb.mono hB.size)
      clear hb
      go_wp2_with fail
      refine (hba.out W3).mono ?_
      rintro e W4 ⟨rfl, hb⟩
      replace hB := hB.trans (hb.mono hB.size)
      clear hb
      go_wp2_with fail
      refine (haa.out W4).mono ?_
      rintro e W5 ⟨rfl, hb⟩
      replace hB := hB.trans (hb.mono hB.size)
      clear hb
      go_wp2
      go_ret
      exact ⟨rfl, hB⟩

set_option maxHeartbeats 4000000 in
set_option maxRecDepth 100000 in
theorem routeBack_more (a b c : ByteArray) (w : World) (ha : a.size ≤ 2000) (hb : b.size ≤ 2000) (hc : c.size ≤ 2000) (hp : isPath a = true) (hone : (parts a).length ≠ 1) :
    Calls Try.prog 6 #[.string a, .string b, .string c] w fun e w' => e = .returned (.bool true) ∧ Below w.heap.size w w' := by
  have hup : Hid (∀ w1, Calls Try.prog 11 #[.string a] w1 fun e w' => e = .returned (.string (up a)) ∧ Below w1.heap.size w1 w') := fun w1 => parent_ok a w1 (by omega) hp
  have hmore := up_more hp hone
  have hne : ((up a).toList == []) = false := by
    have h := str_eq (up a) ⟨#[]⟩
    rw [decide_eq_false hmore.1, empty_toList] at h
    exact h
  have hupz : (up a).size ≤ 100000 := by
    have hl := path_len hp
    have h := joined_size ((parts a).take ((parts a).length - 1)) a.size (fun x hx => parts_size a x (List.mem_of_mem_take hx))
    rw [List.length_take] at h
    have h8 : min ((parts a).length - 1) (parts a).length ≤ 8 := by omega
    have := Nat.mul_le_mul h8 (show a.size + 1 ≤ 2001 by omega)
    rw [up]
    omega
  have hpu : Hid (∀ w1, Calls Try.prog 16 #[.string (up a), .string a] w1 fun e w' => e = .returned (.bool true) ∧ Below w1.heap.size w1 w') := fun w1 => by
    have := under_any (up a) a w1 hupz (by omega)
    rw [hmore.2] at this
    exact this
  have hlen := path_len hp
  obtain ⟨n, hn⟩ : ∃ n, n = (parts a).length := ⟨_, rfl⟩
  rw [← hn] at hlen hone
  have HN : Hid (n = (parts a).length) := hn
  have hpo : Hid (∀ w1, Calls Try.prog 9 #[.string a] w1 fun e w' => ∃ v, e = .returned (.tuple #[v, .nilIface]) ∧ Strs w1.heap.size v (parts a) w1 w') := fun w1 => parts_ok a w1 (by omega) hp
  have hj : Hid (∀ a1 cap1 w1, Lies w1 a1 (parts a) → n ≤ cap1 → Calls Try.prog 14 #[.slice a1 n cap1] w1 fun e w' => e = .returned (.tuple #[.string a, .nilIface]) ∧ Below w1.heap.size w1 w') := fun a1 cap1 w1 hl hc => by
    have := join_ok a1 (parts a) n cap1 w1 hn hl hc (by omega) (by rw [joined_parts]; omega) hp
    rw [joined_parts] at this
    exact this
  have hse : (a.toList == a.toList) = true := by simp
  have hone2 : ((n : Int) == 1) = false := by simp; omega
  clear hmore hupz
  have hen := eqErrNil
  have hen2 := eqNil
  have hen3 := neNil
  have hab : Hid (∀ w1, Calls Try.prog 16 #[.string a, .string b] w1 fun e w' => e = .returned (.bool (isUnder a b)) ∧ Below w1.heap.size w1 w') := fun w1 => under_any a b w1 (by omega) (by omega)
  have hbc : Hid (∀ w1, Calls Try.prog 16 #[.string b, .string c] w1 fun e w' => e = .returned (.bool (isUnder b c)) ∧ Below w1.heap.size w1 w') := fun w1 => under_any b c w1 (by omega) (by omega)
  have hac : Hid (∀ w1, Calls Try.prog 16 #[.string a, .string c] w1 fun e w' => e = .returned (.bool (isUnder a c)) ∧ Below w1.heap.size w1 w') := fun w1 => under_any a c w1 (by omega) (by omega)
  have hba : Hid (∀ w1, Calls Try.prog 16 #[.string b, .string a] w1 fun e w' => e = .returned (.bool (isUnder b a)) ∧ Below w1.heap.size w1 w') := fun w1 => under_any b a w1 (by omega) (by omega)
  have haa : Hid (∀ w1, Calls Try.prog 16 #[.string a, .string a] w1 fun e w' => e = .returned (.bool (isUnder a a)) ∧ Below w1.heap.size w1 w') := fun w1 => under_any a a w1 (by omega) (by omega)
  obtain ⟨t1, t2, t3⟩ := tests a b c
  rw [t3] at haa
  clear t3
  generalize isUnder a b = ab at *
  generalize isUnder b c = bc at *
  generalize isUnder a c = ac at *
  generalize isUnder b a = ba at *
  clear hp hn
  generalize parts a = l at *
  generalize up a = u at *
  cases ab with
  | false =>
    clear t1 t2 hba hbc hac
    go_enter Try.func6, Try.ntmps6
    go_wp2_with fail
    refine (up_any w).mono ?_
    rintro e w1 ⟨rfl, hB⟩
    go_wp2_with fail
    refine (hpo.out w1).mono ?_
    rintro e w2 ⟨v, rfl, hbS⟩
    obtain ⟨a1, cap1, rfl, hc1, hcm1, hl1⟩ := hbS.liesN HN.out
    replace hB := hB.trans (hbS.2.1.mono hB.size)
    go_wp2_with fail
    refine (hj.out a1 cap1 w2 hl1 hc1).mono ?_
    rintro e w3 ⟨rfl, hb⟩
    replace hB := hB.trans (hb.mono hB.size)
    clear hb hl1 hbS
    go_wp2_with fail
    refine (hup.out w3).mono ?_
    rintro e w4 ⟨rfl, hb⟩
    replace hB := hB.trans (hb.mono hB.size)
    clear hb
    go_wp2_with fail
    refine (hpu.out w4).mono ?_
    rintro e W ⟨rfl, hb⟩
    replace hB := hB.trans (hb.mono hB.size)
    clear hb
    go_wp2_with fail
    refine (hab.out W).mono ?_
    rintro e W0 ⟨rfl, hb⟩
    replace hB := hB.trans (hb.mono hB.size)
    clear hb
    go_wp2_with fail
    refine (hab.out W0).mono ?_
    rintro e W1 ⟨rfl, hb⟩
    replace hB := hB.trans (hb.mono hB.size)
    clear hb
    go_wp2_with fail
    refine (haa.out W1).mono ?_
    rintro e W2 ⟨rfl, hb⟩
    replace hB := hB.trans (hb.mono hB.size)
    clear hb
    go_wp2
    go_ret
    exact ⟨rfl, hB⟩
  | true =>
    have hba0 : ba = false := t2
    subst hba0
    cases bc with
    | false =>
      clear t1 t2 hac
      go_enter Try.func6, Try.ntmps6
      go_wp2_with fail
      refine (up_any w).mono ?_
      rintro e w1 ⟨rfl, hB⟩
      go_wp2_with fail
      refine (hpo.out w1).mono ?_
      rintro e w2 ⟨v, rfl, hbS⟩
      obtain ⟨a1, cap1, rfl, hc1, hcm1, hl1⟩ := hbS.liesN HN.out
      replace hB := hB.trans (hbS.2.1.mono hB.size)
      go_wp2_with fail
      refine (hj.out a1 cap1 w2 hl1 hc1).mono ?_
      rintro e w3 ⟨rfl, hb⟩
      replace hB := hB.trans (hb.mono hB.size)
      clear hb hl1 hbS
      go_wp2_with fail
      refine (hup.out w3).mono ?_
      rintro e w4 ⟨rfl, hb⟩
      replace hB := hB.trans (hb.mono hB.size)
      clear hb
      go_wp2_with fail
      refine (hpu.out w4).mono ?_
      rintro e W ⟨rfl, hb⟩
      replace hB := hB.trans (hb.mono hB.size)
      clear hb
      go_wp2_with fail
      refine (hab.out W).mono ?_
      rintro e W0 ⟨rfl, hb⟩
      replace hB := hB.trans (hb.mono hB.size)
      clear hb
      go_wp2_with fail
      refine (hbc.out W0).mono ?_
      rintro e W1 ⟨rfl, hb⟩
      replace hB := hB.trans (hb.mono hB.size)
      clear hb
      go_wp2_with fail
      refine (hab.out W1).mono ?_
      rintro e W2 ⟨rfl, hb⟩
      replace hB := hB.trans (hb.mono hB.size)
      clear hb
      go_wp2_with fail
      refine (hba.out W2).mono ?_
      rintro e W3 ⟨rfl, hb⟩
      replace hB := hB.trans (hb.mono hB.size)
      clear hb
      go_wp2_with fail
      refine (haa.out W3).mono ?_
      rintro e W4 ⟨rfl, hb⟩
      replace hB := hB.trans (hb.mono hB.size)
      clear hb
      go_wp2
      go_ret
      exact ⟨rfl, hB⟩
    | true =>
      have hac1 : ac = true := by cases ac <;> simp_all
      subst hac1
      clear t1 t2
      go_enter Try.func6, Try.ntmps6
      go_wp2_with fail
      refine (up_any w).mono ?_
      rintro e w1 ⟨rfl, hB⟩
      go_wp2_with fail
      refine (hpo.out w1).mono ?_
      rintro e w2 ⟨v, rfl, hbS⟩
      obtain ⟨a1, cap1, rfl, hc1, hcm1, hl1⟩ := hbS.liesN HN.out
      replace hB := hB.trans (hbS.2.1.mono hB.size)
      go_wp2_with fail
      refine (hj.out a1 cap1 w2 hl1 hc1).mono ?_
      rintro e w3 ⟨rfl, hb⟩
      replace hB := hB.trans (hb.mono hB.size)
      clear hb hl1 hbS
      go_wp2_with fail
      refine (hup.out w3).mono ?_
      rintro e w4 ⟨rfl, hb⟩
      replace hB := hB.trans (hb.mono hB.size)
      clear hb
      go_wp2_with fail
      refine (hpu.out w4).mono ?_
      rintro e W ⟨rfl, hb⟩
      replace hB := hB.trans (hb.mono hB.size)
      clear hb
      go_wp2_with fail
      refine (hab.out W).mono ?_
      rintro e W0 ⟨rfl, hb⟩
      replace hB := hB.trans (hb.mono hB.size)
      clear hb
      go_wp2_with fail
      refine (hbc.out W0).mono ?_
      rintro e W1 ⟨rfl, hb⟩
      replace hB := hB.trans (hb.mono hB.size)
      clear hb
      go_wp2_with fail
      refine (hac.out W1).mono ?_
      rintro e W2 ⟨rfl, hb⟩
      replace hB := hB.trans (hb.mono hB.size)
      clear hb
      go_wp2_with fail
      refine (hab.out W2).mono ?_
      rintro e W3 ⟨rfl, hb⟩
      replace hB := hB.trans (hb.mono hB.size)
      clear hb
      go_wp2_with fail
      refine (hba.out W3).mono ?_
      rintro e W4 ⟨rfl, hb⟩
      replace hB := hB.trans (hb.mono hB.size)
      clear hb
      go_wp2_with fail
      refine (haa.out W4).mono ?_
      rintro e W5 ⟨rfl, hb⟩
      replace hB := hB.trans (hb.mono hB.size)
      clear hb
      go_wp2
      go_ret
      exact ⟨rfl, hB⟩

theorem routeBack_walk (a b c : ByteArray) (w : World) (ha : a.size ≤ maxLen) (hb : b.size ≤ maxLen) (hc : c.size ≤ maxLen) :
    Calls Try.prog 6 #[.string a, .string b, .string c] w fun e w' => e = .returned (.bool true) ∧ Below w.heap.size w w' := by
  by_cases h : 2000 < a.size ∨ 2000 < b.size ∨ 2000 < c.size
  · exact routeBack_far a b c w ha hb hc h
  · cases hp : isPath a with
    | false => exact routeBack_no a b c w (by omega) (by omega) (by omega) hp
    | true =>
      by_cases h1 : (parts a).length = 1
      · exact routeBack_one a b c w (by omega) (by omega) (by omega) hp h1
      · exact routeBack_more a b c w (by omega) (by omega) (by omega) hp h1
end Go.Proofs.Ytdbndfignjnjkaa
