/-
  The walk of WireBack.
-/
import Derived.Test.YtiackikomefcfaaUp
import Derived.Test.YtiackikomefcfaaText
import Derived.Laws.AppendOwnNone
import Derived.Deep.RegionHeld
namespace Go.Proofs.Ytiackikomefcfaa
open Go.RowKit

/-- 'append(out, b...)', b bytes that lie somewhere, or nil. -/
theorem wpList_bytes_any {ops : Array Oper} {rest : List Oper} {o : Oper} {a : Act} {Q : Exit → Act → World → Prop} {w : World} (hgd : o.guard = none) (sl x : Operand)
    (ho : o.op = .call { callee := .builtin .append, args := #[sl, x], argTypes := #[22, 22] })
    (B : Nat) (v : Value) (l : List UInt8) (hs : a.eval sl = v) (W0 : World) (hb : Buf B v l W0 w) (r : List UInt8) (ad : Option Addr) (k c : Nat) (hx : a.eval x = .slice ad k c) (hk : k = r.length) (hr : Lies w ad r) (hnil : ad = none → c = 0) (hkc : k ≤ c) (hlen : l.length + k ≤ 140737488355328)
    (h : ∀ v' w', Buf B v' (l ++ r) W0 w' → wpList Try.prog ops Q rest (a.put o.dst v') w') : wpList Try.prog ops Q (o :: rest) a w := by
  subst hk
  cases ad with
  | none =>
    obtain ⟨i0, hi, _, _, _⟩ := info_parts info5
    have hc : c = 0 := hnil rfl
    have hr0 : r = [] := List.eq_nil_of_length_eq_zero (by omega)
    subst hr0; subst hc
    refine wpList_append_own_none hgd sl x 22 ho B 5 i0 1 Try.underlying22 hi v l.length (bv l) hs hb.1 hx ?_
    exact h v w (by rw [List.append_nil]; exact hb)
  | some ad => exact wpList_bytes hgd sl x ho B v l hs W0 hb r ad c hx hr hlen h

theorem neErr (w : World) : (binOp .neq 31 (.iface 37 (.int .i64 2)) .nilIface).run Try.prog w = .ok (.bool true) w := by kernel_rfl

theorem max64 : ((18446744073709551615 : Nat) : Int) = 18446744073709551615 := rfl

theorem drop_lead {k : Nat} {l x m : List UInt8} (h : k = l.length) : (l ++ x ++ m).drop k = x ++ m := by
  subst h; simp

/-- GetNum at the number that was written. -/
theorem getNum_back {a : Option Addr} {l m : List UInt8} {cap kx k n P : Nat} {w : World} (hkx : kx = (l ++ digs n ++ m).length) (hk : k = l.length) (hP : P = k + (digs n).length) (hn : n < 18446744073709551616)
    (hl : Lies w a (l ++ digs n ++ m)) (hlen : kx ≤ 100000000000000) (hlc : kx ≤ cap) :
    Calls Try.prog 11 #[.slice a kx cap, .int .i64 k, .int .u64 18446744073709551615] w fun e w' => e = .returned (.tuple #[.int .u64 n, .int .i64 P, .nilIface]) ∧ w = w' := by
  subst hP
  refine getNum_ok a (l ++ digs n ++ m) cap kx k 18446744073709551615 n (digs n).length w hkx hl hlen hlc ?_ ?_ (digs_pos n) (by omega)
  · rw [hkx, hk]; simp
  · rw [drop_lead hk]; exact rd_back hn m

/-- GetText at the text that was written. -/
theorem getText_back {a : Option Addr} {l m : List UInt8} {s : ByteArray} {cap kx k P : Nat} {w : World} (hkx : kx = (l ++ digs s.size ++ s.data.toList ++ m).length) (hk : k = l.length) (hP : P = k + (digs s.size).length + s.size) (hs : s.size ≤ 4096)
    (hl : Lies w a (l ++ digs s.size ++ s.data.toList ++ m)) (hlen : kx ≤ 100000000000000) (hlc : kx ≤ cap) (hcm : cap ≤ maxLen) :
    Calls Try.prog 12 #[.slice a kx cap, .int .i64 k, .int .i64 4096] w fun e w' => e = .returned (.tuple #[.string s, .int .i64 P, .nilIface]) ∧ w = w' := by
  subst hP
  have e1 : l ++ digs s.size ++ s.data.toList ++ m = l ++ digs s.size ++ (s.data.toList ++ m) := by simp
  have h2 : s.data.toList.length = s.size := by simp
  refine getText_ok a (l ++ digs s.size ++ s.data.toList ++ m) cap kx k 4096 s.size (digs s.size).length (k + (digs s.size).length) s w hkx hl hlen hlc hcm ?_ ?_ (digs_pos _) hs (Nat.le_refl _) rfl ?_ ?_
  · rw [hkx, hk]; simp
  · rw [e1, drop_lead hk]; exact rd_back (by omega) _
  · rw [hkx, hk]; simp only [List.length_append, h2]; omega
  · have e2 : (l ++ digs s.size ++ s.data.toList ++ m).drop (k + (digs s.size).length) = s.data.toList ++ m := by
      have : k + (digs s.size).length = (l ++ digs s.size).length := by rw [hk, List.length_append]
      rw [this]
      exact drop_lead rfl
    rw [e2, List.take_append_of_le_length (by omega), List.take_of_length_le (by omega)]

theorem getNum_zero_form {a : Option Addr} {m : List UInt8} {cap k r1 : Nat} {w : World} (hk : k = m.length) (hl : Lies w a m) (hlen : k ≤ 10000) (hlc : k ≤ cap) (hr : rd 0 0 m = (r1, 0)) :
    Calls Try.prog 11 #[.slice a k cap, .int .i64 0, .int .u64 18446744073709551615] w fun e w' => e = .returned (.tuple #[.int .u64 0, .int .i64 0, .iface 37 (.int .i64 2)]) ∧ w = w' :=
  getNum_form a m cap k 0 18446744073709551615 r1 w hk hl (by omega) hlc (Nat.zero_le _) hr

theorem getNum_zero_ok {a : Option Addr} {m : List UInt8} {cap k r1 r2 : Nat} {w : World} (hk : k = m.length) (hl : Lies w a m) (hlen : k ≤ 10000) (hlc : k ≤ cap) (hr : rd 0 0 m = (r1, r2)) (h2 : 0 < r2) (h1 : r1 < 18446744073709551616) :
    Calls Try.prog 11 #[.slice a k cap, .int .i64 0, .int .u64 18446744073709551615] w fun e w' => e = .returned (.tuple #[.int .u64 r1, .int .i64 r2, .nilIface]) ∧ w = w' := by
  have h := getNum_ok a m cap k 0 18446744073709551615 r1 r2 w hk hl (by omega) hlc (Nat.zero_le _) hr h2 (by omega)
  rw [Nat.zero_add] at h
  exact h

theorem num_at (w3 W : World) (n : Nat) (N : ByteArray) (hN : N = ⟨(digs n).toArray⟩) (hn : n < 18446744073709551616) (hS : Below w3.heap.size w3 W) :
    Calls Try.prog 7 #[.slice none 0 0, .int .u64 n] W fun e w' => ∃ a k cap, e = .returned (.slice a k cap) ∧ (convert 22 9 (.slice a k cap)).run Try.prog w' = .ok (.string N) w' ∧ Below w3.heap.size w3 w' := by
  subst hN
  refine (num_any none [] 0 n W (Or.inl rfl) (by decide) hn).mono ?_
  rintro e w' ⟨v, rfl, hb⟩
  obtain ⟨a, cap, rfl, _, _, h3, _, _⟩ := hb.form
  exact ⟨a, _, cap, rfl, conv_lies h3, hS.trans (hb.2.1.mono hS.size)⟩

set_option maxHeartbeats 3200000 in
theorem wireBack_core (a : Option Addr) (l : List UInt8) (cap k n : Nat) (s : ByteArray) (a' : Option Addr) (m : List UInt8) (cap' k' : Nat) (w : World) (hk : k = l.length) (hl : Lies w a l) (hk' : k' = m.length) (hm : Lies w a' m)
    (hkc : k' ≤ cap') (hnil : a' = none → cap' = 0) (_hcm : cap' ≤ maxLen) (hk1 : k ≤ 10000) (hs : s.size ≤ 4096) (hk2 : k' ≤ 10000) (hn : n < 18446744073709551616) :
    Calls Try.prog 4 #[.slice a k cap, .int .u64 n, .string s, .slice a' k' cap'] w fun e w' => e = .returned (.bool true) ∧ Below w.heap.size w w' := by
  have HK : Hid (k = l.length) := hk
  have HK' : Hid (k' = m.length) := hk'
  clear hk hk'
  unfold maxLen at _hcm
  have hne := neNil
  have hdn : (digs n).length ≤ 10 := digs_len10 hn
  have hds : (digs s.size).length ≤ 10 := digs_len10 (by omega)
  go_enter Try.func4, Try.ntmps4
  go_wp2_with fail
  refine (up_any w).mono ?_
  rintro e w1 ⟨rfl, hb1⟩
  go_wp2_with fail
  have hl1 : Lies w1 a l := hl.below hb1 (Nat.le_refl _)
  have hm1 : Lies w1 a' m := hm.below hb1 (Nat.le_refl _)
  have hm1' : Lies w1 a' m := hm1
  have hc1 : Calls Try.prog 7 #[.slice a k cap, .int .u64 n] w1 fun e w' => ∃ v', e = .returned v' ∧ Buf w1.heap.size v' (l ++ digs n) w1 w' := by
    rw [HK.out]; exact num_any a l cap n w1 hl1 (by rw [← HK.out]; omega) hn
  refine hc1.mono ?_
  rintro e w2 ⟨v2, rfl, hb2⟩
  clear hc1 hl hm
  have hm2 : Lies w2 a' m := hm1.below hb2.2.1 (Nat.le_refl _)
  have hlen2 : (l ++ digs n).length + k' ≤ 140737488355328 := by rw [List.length_append, ← HK.out]; omega
  go_wp2_with (at_builtin; refine wpList_bytes_any rfl (.tmp 38) (.tmp 39) rfl w1.heap.size _ (l ++ digs n) rfl w1 hb2 m a' k' cap' rfl HK'.out hm2 hnil hkc hlen2 ?_; intro v3 w3 hb3)
  clear hm1 hm2 hlen2 hb2
  obtain ⟨a3, cap3, rfl, hlc3, hcm3, hx3, _, _⟩ := hb3.form
  have hbb3 : Below w1.heap.size w1 w3 := hb3.2.1
  obtain ⟨k3, hk3⟩ : ∃ k3, k3 = (l ++ digs n ++ m).length := ⟨_, rfl⟩
  rw [← hk3] at hlc3 ⊢
  obtain ⟨P3, hP3⟩ : ∃ P3, P3 = k + (digs n).length := ⟨_, rfl⟩
  have hk3b : k3 ≤ 30000 := by rw [hk3, List.length_append, List.length_append, ← HK.out, ← HK'.out]; omega
  have hP3a : P3 + k' ≤ k3 := by rw [hk3, hP3, List.length_append, List.length_append, ← HK.out, ← HK'.out]; omega
  have hP3b : k3 ≤ P3 + k' := by rw [hk3, hP3, List.length_append, List.length_append, ← HK.out, ← HK'.out]; omega
  refine (getNum_back hk3 HK.out hP3 hn hx3 (by omega) hlc3).mono ?_
  rintro e w3' ⟨rfl, rfl⟩
  clear hb3 hx3 hk3 hP3 hlc3 hcm3
  have hl3 : Lies w3 a l := hl1.below hbb3 (Nat.le_refl _)
  have hm3 : Lies w3 a' m := hm1'.below hbb3 (Nat.le_refl _)
  go_wp2_with fail
  have hc3 : Calls Try.prog 8 #[.slice a k cap, .string s] w3 fun e w' => ∃ v', e = .returned v' ∧ Buf w3.heap.size v' (l ++ digs s.size ++ s.data.toList) w3 w' := by
    rw [HK.out]; exact text_any a l cap s w3 hl3 (by rw [← HK.out]; omega) (by omega)
  refine hc3.mono ?_
  rintro e w4 ⟨v4, rfl, hb4⟩
  clear hc3
  have hm4 : Lies w4 a' m := hm3.below hb4.2.1 (Nat.le_refl _)
  have hsl : s.data.toList.length = s.size := by simp
  have hlen4 : (l ++ digs s.size ++ s.data.toList).length + k' ≤ 140737488355328 := by rw [List.length_append, List.length_append, hsl, ← HK.out]; omega
  have HSL : Hid (s.data.toList.length = s.size) := hsl
  clear hsl
  go_wp2_with (at_builtin; refine wpList_bytes_any rfl (.tmp 51) (.tmp 52) rfl w3.heap.size _ (l ++ digs s.size ++ s.data.toList) rfl w3 hb4 m a' k' cap' rfl HK'.out hm4 hnil hkc hlen4 ?_; intro v5 w5 hb5)
  clear hm4 hlen4 hb4
  obtain ⟨a5, cap5, rfl, hlc5, hcm5, hx5, _, _⟩ := hb5.form
  have hbb5 : Below w3.heap.size w3 w5 := hb5.2.1
  obtain ⟨k5, hk5⟩ : ∃ k5, k5 = (l ++ digs s.size ++ s.data.toList ++ m).length := ⟨_, rfl⟩
  rw [← hk5] at hlc5 ⊢
  obtain ⟨P5, hP5⟩ : ∃ P5, P5 = k + (digs s.size).length + s.size := ⟨_, rfl⟩
  have hk5b : k5 ≤ 40000 := by rw [hk5, List.length_append, List.length_append, List.length_append, HSL.out, ← HK.out, ← HK'.out]; omega
  have hP5a : P5 + k' ≤ k5 := by rw [hk5, hP5, List.length_append, List.length_append, List.length_append, HSL.out, ← HK.out, ← HK'.out]; omega
  have hP5b : k5 ≤ P5 + k' := by rw [hk5, hP5, List.length_append, List.length_append, List.length_append, HSL.out, ← HK.out, ← HK'.out]; omega
  refine (getText_back hk5 HK.out hP5 hs hx5 (by omega) hlc5 hcm5).mono ?_
  rintro e w5' ⟨rfl, rfl⟩
  clear hb5 hx5 hk5 hP5 hlc5 hcm5
  have hm5 : Lies w5 a' m := hm3.below hbb5 (Nat.le_refl _)
  have HB : Hid (Below w.heap.size w w5) := (hb1.trans (hbb3.mono hb1.size)).trans (hbb5.mono (Nat.le_trans hb1.size hbb3.size))
  clear hl1 hl3 hm1' hm3 hbb3 hbb5 hb1
  go_wp2_with fail
  obtain ⟨r1, r2, hr⟩ : ∃ r1 r2, rd 0 0 m = (r1, r2) := ⟨_, _, rfl⟩
  by_cases hr2 : r2 = 0
  · subst hr2
    have hng := neErr
    refine (getNum_zero_form HK'.out hm5 hk2 hkc hr).mono ?_
    rintro e w6 ⟨rfl, rfl⟩
    clear hr hm5
    go_wp2
    go_ret
    exact ⟨rfl, HB.out⟩
  · have hw := rd_written m (by rw [hr]; exact hr2)
    rw [hr] at hw
    obtain ⟨hr1, hrl, hdt⟩ := hw
    clear hrl
    have hr2k : r2 ≤ k' := by
      have := rd_le m 0 0
      rw [hr] at this
      have h2 := HK'.out
      simp only at this
      omega
    refine (getNum_zero_ok HK'.out hm5 hk2 hkc hr (by omega) hr1).mono ?_
    rintro e w6 ⟨rfl, rfl⟩
    have hr20 : 0 < r2 := by omega
    have HDT : Hid (digs r1 = m.take r2) := hdt
    have HR1 : Hid (r1 < 18446744073709551616) := hr1
    clear hr hr2 hdt hr1
    obtain ⟨N, hN⟩ : ∃ N : ByteArray, N = ⟨(digs r1).toArray⟩ := ⟨_, rfl⟩
    have cM : ∀ w', Below w5.heap.size w5 w' → (convert 22 9 (.slice a' r2 cap')).run Try.prog w' = .ok (.string N) w' := fun w' h => by
      have hh := conv_lies (cap := cap') ((hm5.take r2).below h (Nat.le_refl _))
      have hlt : (m.take r2).length = r2 := by have := HK'.out; rw [List.length_take]; omega
      rw [hlt, ← HDT.out, ← hN] at hh
      exact hh
    have HN : Hid (N = ⟨(digs r1).toArray⟩) := hN
    clear hN hm5
    go_wp2
    go_region_held (fun w' => Below w5.heap.size w5 w') (first | assumption | exact (Below.refl _ _).drew)
      (first
        | (go_at_call 7; refine (num_at w5 _ r1 N HN.out HR1.out (by assumption)).mono ?_; rintro e w7 ⟨a7, k7, cap7, rfl, hc7, hb7⟩))
    all_goals
      have hE : Below w.heap.size w w7 := HB.out.trans (Below.mono (by assumption) HB.out.size)
      go_wp2
      go_ret
      exact ⟨rfl, hE⟩

set_option maxHeartbeats 400000 in
theorem wireBack_far (a : Option Addr) (cap k n : Nat) (s : ByteArray) (a' : Option Addr) (cap' k' : Nat) (w : World) (hs : s.size ≤ maxLen) (h : 10000 < k ∨ 4096 < s.size ∨ 10000 < k') :
    Calls Try.prog 4 #[.slice a k cap, .int .u64 n, .string s, .slice a' k' cap'] w fun e w' => e = .returned (.bool true) ∧ Below w.heap.size w w' := by
  unfold maxLen at hs
  have h' : (10000 < k) ∨ (k ≤ 10000 ∧ 4096 < s.size) ∨ (k ≤ 10000 ∧ s.size ≤ 4096 ∧ 10000 < k') := by omega
  clear h
  rcases h' with h | ⟨h1, h2⟩ | ⟨h1, h2, h3⟩
  all_goals
    go_enter Try.func4, Try.ntmps4
    go_wp2_with fail
    refine (up_any w).mono ?_
    rintro e w1 ⟨rfl, hb1⟩
    go_wp2
    go_ret
    exact ⟨rfl, hb1⟩
end Go.Proofs.Ytiackikomefcfaa
