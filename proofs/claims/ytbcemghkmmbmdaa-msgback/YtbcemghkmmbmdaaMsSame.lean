/-
  Same: are two messages the same?
-/
import Derived.Test.YtbcemghkmmbmdaaMsMay3
import Derived.Deep.QuietTactic
import Derived.BigQuiet
namespace Go.Proofs.Ytbcemghkmmbmdaa.Msg
open Go.RowKit Route

theorem bytes_eq {s t : ByteArray} (h : s.toList = t.toList) : s = t := by
  rw [ByteArray.toList_eq, ByteArray.toList_eq] at h
  apply ByteArray.ext
  exact Array.ext' h
theorem text_ne {s t : ByteArray} (h : s ≠ t) : (s.toList == t.toList) = false := by
  cases q : (s.toList == t.toList) with
  | false => rfl
  | true => exact absurd (bytes_eq (of_decide_eq_true (by simpa using q))) h

theorem take_next {α : Type} {l : List α} {i : Nat} (h : i < l.length) : l.take (i + 1) = l.take i ++ [l[i]] := by rw [List.take_add_one]; simp [h]

set_option maxHeartbeats 4000000 in
set_option maxRecDepth 100000 in
theorem ints_any (a a' : Option Addr) (n n' cap cap' : Nat) (l l' : List Int) (w : World) (hn : n = l.length) (hn' : n' = l'.length) (hl : LiesI w a l) (hl' : LiesI w a' l') (hm : n ≤ 1000000000) :
    Calls Try.prog 73 #[.slice a n cap, .slice a' n' cap'] w fun e w' => e = .returned (.bool (decide (l = l'))) ∧ ∃ q, w' = w.drewN q := by
  have HN : Hid (n = l.length ∧ n' = l'.length) := ⟨hn, hn'⟩
  have HL : Hid (LiesI w a l) := hl
  have HL' : Hid (LiesI w a' l') := hl'
  by_cases hnn : n = n'
  case neg =>
    have hr : decide (l = l') = false := by simp; intro h; rw [h] at hn; omega
    have hd2 : ((n : Int) != (n' : Int)) = true := by simp; omega
    rw [hr]
    clear hn hn' hl hl'
    go_enter Try.func73, Try.ntmps73
    go_wp2
    go_ret
    exact ⟨rfl, 0, by first | rfl | (cases w; rfl)⟩
  case pos =>
    subst hnn
    have HR : Hid (∀ b, (b = true ↔ l = l') → decide (l = l') = b) := fun b h => by cases b with | false => (simp; intro e; have := h.2 e; cases this) | true => simp [h.1 rfl]
    generalize hR : decide (l = l') = R at *
    clear hn hn' hl hl' hR
    go_enter Try.func73, Try.ntmps73
    go_wp2
    go_loopw [5] (fun t5 wr => ∃ i : Nat, t5 = .int .i64 (i : Int) ∧ i ≤ n ∧ Hid (∃ q, wr = w.drewN q) ∧ Hid (l.take i = l'.take i)) (fun t5 _ => n - (intOf t5).toNat)
    case atStart => exact ⟨0, rfl, Nat.zero_le _, ⟨0, by first | rfl | (cases w; rfl)⟩, (by simp : l.take 0 = l'.take 0)⟩
    case round =>
      obtain ⟨i, rfl, hi, HD, HT⟩ := hrel
      have HDr : Hid (∀ k, ∃ q', wr.drewN k = w.drewN q') := fun k => by obtain ⟨q, rfl⟩ := HD.out; exact ⟨_, World.drewN_drewN _ _ _⟩
      have HLr : Hid (LiesI wr a l ∧ LiesI wr a' l') := by obtain ⟨q, rfl⟩ := HD.out; exact ⟨HL.out, HL'.out⟩
      by_cases hin : i < n
      · have hil : i < l.length := by rw [← HN.out.1]; exact hin
        have hil' : i < l'.length := by rw [← HN.out.2]; exact hin
        obtain ⟨x, hx, g0⟩ := HLr.out.1.at hil
        obtain ⟨x', hx', g0'⟩ := HLr.out.2.at hil'
        subst hx hx'
        have hix := index_int x n cap i hin
        have hix' := index_int x' n cap' i hin
        rw [inAt_get hil] at g0
        rw [inAt_get hil'] at g0'
        have HE : Hid (l.take (i + 1) = l.take i ++ [l[i]] ∧ l'.take (i + 1) = l'.take i ++ [l'[i]]) := ⟨take_next hil, take_next hil'⟩
        have HG : Hid (l = l' → l[i] = l'[i]) := fun h => by subst h; rfl
        generalize x.add (i * 1) = p at g0 hix
        generalize x'.add (i * 1) = p' at g0' hix'
        generalize l[i] = v at g0 HE HG
        generalize l'[i] = v' at g0' HE HG
        by_cases hv : v = v'
        · subst hv
          have HT2 : Hid (l.take (i + 1) = l'.take (i + 1)) := by show _ = _; rw [HE.out.1, HE.out.2, HT.out]
          clear HT HE HG
          go_wp2_with fail
          go_quiet (fail)
          go_wp2
          go_roundw
          case rel => exact ⟨i + 1, by go_num, by omega, HDr.out _, HT2⟩
          case measure => simp [intOf]; omega
        · have hv2 : (v != v') = true := by simp [hv]
          have HF : Hid (R = false) := HR.out false ⟨(fun h => by cases h), fun h => absurd (HG.out h) hv⟩
          go_wp2_with fail
          go_quiet (fail)
          go_wp2
          go_ret
          exact ⟨by rw [HF.out]; rfl, HDr.out _⟩
      · have HF : Hid (R = true) := HR.out true ⟨fun _ => by
          have := HT.out
          rw [List.take_of_length_le (by rw [← HN.out.1]; omega), List.take_of_length_le (by rw [← HN.out.2]; omega)] at this
          exact this, fun _ => rfl⟩
        go_wp2
        go_ret
        exact ⟨by rw [HF.out]; rfl, HD.out⟩
set_option maxHeartbeats 8000000 in
set_option maxRecDepth 100000 in
theorem sameP_any (a a' : Option Addr) (n n' cap cap' : Nat) (l l' : List Pf) (w : World) (hn : n = l.length) (hn' : n' = l'.length) (hl : LiesP w a l) (hl' : LiesP w a' l') (hm : n ≤ 1000000000) (hs : ∀ e ∈ l, e.2.2.2.length ≤ 1000000000) :
    Calls Try.prog 38 #[.slice a n cap, .slice a' n' cap'] w fun e w' => e = .returned (.bool (decide (l = l'))) ∧ ∃ q, w' = w.drewN q := by
  have HN : Hid (n = l.length ∧ n' = l'.length) := ⟨hn, hn'⟩
  have HL : Hid (LiesP w a l) := hl
  have HL' : Hid (LiesP w a' l') := hl'
  have HS : Hid (∀ e ∈ l, e.2.2.2.length ≤ 1000000000) := hs
  by_cases hnn : n = n'
  case neg =>
    have hr : decide (l = l') = false := by simp; intro h; rw [h] at hn; omega
    have hd2 : ((n : Int) != (n' : Int)) = true := by simp; omega
    rw [hr]
    clear hn hn' hl hl' hs
    go_enter Try.func38, Try.ntmps38
    go_wp2
    go_ret
    exact ⟨rfl, 0, by first | rfl | (cases w; rfl)⟩
  case pos =>
    subst hnn
    have HR : Hid (∀ b, (b = true ↔ l = l') → decide (l = l') = b) := fun b h => by cases b with | false => (simp; intro e; have := h.2 e; cases this) | true => simp [h.1 rfl]
    generalize hR : decide (l = l') = R at *
    clear hn hn' hl hl' hR hs
    go_enter Try.func38, Try.ntmps38
    go_wp2
    go_loopw [5] (fun t5 wr => ∃ i : Nat, t5 = .int .i64 (i : Int) ∧ i ≤ n ∧ Hid (∃ q, wr = w.drewN q) ∧ Hid (l.take i = l'.take i)) (fun t5 _ => n - (intOf t5).toNat)
    case atStart => exact ⟨0, rfl, Nat.zero_le _, ⟨0, by first | rfl | (cases w; rfl)⟩, (by simp : l.take 0 = l'.take 0)⟩
    case round =>
      obtain ⟨i, rfl, hi, HD, HT⟩ := hrel
      have HDr : Hid (∀ k, ∃ q', wr.drewN k = w.drewN q') := fun k => by obtain ⟨q, rfl⟩ := HD.out; exact ⟨_, World.drewN_drewN _ _ _⟩
      have HLr : Hid (LiesP wr a l ∧ LiesP wr a' l') := by obtain ⟨q, rfl⟩ := HD.out; exact ⟨HL.out, HL'.out⟩
      by_cases hin : i < n
      · have hil : i < l.length := by rw [← HN.out.1]; exact hin
        have hil' : i < l'.length := by rw [← HN.out.2]; exact hin
        obtain ⟨x, hx, g0, g1, g2, fa, fc, g3, hf⟩ := HLr.out.1.at hil
        obtain ⟨x', hx', g0', g1', g2', fa', fc', g3', hf'⟩ := HLr.out.2.at hil'
        subst hx hx'
        have hix := index_pf x n cap i hin
        have hix' := index_pf x' n cap' i hin
        have hsz := HS.out _ (List.getElem_mem hil)
        rw [pfAt_get hil] at g0 g1 g2 g3 hf
        rw [pfAt_get hil'] at g0' g1' g2' g3' hf'
        have HE : Hid (l.take (i + 1) = l.take i ++ [l[i]] ∧ l'.take (i + 1) = l'.take i ++ [l'[i]]) := ⟨take_next hil, take_next hil'⟩
        have HG : Hid (l = l' → l[i] = l'[i]) := fun h => by subst h; rfl
        generalize x.add (i * 4) = p at g0 g1 g2 g3 hix
        generalize x'.add (i * 4) = p' at g0' g1' g2' g3' hix'
        generalize l[i] = v at g0 g1 g2 g3 hf HE HG hsz
        generalize l'[i] = v' at g0' g1' g2' g3' hf' HE HG
        obtain ⟨v0, v1, bd, fr⟩ := v
        obtain ⟨v0', v1', bd', fr'⟩ := v'
        simp only at g0 g1 g2 g3 hf g0' g1' g2' g3' hf' hsz
        obtain ⟨k, hk⟩ : ∃ k, k = fr.length := ⟨_, rfl⟩
        obtain ⟨k', hk'⟩ : ∃ k, k = fr'.length := ⟨_, rfl⟩
        rw [← hk] at g3
        rw [← hk'] at g3'
        have HCI : Hid (∀ z, Calls Try.prog 73 #[.slice fa k fc, .slice fa' k' fc'] (wr.drewN z) fun e w' => e = .returned (.bool (decide (fr = fr'))) ∧ ∃ q, w' = (wr.drewN z).drewN q) := fun z => ints_any fa fa' k k' fc fc' fr fr' (wr.drewN z) hk hk' hf hf' (by rw [hk]; exact hsz)
        clear hf hf' hk hk' hsz
        by_cases h0 : v0 = v0'
        · subst h0
          by_cases h1 : v1 = v1'
          · subst h1
            by_cases h2 : bd = bd'
            · subst h2
              cases h3 : decide (fr = fr') with
              | false =>
                rw [h3] at HCI
                have h4 := of_decide_eq_false h3
                have HF : Hid (R = false) := HR.out false ⟨(fun h => by cases h), fun h => absurd (HG.out h) (by simp only [Prod.mk.injEq, not_and]; intro _ _ _; exact h4)⟩
                go_wp2_with fail
                go_quiet ((go_at_call 73; exact Calls.quiet_of (HCI.out _)))
                go_wp2
                go_ret
                exact ⟨by rw [HF.out]; rfl, HDr.out _⟩
              | true =>
                rw [h3] at HCI
                have h4 := of_decide_eq_true h3
                subst h4
                have HT2 : Hid (l.take (i + 1) = l'.take (i + 1)) := by show _ = _; rw [HE.out.1, HE.out.2, HT.out]
                clear HT HE HG h3
                go_wp2_with fail
                go_quiet ((go_at_call 73; exact Calls.quiet_of (HCI.out _)))
                go_wp2
                go_roundw
                case rel => exact ⟨i + 1, by go_num, by omega, HDr.out _, HT2⟩
                case measure => simp [intOf]; omega
            · have e2 := text_ne h2
              have HF : Hid (R = false) := HR.out false ⟨(fun h => by cases h), fun h => absurd (HG.out h) (by simp only [Prod.mk.injEq, not_and]; intro _ _ h; exact absurd h h2)⟩
              go_wp2_with fail
              go_quiet ((go_at_call 73; exact Calls.quiet_of (HCI.out _)))
              go_wp2
              go_ret
              exact ⟨by rw [HF.out]; rfl, HDr.out _⟩
          · have e1 : (v1 != v1') = true := by simp [h1]
            have HF : Hid (R = false) := HR.out false ⟨(fun h => by cases h), fun h => absurd (HG.out h) (by simp only [Prod.mk.injEq, not_and]; intro _ h; exact absurd h h1)⟩
            go_wp2_with fail
            go_quiet ((go_at_call 73; exact Calls.quiet_of (HCI.out _)))
            go_wp2
            go_ret
            exact ⟨by rw [HF.out]; rfl, HDr.out _⟩
        · have e0 : (v0 != v0') = true := by simp [h0]
          have HF : Hid (R = false) := HR.out false ⟨(fun h => by cases h), fun h => absurd (HG.out h) (by simp only [Prod.mk.injEq, not_and]; intro h; exact absurd h h0)⟩
          go_wp2_with fail
          go_quiet ((go_at_call 73; exact Calls.quiet_of (HCI.out _)))
          go_wp2
          go_ret
          exact ⟨by rw [HF.out]; rfl, HDr.out _⟩
      · have HF : Hid (R = true) := HR.out true ⟨fun _ => by
          have := HT.out
          rw [List.take_of_length_le (by rw [← HN.out.1]; omega), List.take_of_length_le (by rw [← HN.out.2]; omega)] at this
          exact this, fun _ => rfl⟩
        go_wp2
        go_ret
        exact ⟨by rw [HF.out]; rfl, HD.out⟩
end Go.Proofs.Ytbcemghkmmbmdaa.Msg
