/-
  The contracts of the laws' own 'same' and Code, and the example at the head of all laws.
-/
import Derived.Test.YtfcnbdnmnmihjaaLgRecs
namespace Go.Proofs.Ytfcnbdnmnmihjaa
open Go.RowKit

set_option maxHeartbeats 1000000 in
theorem same_yes {L1 L2 : Nat → Prop} {w : World} {a1 a2 : Option Addr} {n cap1 cap2 : Nat} {rs : List (List UInt8)} (hn : Hid (n = rs.length)) (h1 : SRows L1 w a1 rs) (h2 : SRows L2 w a2 rs) (hm : n ≤ 2000000) :
    Calls Try.prog 16 #[.slice a1 n cap1, .slice a2 n cap2] w fun e w' => e = .returned (.bool true) ∧ Below w.heap.size w w' := by
  have H1 : Hid (SRows L1 w a1 rs) := h1
  have H2 : Hid (SRows L2 w a2 rs) := h2
  clear h1 h2
  go_enter Try.func16, Try.ntmps16
  go_wp2
  go_loopw [5] (fun i wr => ∃ j : Nat, i = .int .i64 j ∧ j ≤ n ∧ Hid (Below w.heap.size w wr)) (fun i _ => n - (intOf i).toNat)
  case atStart => exact ⟨0, rfl, Nat.zero_le _, Below.refl _ _⟩
  case round =>
    obtain ⟨j, rfl, hj, hbw⟩ := hrel
    by_cases hlt : j < n
    · have hjr : j < rs.length := by rw [← hn.out]; exact hlt
      obtain ⟨x, aj, kj, cj, e1, hc1, hk1, _, _, hl1, z1⟩ := (H1.out.below hbw.out (Nat.le_refl _)).at_ j hjr
      obtain ⟨y, bj, mj, dj, e2, hc2, hk2, _, _, hl2, z2⟩ := (H2.out.below hbw.out (Nat.le_refl _)).at_ j hjr
      subst e1; subst e2
      have i1 := fun W => index32 x n cap1 j hlt W
      have i2 := fun W => index32 y n cap2 j hlt W
      obtain ⟨O, hO⟩ : ∃ O : ByteArray, O = ⟨rs[j].toArray⟩ := ⟨_, rfl⟩
      have v1 : ∀ q, (convert 31 9 (.slice aj kj cj)).run Try.prog (wr.drewN q) = .ok (.string O) (wr.drewN q) := fun q => conv_named (hl1.below (below_drewN (Below.refl _ _) q) (Nat.le_refl _)) hk1.out hO
      have v2 : ∀ q, (convert 31 9 (.slice bj mj dj)).run Try.prog (wr.drewN q) = .ok (.string O) (wr.drewN q) := fun q => conv_named (hl2.below (below_drewN (Below.refl _ _) q) (Nat.le_refl _)) hk2.out hO
      have HB : Hid (∀ q, Below w.heap.size w (wr.drewN q)) := fun q => below_drewN hbw.out q
      clear hO hl1 hl2 hbw hk1 hk2 z1 z2 hjr
      go_wp2
      go_quiet (fail)
      go_wp2
      go_roundw
      case rel => exact ⟨j + 1, by go_num, by omega, HB.out _⟩
      case measure => simp [intOf]; omega
    · go_wp2
      go_ret
      exact ⟨rfl, hbw.out⟩

set_option maxHeartbeats 400000 in
theorem same_len {w : World} {a1 a2 : Option Addr} {n m cap1 cap2 : Nat} (h : n ≠ m) :
    Calls Try.prog 16 #[.slice a1 n cap1, .slice a2 m cap2] w fun e w' => e = .returned (.bool false) ∧ w = w' := by
  have h' : n < m ∨ m < n := by omega
  clear h
  rcases h' with h | h
  all_goals
    go_enter Try.func16, Try.ntmps16
    go_wp2
    go_ret
    exact ⟨rfl, rfl⟩

theorem code_nil (w : World) : Calls Try.prog 13 #[.nilIface] w fun e w' => e = .returned (.int .i64 0) ∧ w = w' := by
  go_enter Try.func13, Try.ntmps13
  go_wp2
  go_ret
  exact ⟨rfl, rfl⟩

set_option maxHeartbeats 400000 in
theorem code_arg (w : World) : Calls Try.prog 13 #[.iface 50 (.int .i64 1)] w fun e w' => e = .returned (.int .i64 1) ∧ w = w' := by
  have q1 : ∀ W, (binOp .eql 28 (.iface 50 (.int .i64 1)) .nilIface).run Try.prog W = .ok (.bool false) W := fun W => by kernel_rfl
  have q2 : ∀ W, (binOp .eql 28 (.iface 50 (.int .i64 1)) (.iface 50 (.int .i64 1))).run Try.prog W = .ok (.bool true) W := fun W => by kernel_rfl
  go_enter Try.func13, Try.ntmps13
  go_wp2
  refine wp_loop_rounds 1 ?_
  rw [rounds_succ]
  go_wp2
  go_ret
  exact ⟨rfl, rfl⟩

theorem one_lies (W : World) (x : UInt8) : Lies (W.alloc (.cells #[.int .u8 (x.toNat : Int)] 5)) (some ⟨W.heap.size, 0, none⟩) [x] := by
  refine Or.inr ⟨_, rfl, fun j u hj => ?_⟩
  rw [Go.WideShapes.add_plain, Nat.zero_add]
  have hh := heap_alloc_new W (.cells #[.int .u8 (x.toNat : Int)] 5)
  rw [cell_of_row _ W.heap.size j _ 5 (0, 0) hh, ← hj]
  have hbv : bv [x] = [.int .u8 (x.toNat : Int)] := rfl
  rw [hbv]
  exact List.getElem?_toArray

theorem recs_nil : recs [] = [] := rfl
theorem laid_nil : laid [] = [] := rfl

set_option maxHeartbeats 1000000 in
theorem up_any (w : World) : Calls Try.prog 7 #[] w fun e w' => e = .returned (.bool true) ∧ Below w.heap.size w w' := by
  have HN : Hid (Calls _ _ _ _ _) := new_st w w (Below.refl _ _)
  go_enter Try.func7, Try.ntmps7
  go_wp2_with fail
  refine HN.out.mono ?_
  rintro e w1 ⟨tp, rfl, h1, _, _⟩
  have H1 : Hid (Calls _ _ _ _ _) := open_st h1
  clear h1 HN
  go_wp2_with fail
  refine H1.out.mono ?_
  rintro e w2 ⟨lg, rv, rfl, h2, _⟩
  have h2' : LogSt w w2 tp [] 0 none lg [] false rv := h2
  have H2 : Hid (LogSt w w2 tp [] 0 none lg [] false rv) := h2'
  clear h2 h2' H1
  go_wp2_with fail
  refine (open_none w2).mono ?_
  rintro e w3 ⟨rfl, rfl⟩
  have H3 : Hid (Calls Try.prog 15 #[.pointer (some ⟨lg, 0, none⟩), .slice (some ⟨w2.heap.size, 0, none⟩) 1 1] (w2.alloc (.cells #[.int .u8 7] 5)) fun e w' => e = .returned .nilIface ∧ ∃ r' rv', LogSt w w' tp ([] ++ rec1 [7]) ([] ++ rec1 [7]).length r' lg ([] ++ [[7]]) false rv' ∧ Turn (ML tp none lg rv) (ML tp r' lg rv') (w2.alloc (.cells #[.int .u8 7] 5)) w') := by
    refine append_log (H2.out.later ((Below.refl _ _).alloc (Nat.le_refl _) _)) rfl (one_lies w2 7) (by simp) (fun x hx => .inr ?_) (by omega) (by omega) (by simp [rec1_len]; decide) (by simp)
    simp only [Option.some.injEq] at hx
    subst hx
    exact ⟨by simp, fun hm => by have := (H2.out.made _ hm).2; simp at this⟩
  clear H2
  go_wp2_with fail
  refine H3.out.mono ?_
  rintro e w4 ⟨rfl, r4, rv4, h4, _⟩
  have h4' : St w w4 tp [1, 7] 2 r4 := h4.1
  have H4 : Hid (Calls _ _ _ _ _) := bytes_st h4'
  clear h4 h4' H3
  have q2 : ∀ W, (binOp .eql 28 (.iface 50 (.int .i64 1)) (.iface 50 (.int .i64 1))).run Try.prog W = .ok (.bool true) W := fun W => by kernel_rfl
  go_wp2_with fail
  refine H4.out.mono ?_
  rintro e w5 ⟨a5, k5, cap5, rfl, _, _, _, h5, hc5⟩
  have hE : Hid (Below w.heap.size w w5) := h5.2
  clear h5 H4
  go_wp2
  go_ret
  exact ⟨rfl, hE.out⟩
end Go.Proofs.Ytfcnbdnmnmihjaa
