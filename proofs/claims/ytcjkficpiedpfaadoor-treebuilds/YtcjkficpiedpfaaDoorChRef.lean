/-
  The document's chunks, byte by byte: they are the same.
-/
import Derived.Test.YtcjkficpiedpfaaDoorChSplit
namespace Go.Proofs.YtcjkficpiedpfaaDoor.Chunk
open Go.RowKit Route

set_option maxHeartbeats 4000000 in
set_option maxRecDepth 100000 in
theorem refSplit_ok (s : ByteArray) (m M K : Nat) (w : World) (hs : s.size ≤ 1024) (hm : 1 ≤ m) (hmM : m ≤ M) (hM : M ≤ 64) (hK : K < 256) :
    Calls Tryd.prog 42 #[.string s, cutV (m : Int) (M : Int) (K : Int)] w fun e w' => ∃ v, e = .returned v ∧ Strs w.heap.size v (chunks m M K s) w w' := by
  obtain ⟨C, hC⟩ : ∃ C, C = chunks m M K s := ⟨_, rfl⟩
  rw [← hC]
  obtain ⟨l, hl⟩ : ∃ l, l = toL s := ⟨_, rfl⟩
  have e : s = ofL l := by rw [hl, ofL_toL]
  subst e
  have HC : Hid (C = (cuts m M K l).map ofL) := by rw [hC, chunks, toL_ofL]; rfl
  rw [size_ofL] at hs
  clear hC hl
  obtain ⟨W1, hW1⟩ : ∃ W1, W1 = w.alloc (.cells #[.int .i64 (m : Int), .int .i64 (M : Int), .int .i64 (K : Int)] 43) := ⟨_, rfl⟩
  have HW : Hid (W1 = w.alloc (.cells #[.int .i64 (m : Int), .int .i64 (M : Int), .int .i64 (K : Int)] 43)) := hW1
  unfold cutV
  obtain ⟨z, hz⟩ : ∃ z, z = l.length := ⟨_, rfl⟩
  have HZ : Hid (z = l.length) := hz
  have hlen := len_ofL l z hz
  have hzs : Hid (z = (ofL l).size) := by rw [size_ofL]; exact HZ.out
  have hdrop : Hid (∀ i, i < z → ∃ b : UInt8, l.drop i = b :: l.drop (i + 1) ∧ b.toNat = bt (ofL l) i) := fun i hi => drop_at l i (by rw [← HZ.out]; exact hi)
  have hext : Hid (∀ f i, (ofL l).extract f (i + 1) = ofL ((l.drop f).take (i + 1 - f))) := fun f i => extract_ofL l f (i + 1)
  rw [← hz] at hs
  have hsz : Hid (W1.heap.size = w.heap.size + 1) := by show _ = _; rw [HW.out]; simp
  have hcw : Hid (∀ wr, Below W1.heap.size W1 wr → wr.cell? ⟨w.heap.size, 0, none⟩ = some (.int .i64 (m : Int)) ∧ wr.cell? ⟨w.heap.size, 1, none⟩ = some (.int .i64 (M : Int)) ∧ wr.cell? ⟨w.heap.size, 2, none⟩ = some (.int .i64 (K : Int))) := by
    intro wr hb
    have h1 := hsz.out
    refine ⟨?_, ?_, ?_⟩
    all_goals
      rw [hb.cell (by show w.heap.size < _; omega), HW.out]
      simp
  generalize ofL l = s at hlen hzs hdrop hext
  clear hz
  go_enter Tryd.func42, Tryd.ntmps42
  go_wp2
  rw [← hW1]
  clear hW1
  go_loopw [5, 6, 7] (fun t5 t6 t7 wr => ∃ (i f : Nat) (d : List ByteArray), t6 = .int .i64 (f : Int) ∧ t7 = .int .i64 (i : Int) ∧ i ≤ z ∧ f ≤ i ∧ d.length ≤ f ∧ Strs W1.heap.size t5 d W1 wr ∧ Hid (C = d ++ (cuts m M K (l.drop f)).map ofL ∧ ((f = i ∧ size1 m M K (l.drop f) = first m M K 0 0 (l.drop i)) ∨ (f < i ∧ i < z ∧ size1 m M K (l.drop f) = (i - f) + first m M K (bt s (i - 1)) (i - f) (l.drop i))))) (fun _ _ t7 _ => z - (intOf t7).toNat)
  case atStart => exact ⟨0, 0, [], rfl, rfl, by omega, by omega, by simp, Strs.nil W1, HC.out, .inl ⟨rfl, rfl⟩⟩
  case round =>
    obtain ⟨i, f, d, rfl, rfl, hi, hfi, hdf, hst, HI⟩ := hrel
    clear HC
    obtain ⟨hc0, hc1, hc2⟩ := hcw.out wr hst.2.1
    by_cases hiz : i < z
    · have hix := index_at s i i rfl (by rw [← hzs.out]; omega)
      obtain ⟨c, hcd, hcb⟩ := hdrop.out i hiz
      have hb := bt_lt s i
      obtain ⟨b, hbb⟩ : ∃ b, b = bt s i := ⟨_, rfl⟩
      rw [← hbb] at hix hb hcb
      have HB : Hid (b = bt s i) := hbb
      -- the byte ahead
      obtain ⟨a, ha, hsz1, hah⟩ : ∃ a, a < 256 ∧ size1 m M K (l.drop f) = (i - f) + first m M K a (i - f) (c :: l.drop (i + 1)) ∧ ((f = i ∧ a = 0) ∨ (f < i ∧ a = bt s (i - 1))) := by
        rcases HI.out.2 with h | h
        · exact ⟨0, by omega, by rw [h.2, hcd, h.1, Nat.sub_self, Nat.zero_add], .inl ⟨h.1, rfl⟩⟩
        · exact ⟨_, bt_lt s (i - 1), by rw [h.2.2, hcd], .inr ⟨h.1, rfl⟩⟩
      obtain ⟨x, hx⟩ : ∃ x, x = s.extract f (i + 1) := ⟨_, rfl⟩
      have hsl : ∀ wx : World, (Instr.slice 9 (.string s) (some (.int .i64 (f : Int))) (some (.int .i64 ((i : Int) + 1))) none).run Tryd.prog wx = .ok (.string x) wx := fun wx => by
        have := run_slice_string (P := Tryd.prog) wx 9 s .i64 .i64 (f : Int) ((i : Int) + 1) Tryd.underlying9 (by omega) (by omega) (by have := hzs.out; omega)
        rw [this, hx]; rfl
      have HT : Hid (ends m M K (i - f + 1) a b = true ∨ i + 1 = z → C = (d ++ [x]) ++ (cuts m M K (l.drop (i + 1))).map ofL) := by
        intro he
        have h1 : size1 m M K (l.drop f) = i + 1 - f := by
          rw [hsz1]
          cases hen : ends m M K (i - f + 1) a b with
          | true => rw [first_end (by rw [hcb]; exact hen)]; omega
          | false =>
            rw [first_on (by rw [hcb]; exact hen)]
            rw [hen] at he
            rw [List.drop_of_length_le (by rw [← HZ.out]; rcases he with h | h; cases h; omega), first_nil]; omega
        have h2 := cuts_cons m M K (l.drop f) (by rw [List.length_drop, ← HZ.out]; omega)
        rw [h1, List.drop_drop] at h2
        rw [HI.out.1, h2, hx, hext.out f i]
        have e : f + (i + 1 - f) = i + 1 := by omega
        rw [e]; simp
      have HF : Hid (ends m M K (i - f + 1) a b = false → size1 m M K (l.drop f) = (i + 1 - f) + first m M K b (i + 1 - f) (l.drop (i + 1))) := by
        intro he
        have e : i + 1 - f = i - f + 1 := by omega
        rw [hsz1, first_on (by rw [hcb]; exact he), hcb, e]
        omega
      have HCC : Hid (C = d ++ (cuts m M K (l.drop f)).map ofL) := HI.out.1
      clear hsz1 hcb hcd hx hbb HI
      rcases hah with ⟨hfe, rfl⟩ | ⟨hfl, ha1⟩
      · have hle : i ≤ f := by omega
        have hall : ∀ W, Calls Tryd.prog 62 #[.int .i64 (b : Int), .int .i64 (K : Int)] W fun e w' => e = .returned (.bool (has 0 b K)) ∧ w' = W := fun W => by
          have := all_any b K W (by omega) hK
          have e : has 0 b K = decide (b &&& K = K) := by rw [has, Nat.mul_zero, Nat.zero_add]
          rw [e]; exact this
        clear hfe
        by_cases hnM : i - f + 1 = M
        · have HT2 : Hid (C = (d ++ [x]) ++ (cuts m M K (l.drop (i + 1))).map ofL) := HT.out (.inl (by rw [ends, decide_eq_true hnM]; rfl))
          have hn1 : ((i : Int) + 1 - (f : Int) == (M : Int)) = true := by simp; omega
          clear HT HF HCC hnM
          go_wp2
          go_quiet ((go_at_call 62; exact Calls.quiet_of_same (hall _)))
          go_wp2_with (at_builtin; refine wpList_str rfl (.tmp 58) (.tmp 64) rfl W1.heap.size _ d rfl W1 (wr.drewN nq) x (hst.later (below_drewN (Below.refl _ _) nq)) rfl (by omega) ?_; intro v' w4 hb4)
          go_roundw
          case rel => exact ⟨i + 1, i + 1, d ++ [x], by go_num, by go_num, by omega, by omega, by rw [List.length_append, List.length_singleton]; omega, hb4, HT2.out, .inl ⟨rfl, rfl⟩⟩
          case measure => simp [intOf]; omega
        · have hn1 : ((i : Int) + 1 - (f : Int) == (M : Int)) = false := by simp; omega
          by_cases hmn : m + f ≤ i + 1
          · have hd : decide ((m : Int) ≤ (i : Int) + 1 - (f : Int)) = true := decide_eq_true (by omega)
            cases hh : has 0 b K with
            | true =>
              rw [hh] at hall
              have HT2 : Hid (C = (d ++ [x]) ++ (cuts m M K (l.drop (i + 1))).map ofL) := HT.out (.inl (by rw [ends, hh, decide_eq_true (show m ≤ i - f + 1 by omega)]; simp))
              clear HT HF HCC hh hnM
              go_wp2
              go_quiet ((go_at_call 62; exact Calls.quiet_of_same (hall _)))
              go_wp2_with (at_builtin; refine wpList_str rfl (.tmp 58) (.tmp 64) rfl W1.heap.size _ d rfl W1 (wr.drewN nq) x (hst.later (below_drewN (Below.refl _ _) nq)) rfl (by omega) ?_; intro v' w4 hb4)
              go_roundw
              case rel => exact ⟨i + 1, i + 1, d ++ [x], by go_num, by go_num, by omega, by omega, by rw [List.length_append, List.length_singleton]; omega, hb4, HT2.out, .inl ⟨rfl, rfl⟩⟩
              case measure => simp [intOf]; omega
            | false =>
              rw [hh] at hall
              have hen : ends m M K (i - f + 1) 0 b = false := by rw [ends, hh, decide_eq_false hnM, Bool.and_false]; rfl
              by_cases hiz1 : i + 1 = z
              · have hz1 : ((i : Int) == (z : Int) - 1) = true := by simp; omega
                have HT2 : Hid (C = (d ++ [x]) ++ (cuts m M K (l.drop (i + 1))).map ofL) := HT.out (.inr hiz1)
                clear HT HF HCC hh hnM hen hiz1
                go_wp2
                go_quiet ((go_at_call 62; exact Calls.quiet_of_same (hall _)))
                go_wp2_with (at_builtin; refine wpList_str rfl (.tmp 58) (.tmp 64) rfl W1.heap.size _ d rfl W1 (wr.drewN nq) x (hst.later (below_drewN (Below.refl _ _) nq)) rfl (by omega) ?_; intro v' w4 hb4)
                go_roundw
                case rel => exact ⟨i + 1, i + 1, d ++ [x], by go_num, by go_num, by omega, by omega, by rw [List.length_append, List.length_singleton]; omega, hb4, HT2.out, .inl ⟨rfl, rfl⟩⟩
                case measure => simp [intOf]; omega
              · have hz1 : ((i : Int) == (z : Int) - 1) = false := by simp; omega
                have HF2 : Hid (size1 m M K (l.drop f) = (i + 1 - f) + first m M K (bt s (i + 1 - 1)) (i + 1 - f) (l.drop (i + 1))) := by rw [Nat.add_sub_cancel, ← HB.out]; exact HF.out hen
                clear HT HF hh hnM hen
                go_wp2
                go_quiet ((go_at_call 62; exact Calls.quiet_of_same (hall _)))
                go_wp2
                go_roundw
                case rel => exact ⟨i + 1, f, d, rfl, by go_num, by omega, by omega, by omega, hst.later (below_drewN (Below.refl _ _) _), HCC.out, .inr ⟨by omega, by omega, HF2.out⟩⟩
                case measure => simp [intOf]; omega
          · have hd : decide ((m : Int) ≤ (i : Int) + 1 - (f : Int)) = false := decide_eq_false (by omega)
            have hen : ends m M K (i - f + 1) 0 b = false := by rw [ends, decide_eq_false hnM, decide_eq_false (show ¬ m ≤ i - f + 1 by omega)]; rfl
            by_cases hiz1 : i + 1 = z
            · have hz1 : ((i : Int) == (z : Int) - 1) = true := by simp; omega
              have HT2 : Hid (C = (d ++ [x]) ++ (cuts m M K (l.drop (i + 1))).map ofL) := HT.out (.inr hiz1)
              clear HT HF HCC hnM hen hiz1
              go_wp2
              go_quiet ((go_at_call 62; exact Calls.quiet_of_same (hall _)))
              go_wp2_with (at_builtin; refine wpList_str rfl (.tmp 58) (.tmp 64) rfl W1.heap.size _ d rfl W1 (wr.drewN nq) x (hst.later (below_drewN (Below.refl _ _) nq)) rfl (by omega) ?_; intro v' w4 hb4)
              go_roundw
              case rel => exact ⟨i + 1, i + 1, d ++ [x], by go_num, by go_num, by omega, by omega, by rw [List.length_append, List.length_singleton]; omega, hb4, HT2.out, .inl ⟨rfl, rfl⟩⟩
              case measure => simp [intOf]; omega
            · have hz1 : ((i : Int) == (z : Int) - 1) = false := by simp; omega
              have HF2 : Hid (size1 m M K (l.drop f) = (i + 1 - f) + first m M K (bt s (i + 1 - 1)) (i + 1 - f) (l.drop (i + 1))) := by rw [Nat.add_sub_cancel, ← HB.out]; exact HF.out hen
              clear HT HF hnM hen
              go_wp2
              go_quiet ((go_at_call 62; exact Calls.quiet_of_same (hall _)))
              go_wp2
              go_roundw
              case rel => exact ⟨i + 1, f, d, rfl, by go_num, by omega, by omega, by omega, hst.later (below_drewN (Below.refl _ _) _), HCC.out, .inr ⟨by omega, by omega, HF2.out⟩⟩
              case measure => simp [intOf]; omega
      · have hix1 := index_at s (i - 1) ((i : Int) - 1) (by omega) (by rw [← hzs.out]; omega)
        rw [← ha1] at hix1
        clear ha1
        have hall : ∀ W, Calls Tryd.prog 62 #[.int .i64 (31 * (a : Int) + (b : Int)), .int .i64 (K : Int)] W fun e w' => e = .returned (.bool (has a b K)) ∧ w' = W := fun W => by
          have := all_any (31 * a + b) K W (by omega) hK
          have e : (((31 * a + b : Nat)) : Int) = 31 * (a : Int) + (b : Int) := by omega
          rw [e] at this; exact this
        by_cases hnM : i - f + 1 = M
        · have HT2 : Hid (C = (d ++ [x]) ++ (cuts m M K (l.drop (i + 1))).map ofL) := HT.out (.inl (by rw [ends, decide_eq_true hnM]; rfl))
          have hn1 : ((i : Int) + 1 - (f : Int) == (M : Int)) = true := by simp; omega
          clear HT HF HCC hnM
          go_wp2
          go_quiet ((go_at_call 62; exact Calls.quiet_of_same (hall _)))
          go_wp2_with (at_builtin; refine wpList_str rfl (.tmp 58) (.tmp 64) rfl W1.heap.size _ d rfl W1 (wr.drewN nq) x (hst.later (below_drewN (Below.refl _ _) nq)) rfl (by omega) ?_; intro v' w4 hb4)
          go_roundw
          case rel => exact ⟨i + 1, i + 1, d ++ [x], by go_num, by go_num, by omega, by omega, by rw [List.length_append, List.length_singleton]; omega, hb4, HT2.out, .inl ⟨rfl, rfl⟩⟩
          case measure => simp [intOf]; omega
        · have hn1 : ((i : Int) + 1 - (f : Int) == (M : Int)) = false := by simp; omega
          by_cases hmn : m + f ≤ i + 1
          · have hd : decide ((m : Int) ≤ (i : Int) + 1 - (f : Int)) = true := decide_eq_true (by omega)
            cases hh : has a b K with
            | true =>
              rw [hh] at hall
              have HT2 : Hid (C = (d ++ [x]) ++ (cuts m M K (l.drop (i + 1))).map ofL) := HT.out (.inl (by rw [ends, hh, decide_eq_true (show m ≤ i - f + 1 by omega)]; simp))
              clear HT HF HCC hh hnM
              go_wp2
              go_quiet ((go_at_call 62; exact Calls.quiet_of_same (hall _)))
              go_wp2_with (at_builtin; refine wpList_str rfl (.tmp 58) (.tmp 64) rfl W1.heap.size _ d rfl W1 (wr.drewN nq) x (hst.later (below_drewN (Below.refl _ _) nq)) rfl (by omega) ?_; intro v' w4 hb4)
              go_roundw
              case rel => exact ⟨i + 1, i + 1, d ++ [x], by go_num, by go_num, by omega, by omega, by rw [List.length_append, List.length_singleton]; omega, hb4, HT2.out, .inl ⟨rfl, rfl⟩⟩
              case measure => simp [intOf]; omega
            | false =>
              rw [hh] at hall
              have hen : ends m M K (i - f + 1) a b = false := by rw [ends, hh, decide_eq_false hnM, Bool.and_false]; rfl
              by_cases hiz1 : i + 1 = z
              · have hz1 : ((i : Int) == (z : Int) - 1) = true := by simp; omega
                have HT2 : Hid (C = (d ++ [x]) ++ (cuts m M K (l.drop (i + 1))).map ofL) := HT.out (.inr hiz1)
                clear HT HF HCC hh hnM hen hiz1
                go_wp2
                go_quiet ((go_at_call 62; exact Calls.quiet_of_same (hall _)))
                go_wp2_with (at_builtin; refine wpList_str rfl (.tmp 58) (.tmp 64) rfl W1.heap.size _ d rfl W1 (wr.drewN nq) x (hst.later (below_drewN (Below.refl _ _) nq)) rfl (by omega) ?_; intro v' w4 hb4)
                go_roundw
                case rel => exact ⟨i + 1, i + 1, d ++ [x], by go_num, by go_num, by omega, by omega, by rw [List.length_append, List.length_singleton]; omega, hb4, HT2.out, .inl ⟨rfl, rfl⟩⟩
                case measure => simp [intOf]; omega
              · have hz1 : ((i : Int) == (z : Int) - 1) = false := by simp; omega
                have HF2 : Hid (size1 m M K (l.drop f) = (i + 1 - f) + first m M K (bt s (i + 1 - 1)) (i + 1 - f) (l.drop (i + 1))) := by rw [Nat.add_sub_cancel, ← HB.out]; exact HF.out hen
                clear HT HF hh hnM hen
                go_wp2
                go_quiet ((go_at_call 62; exact Calls.quiet_of_same (hall _)))
                go_wp2
                go_roundw
                case rel => exact ⟨i + 1, f, d, rfl, by go_num, by omega, by omega, by omega, hst.later (below_drewN (Below.refl _ _) _), HCC.out, .inr ⟨by omega, by omega, HF2.out⟩⟩
                case measure => simp [intOf]; omega
          · have hd : decide ((m : Int) ≤ (i : Int) + 1 - (f : Int)) = false := decide_eq_false (by omega)
            have hen : ends m M K (i - f + 1) a b = false := by rw [ends, decide_eq_false hnM, decide_eq_false (show ¬ m ≤ i - f + 1 by omega)]; rfl
            by_cases hiz1 : i + 1 = z
            · have hz1 : ((i : Int) == (z : Int) - 1) = true := by simp; omega
              have HT2 : Hid (C = (d ++ [x]) ++ (cuts m M K (l.drop (i + 1))).map ofL) := HT.out (.inr hiz1)
              clear HT HF HCC hnM hen hiz1
              go_wp2
              go_quiet ((go_at_call 62; exact Calls.quiet_of_same (hall _)))
              go_wp2_with (at_builtin; refine wpList_str rfl (.tmp 58) (.tmp 64) rfl W1.heap.size _ d rfl W1 (wr.drewN nq) x (hst.later (below_drewN (Below.refl _ _) nq)) rfl (by omega) ?_; intro v' w4 hb4)
              go_roundw
              case rel => exact ⟨i + 1, i + 1, d ++ [x], by go_num, by go_num, by omega, by omega, by rw [List.length_append, List.length_singleton]; omega, hb4, HT2.out, .inl ⟨rfl, rfl⟩⟩
              case measure => simp [intOf]; omega
            · have hz1 : ((i : Int) == (z : Int) - 1) = false := by simp; omega
              have HF2 : Hid (size1 m M K (l.drop f) = (i + 1 - f) + first m M K (bt s (i + 1 - 1)) (i + 1 - f) (l.drop (i + 1))) := by rw [Nat.add_sub_cancel, ← HB.out]; exact HF.out hen
              clear HT HF hnM hen
              go_wp2
              go_quiet ((go_at_call 62; exact Calls.quiet_of_same (hall _)))
              go_wp2
              go_roundw
              case rel => exact ⟨i + 1, f, d, rfl, by go_num, by omega, by omega, by omega, hst.later (below_drewN (Below.refl _ _) _), HCC.out, .inr ⟨by omega, by omega, HF2.out⟩⟩
              case measure => simp [intOf]; omega
    · have HE : Hid (C = d) := by
        have h1 : f = i := by rcases HI.out.2 with h | h <;> omega
        rw [HI.out.1, List.drop_of_length_le (by rw [← HZ.out]; omega), cuts_nil]
        exact List.append_nil _
      clear HI
      go_wp2
      go_ret
      refine ⟨_, rfl, ?_⟩
      rw [HE.out]
      have h1 := hsz.out
      refine ⟨own_mono hst.1 (by omega), ?_, by have := hst.2.2; omega⟩
      exact ((Below.refl w.heap.size w).alloc (Nat.le_refl _) _).trans ((HW.out ▸ hst.2.1).mono (by simp))
end Go.Proofs.YtcjkficpiedpfaaDoor.Chunk
