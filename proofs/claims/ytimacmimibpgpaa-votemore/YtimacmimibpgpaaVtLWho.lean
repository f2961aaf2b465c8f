/-
  The contract of the law's own 'who'.
-/
import Derived.Test.YtimacmimibpgpaaVtWho
namespace Go.Proofs.Ytimacmimibpgpaa.Vote
open Go.RowKit

theorem insI_at : ∀ {f : Int} {out : List Int} {k : Nat}, k ≤ out.length → (∀ j, j < k → out.getD j 0 < f) → (k < out.length → f < out.getD k 0) → insI f out = out.take k ++ f :: out.drop k
  | f, [], k, hk, _, _ => by
    have : k = 0 := by simpa using hk
    subst this; rfl
  | f, y :: r, 0, _, _, h2 => by
    have h := h2 (by simp)
    simp only [List.getD_cons_zero] at h
    unfold insI
    rw [if_neg (by omega), if_neg (by omega)]
    rfl
  | f, y :: r, k + 1, hk, h1, h2 => by
    have h := h1 0 (by omega)
    simp only [List.getD_cons_zero] at h
    unfold insI
    rw [if_pos h, insI_at (k := k) (by simpa using hk) (fun j hj => by simpa using h1 (j + 1) (by omega)) (fun hk2 => by simpa using h2 (by simpa using hk2))]
    rfl
theorem getD_mem {out : List Int} {k : Nat} (h : k < out.length) : out.getD k 0 ∈ out := by simp [List.getD_eq_getElem?_getD, h]

set_option maxRecDepth 100000 in
theorem index_int (x : Addr) (n cap i : Nat) (hi : i < n) (w : World) : (Instr.indexAt 24 (.slice (some x) n cap) (.int .i64 (i : Int))).run Try.prog w = .ok (.pointer (some (x.add i))) w := by
  rw [run_indexAt_slice w 24 x n cap .i64 i (by kernel_rfl), if_pos (by omega)]
  have e : (sizeOf (Try.prog.elem 24)).run Try.prog w = .ok 1 w := by kernel_rfl
  rw [e]
  simp [Result.andThen]
theorem Ints.rebase {B B' : Nat} {v : Value} {l : List Int} {U W0 w : World} (h : Ints B v l W0 w) (hb : Below B' U W0) (hB : B' ≤ B) : Ints B' v l U w :=
  ⟨⟨h.1.1, h.1.2.imp id fun ⟨g, cap, cur, h1, h2, h3⟩ => ⟨g, cap, cur, h1, Nat.le_trans hB h2, h3⟩⟩, hb.trans (h.2.1.mono hB), Nat.le_trans hB h.2.2⟩
theorem Ints.none {B : Nat} {W0 w : World} (hb : Below B W0 w) (hB : B ≤ w.heap.size) : Ints B (.slice .none 0 0) [] W0 w := ⟨World.ownsRow_nil w _ 3 1, hb, hB⟩

set_option maxHeartbeats 1000000 in
set_option maxRecDepth 100000 in
theorem lwho_any (a : Option Addr) (n cap : Nat) (l : List Vt) (t : ByteArray) (w : World) (m : Nat) (hmn : m ≤ n) (h : VGiven w a n l) :
    Calls Try.prog 9 #[.slice a n cap, .int .i64 (m : Int), .string t] w fun e w' => ∃ v, e = .returned v ∧ Ints w.heap.size v (who (l.take m) t) w w' := by
  have HG : Hid (VGiven w a n l) := h
  have hnm := h.few
  clear h
  go_enter Try.func9, Try.ntmps9
  go_wp2
  go_loopw [7, 8, 9, 10] (fun t7 t8 _ _ wr => ∃ (i : Nat) (v7 : Value), v7 = t7 ∧ t8 = .int .i64 (i : Int) ∧ i ≤ m ∧ Hid (Ints w.heap.size v7 (who (l.take i) t) w wr)) (fun _ t8 _ _ _ => m - (intOf t8).toNat)
  case atStart => exact ⟨0, _, rfl, rfl, Nat.zero_le _, by rw [List.take_zero]; exact Ints.nil w⟩
  case round =>
    obtain ⟨i, v7, rfl, rfl, hi, HI⟩ := hrel
    rename World => wo
    by_cases hin : i < m
    · have hil : i < l.length := by rw [← HG.out.len]; omega
      obtain ⟨x, hx, h0, h1⟩ := (HG.out.lies.below HI.out.2.1).at (j := i) hil
      subst hx
      have HT : Hid (who (l.take (i + 1)) t = if (vtAt l i).2 = t then insI (vtAt l i).1 (who (l.take i) t) else who (l.take i) t) := by
        show who (l.take (i + 1)) t = _
        rw [take_snoc hil, who_snoc]
      have HR : Hid (Rise (who (l.take i) t)) := rise_who _ _
      have HLn : Hid ((who (l.take i) t).length ≤ 1000000) := by
        have h2 := who_len (l.take i) t
        rw [List.length_take] at h2
        show _ ≤ _
        omega
      have HC : Hid (∀ W, Below w.heap.size w W → VtIn W (x.add (i * 2)) (vtAt l i)) := fun W hb => by
        obtain ⟨y, hy, h⟩ := (HG.out.lies.below hb).at (j := i) hil
        cases hy; exact h
      generalize vtAt l i = v at h0 h1 HT HC
      obtain ⟨f, s⟩ := v
      simp only at h0 h1 HT
      have hix := index_vote x n cap i (by omega)
      generalize x.add (i * 2) = q at h0 h1 hix HC
      by_cases hst : s = t
      · have hd : (s.toList == t.toList) = true := by rw [str_eq, decide_eq_true hst]
        have HT2 : Hid (who (l.take (i + 1)) t = insI f (who (l.take i) t)) := by show _ = _; rw [HT.out, if_pos hst]
        generalize who (l.take i) t = out at HI HT2 HR HLn
        obtain ⟨mo, hmo⟩ : ∃ mo, mo = out.length := ⟨_, rfl⟩
        have HMo : Hid (mo = out.length) := hmo
        have hmo6 : mo ≤ 1000000 := by rw [hmo]; exact HLn.out
        obtain ⟨b, co, rfl, hco, hli, hnil⟩ := HI.out.liesN hmo
        have HLI : Hid (LiesI wo b out) := hli
        clear hst HT hli hmo HLn
        go_wp2
        go_loopw [9] (fun t9 w2 => ∃ (k : Nat), t9 = .int .i64 (k : Int) ∧ k ≤ mo ∧ Hid (Below wo.heap.size wo w2) ∧ Hid (∀ j, j < k → out.getD j 0 < f)) (fun t9 _ => mo - (intOf t9).toNat)
        case atStart => exact ⟨0, rfl, Nat.zero_le _, Below.refl _ _, fun j hj => by omega⟩
        case round =>
          obtain ⟨k, rfl, hk, HB2, HK⟩ := hrel
          rename World => w2
          have HBw : Hid (Below w.heap.size w w2) := HI.out.2.1.trans (HB2.out.mono HI.out.2.2)
          obtain ⟨c0, c1⟩ := HC.out w2 HBw.out
          by_cases hkm : k < mo
          · obtain ⟨y, hy, hcy⟩ := (HLI.out.below HB2.out).cellAt (j := k) (by rw [← HMo.out]; exact hkm)
            subst hy
            have HS1 : Hid (out.getD k 0 < f → ∀ j, j < k + 1 → out.getD j 0 < f) := fun h j hj => by
              by_cases e : j = k
              · subst e; exact h
              · exact HK.out j (by omega)
            have HS2 : Hid (out.getD k 0 = f → insI f out = out) := fun h => insI_old HR.out (by rw [← h]; exact getD_mem (by rw [← HMo.out]; exact hkm))
            have HS3 : Hid (f < out.getD k 0 → insI f out = out.take k ++ f :: out.drop k) := fun h => insI_at (by rw [← HMo.out]; exact hk) HK.out (fun _ => h)
            have HTo : Hid (k = (out.take k).length) := by show k = _; rw [List.length_take, ← HMo.out]; omega
            have HDo : Hid (mo - k = (out.drop k).length) := by show _ = _; rw [List.length_drop, ← HMo.out]
            obtain ⟨hsl1, hlt⟩ := ints_to (some y) mo co k out wo HMo.out HLI.out hk hco
            obtain ⟨b2, hsl2, hld, hnil2⟩ := ints_from (some y) mo co k out wo HMo.out HLI.out hk hco hnil
            have HLT : Hid (LiesI wo _ _) := hlt
            have HLD : Hid (LiesI wo b2 _) := hld
            clear hlt hld
            generalize out.getD k 0 = g at hcy HS1 HS2 HS3
            have hiy := index_int y mo co k hkm
            generalize y.add k = p at hcy hiy
            have hd1 : decide (k < mo) = true := decide_eq_true hkm
            by_cases hgf : g < f
            · have hd2 : decide (g < f) = true := decide_eq_true hgf
              have HK2 : Hid (∀ j, j < k + 1 → out.getD j 0 < f) := HS1.out hgf
              clear HS1 HS2 HS3 HK h0 h1
              go_wp2_with fail
              go_quiet (fail)
              go_wp2
              go_roundw
              case rel => exact ⟨k + 1, by go_num, by omega, below_drewN HB2.out _, HK2⟩
              case measure => simp [intOf]; omega
            have hd2 : decide (g < f) = false := decide_eq_false hgf
            by_cases hge : g = f
            · have hd3 : (g == f) = true := by simp [hge]
              have HIN : Hid (insI f out = out) := HS2.out hge
              clear HS1 HS2 HS3 HK h0 h1
              go_wp2_with fail
              go_quiet (fail)
              go_wp2_with fail
              go_quiet (fail)
              go_wp2
              go_roundw
              case rel => exact ⟨i + 1, _, rfl, by go_num, by omega, by show Ints _ _ _ _ _; rw [HT2.out, HIN.out]; exact HI.out.later (below_drewN HB2.out _)⟩
              case measure => simp [intOf]; omega
            have hd3 : (g == f) = false := by simp [hge]
            have HIN : Hid (insI f out = out.take k ++ f :: out.drop k) := HS3.out (by omega)
            clear HS1 HS2 HS3 HK h0 h1
            go_wp2_with fail
            go_quiet (fail)
            go_wp2_with fail
            go_quiet (fail)
            clear hcy hiy
            go_wp2_with (first
              | (at_builtin; refine wpList_ints rfl (.tmp 57) (.tmp 60) rfl wo.heap.size (.slice .none 0 0) [] rfl wo (Ints.none (below_drewN HB2.out _) HB2.out.size) (out.take k) _ k co rfl HTo.out (HLT.out.below (below_drewN HB2.out _)) hnil (by omega) (by simp; omega) ?_; intro v1 w3 hv1; rw [List.nil_append] at hv1; obtain ⟨d0, d1⟩ := HC.out w3 (HI.out.2.1.trans (hv1.2.1.mono HI.out.2.2)))
              | (at_builtin; refine wpList_int rfl (.tmp 62) (.tmp 68) rfl wo.heap.size v1 (out.take k) rfl wo _ f hv1 _ rfl (by simp) (by rw [← HTo.out]; omega) ?_; intro v2 w4 hv2)
              | (at_builtin; refine wpList_ints rfl (.tmp 70) (.tmp 73) rfl wo.heap.size v2 (out.take k ++ [f]) rfl wo hv2 (out.drop k) b2 (mo - k) (co - k) rfl HDo.out (HLD.out.below hv2.2.1) hnil2 (by omega) (by rw [List.length_append, ← HTo.out, List.length_singleton]; omega) ?_; intro v3 w5 hv3))
            go_roundw
            case rel =>
              refine ⟨i + 1, v3, rfl, by go_num, by omega, ?_⟩
              show Ints _ _ _ _ _
              rw [HT2.out, HIN.out]
              have := hv3.rebase HI.out.2.1 HI.out.2.2
              rwa [List.append_assoc] at this
            case measure => simp [intOf]; omega
          · have HIN : Hid (insI f out = out.take k ++ f :: out.drop k) := insI_at (by rw [← HMo.out]; exact hk) HK.out (fun h => by rw [← HMo.out] at h; omega)
            have hd1 : decide (k < mo) = false := decide_eq_false hkm
            have HTo : Hid (k = (out.take k).length) := by show k = _; rw [List.length_take, ← HMo.out]; omega
            have HDo : Hid (mo - k = (out.drop k).length) := by show _ = _; rw [List.length_drop, ← HMo.out]
            obtain ⟨hsl1, hlt⟩ := ints_to b mo co k out wo HMo.out HLI.out hk hco
            obtain ⟨b2, hsl2, hld, hnil2⟩ := ints_from b mo co k out wo HMo.out HLI.out hk hco hnil
            have HLT : Hid (LiesI wo _ _) := hlt
            have HLD : Hid (LiesI wo b2 _) := hld
            clear hlt hld
            clear HK h0 h1
            go_wp2_with fail
            go_quiet (fail)
            go_wp2_with fail
            go_quiet (fail)
            go_wp2_with (first
              | (at_builtin; refine wpList_ints rfl (.tmp 57) (.tmp 60) rfl wo.heap.size (.slice .none 0 0) [] rfl wo (Ints.none (below_drewN HB2.out _) HB2.out.size) (out.take k) _ k co rfl HTo.out (HLT.out.below (below_drewN HB2.out _)) hnil (by omega) (by simp; omega) ?_; intro v1 w3 hv1; rw [List.nil_append] at hv1; obtain ⟨d0, d1⟩ := HC.out w3 (HI.out.2.1.trans (hv1.2.1.mono HI.out.2.2)))
              | (at_builtin; refine wpList_int rfl (.tmp 62) (.tmp 68) rfl wo.heap.size v1 (out.take k) rfl wo _ f hv1 _ rfl (by simp) (by rw [← HTo.out]; omega) ?_; intro v2 w4 hv2)
              | (at_builtin; refine wpList_ints rfl (.tmp 70) (.tmp 73) rfl wo.heap.size v2 (out.take k ++ [f]) rfl wo hv2 (out.drop k) b2 (mo - k) (co - k) rfl HDo.out (HLD.out.below hv2.2.1) hnil2 (by omega) (by rw [List.length_append, ← HTo.out, List.length_singleton]; omega) ?_; intro v3 w5 hv3))
            go_roundw
            case rel =>
              refine ⟨i + 1, v3, rfl, by go_num, by omega, ?_⟩
              show Ints _ _ _ _ _
              rw [HT2.out, HIN.out]
              have := hv3.rebase HI.out.2.1 HI.out.2.2
              rwa [List.append_assoc] at this
            case measure => simp [intOf]; omega
      · have hd := ne_text hst
        have HT2 : Hid (who (l.take (i + 1)) t = who (l.take i) t) := by show _ = _; rw [HT.out, if_neg hst]
        clear hst HT
        go_wp2
        go_roundw
        case rel => exact ⟨i + 1, _, rfl, by go_num, by omega, by show Ints _ _ _ _ _; rw [HT2.out]; exact HI.out⟩
        case measure => simp [intOf]; omega
    · have e : i = m := by omega
      subst e
      go_wp2
      go_ret
      exact ⟨_, rfl, HI.out⟩
end Go.Proofs.Ytimacmimibpgpaa.Vote
