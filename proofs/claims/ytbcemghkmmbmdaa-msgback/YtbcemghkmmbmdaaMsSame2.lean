/-
  Same: are two messages the same? The whole.
-/
import Derived.Test.YtbcemghkmmbmdaaMsSame
namespace Go.Proofs.Ytbcemghkmmbmdaa.Msg
open Go.RowKit Route

/-- What Same tells. -/
def SmO (m m' : Ms) (w : World) (e : Ending) (w' : World) : Prop := ∃ b, e = .returned (.bool b) ∧ (b = true ↔ m = m') ∧ Below w.heap.size w w'
theorem SmO.no {m m' : Ms} {w w' : World} {e : Ending} (h : e = .returned (.bool false)) (hm : m ≠ m') (hb : Below w.heap.size w w') : SmO m m' w e w' := ⟨false, h, ⟨(fun h => by cases h), fun h => absurd h hm⟩, hb⟩
theorem SmO.yes {m m' : Ms} {w w' : World} {e : Ending} (h : e = .returned (.bool true)) (hm : m = m') (hb : Below w.heap.size w w') : SmO m m' w e w' := ⟨true, h, ⟨fun _ => hm, fun _ => rfl⟩, hb⟩

set_option maxHeartbeats 16000000 in
set_option maxRecDepth 100000 in
theorem same_any (m m' : Ms) (a : Option Addr) (n c : Nat) (b : Option Addr) (u d : Nat) (a' : Option Addr) (n' c' : Nat) (b' : Option Addr) (u' d' : Nat) (w : World) (hM : MsIn w m a n b u) (hM' : MsIn w m' a' n' b' u')
    (hF : m.p.length ≤ 1000000 ∧ (∀ e ∈ m.p, e.2.2.2.length ≤ 1000000000) ∧ m.c.length ≤ 1000000 ∧ ∀ e ∈ m.c, e.2.2.length ≤ 1000000000 ∧ ∀ x ∈ e.2.2, x.2.2.2.length ≤ 1000000000) :
    Calls Try.prog 17 #[.agg (msV m a n c b u d), .agg (msV m' a' n' c' b' u' d')] w (SmO m m' w) := by
  obtain ⟨k, f, v, s, bd, pl, cl⟩ := m
  obtain ⟨k', f', v', s', bd', pl', cl'⟩ := m'
  have HNo : Hid (∀ e w', ⟨k, f, v, s, bd, pl, cl⟩ ≠ (⟨k', f', v', s', bd', pl', cl'⟩ : Ms) → e = .returned (.bool false) → Below w.heap.size w w' → SmO ⟨k, f, v, s, bd, pl, cl⟩ ⟨k', f', v', s', bd', pl', cl'⟩ w e w') := fun e w' h1 h2 h3 => SmO.no h2 h1 h3
  have HYes : Hid (∀ e w', ⟨k, f, v, s, bd, pl, cl⟩ = (⟨k', f', v', s', bd', pl', cl'⟩ : Ms) → e = .returned (.bool true) → Below w.heap.size w w' → SmO ⟨k, f, v, s, bd, pl, cl⟩ ⟨k', f', v', s', bd', pl', cl'⟩ w e w') := fun e w' h1 h2 h3 => SmO.yes h2 h1 h3
  obtain ⟨hn, hp, hu, hc⟩ := hM
  obtain ⟨hn', hp', hu', hc'⟩ := hM'
  simp only at hn hp hu hc hn' hp' hu' hc' hF
  show Calls Try.prog 17 #[.agg #[.int .i64 k, .int .i64 f, .int .i64 v, .int .i64 s, .string bd, .slice a n c, .slice b u d], .agg #[.int .i64 k', .int .i64 f', .int .i64 v', .int .i64 s', .string bd', .slice a' n' c', .slice b' u' d']] w _
  obtain ⟨W2, hW2⟩ : ∃ W2, W2 = (w.alloc (.cells #[.int .i64 k, .int .i64 f, .int .i64 v, .int .i64 s, .string bd, .slice a n c, .slice b u d] 25)).alloc (.cells #[.int .i64 k', .int .i64 f', .int .i64 v', .int .i64 s', .string bd', .slice a' n' c', .slice b' u' d'] 25) := ⟨_, rfl⟩
  have HW2 : Hid (W2 = _) := hW2
  have hb1 : Below w.heap.size w (w.alloc (.cells #[.int .i64 k, .int .i64 f, .int .i64 v, .int .i64 s, .string bd, .slice a n c, .slice b u d] 25)) := (Below.refl _ _).alloc (Nat.le_refl _) _
  have hB2 : Below w.heap.size w W2 := by rw [hW2]; exact hb1.alloc hb1.size _
  have HB2 : Hid (Below w.heap.size w W2) := hB2
  have hz : (w.alloc (.cells #[.int .i64 k, .int .i64 f, .int .i64 v, .int .i64 s, .string bd, .slice a n c, .slice b u d] 25)).heap.size = w.heap.size + 1 := by simp
  obtain ⟨x0, x1, x2, x3, x4, x5, x6⟩ := seven7 (show W2.heap[w.heap.size]? = some (.cells #[.int .i64 k, .int .i64 f, .int .i64 v, .int .i64 s, .string bd, .slice a n c, .slice b u d] 25 (0, 0)) by rw [hW2, Below.heap_alloc _ _ _ (by rw [hz]; omega)]; exact heap_alloc_new w _)
  obtain ⟨y0, y1, y2, y3, y4, y5, y6⟩ := seven7 (show W2.heap[w.heap.size + 1]? = some (.cells #[.int .i64 k', .int .i64 f', .int .i64 v', .int .i64 s', .string bd', .slice a' n' c', .slice b' u' d'] 25 (0, 0)) by rw [hW2, ← hz]; exact heap_alloc_new _ _)
  have HN : Hid (u = cl.length ∧ u' = cl'.length) := ⟨hu, hu'⟩
  have hu6 : u ≤ 1000000 := by omega
  have HSP : Hid (Calls _ _ _ _ _) := sameP_any a a' n n' c c' pl pl' W2 hn hn' (hp.below hB2 (Nat.le_refl _)) (hp'.below hB2 (Nat.le_refl _)) (by omega) hF.2.1
  have HLC : Hid (LiesC W2 b cl ∧ LiesC W2 b' cl') := ⟨hc.below hB2 (Nat.le_refl _), hc'.below hB2 (Nat.le_refl _)⟩
  have HFC : Hid (∀ e ∈ cl, e.2.2.length ≤ 1000000000 ∧ ∀ x ∈ e.2.2, x.2.2.2.length ≤ 1000000000) := hF.2.2.2
  clear hn hp hu hc hn' hp' hu' hc' hF hW2 hB2 hb1 hz
  by_cases hk : k = k'
  case neg =>
    have ek : (k != k') = true := by simp [hk]
    go_enter Try.func17, Try.ntmps17
    go_wp2
    go_ret
    rw [← HW2.out]
    exact HNo.out _ _ (fun h => by simp only [Ms.mk.injEq] at h; exact hk (by simp [h])) rfl HB2.out
  case pos =>
    subst hk
    by_cases hf : f = f'
    case neg =>
      have ef : (f != f') = true := by simp [hf]
      go_enter Try.func17, Try.ntmps17
      go_wp2
      go_ret
      rw [← HW2.out]
      exact HNo.out _ _ (fun h => by simp only [Ms.mk.injEq] at h; exact hf (by simp [h])) rfl HB2.out
    case pos =>
      subst hf
      by_cases hv : v = v'
      case neg =>
        have ev : (v != v') = true := by simp [hv]
        go_enter Try.func17, Try.ntmps17
        go_wp2
        go_ret
        rw [← HW2.out]
        exact HNo.out _ _ (fun h => by simp only [Ms.mk.injEq] at h; exact hv (by simp [h])) rfl HB2.out
      case pos =>
        subst hv
        by_cases hs : s = s'
        case neg =>
          have es : (s != s') = true := by simp [hs]
          go_enter Try.func17, Try.ntmps17
          go_wp2
          go_ret
          rw [← HW2.out]
          exact HNo.out _ _ (fun h => by simp only [Ms.mk.injEq] at h; exact hs (by simp [h])) rfl HB2.out
        case pos =>
          subst hs
          by_cases hbd : bd = bd'
          case neg =>
            have ebd := text_ne hbd
            go_enter Try.func17, Try.ntmps17
            go_wp2
            go_ret
            rw [← HW2.out]
            exact HNo.out _ _ (fun h => by simp only [Ms.mk.injEq] at h; exact hbd (by simp [h])) rfl HB2.out
          case pos =>
            subst hbd
            go_enter Try.func17, Try.ntmps17
            go_wp2_with fail
            rw [← HW2.out]
            refine HSP.out.mono ?_
            rintro e w3 ⟨rfl, hq3⟩
            obtain ⟨q3, rfl⟩ := hq3
            clear HSP
            have HB3 : Hid (∀ q, Below w.heap.size w (W2.drewN q)) := fun q => below_drewN HB2.out q
            cases hpp : decide (pl = pl') with
            | false =>
              have hne := of_decide_eq_false hpp
              go_wp2
              go_ret
              exact HNo.out _ _ (fun h => by simp only [Ms.mk.injEq] at h; exact hne (by simp [h])) rfl (HB3.out _)
            | true =>
              have hpe := of_decide_eq_true hpp
              subst hpe
              clear hpp
              by_cases huu : u = u'
              case neg =>
                have eu : ((u : Int) != (u' : Int)) = true := by simp; omega
                go_wp2
                go_ret
                exact HNo.out _ _ (fun h => by simp only [Ms.mk.injEq] at h; have h2 : cl = cl' := by simp [h]
                                               have := HN.out; rw [h2] at this; omega) rfl (HB3.out _)
              case pos =>
                subst huu
                go_wp2
                go_loopw [5] (fun t5 wr => ∃ i : Nat, t5 = .int .i64 (i : Int) ∧ i ≤ u ∧ Hid (∃ q, wr = W2.drewN q) ∧ Hid (cl.take i = cl'.take i)) (fun t5 _ => u - (intOf t5).toNat)
                case atStart => exact ⟨0, rfl, Nat.zero_le _, ⟨_, rfl⟩, (by simp : cl.take 0 = cl'.take 0)⟩
                case round =>
                  obtain ⟨i, rfl, hi, HD, HT⟩ := hrel
                  have HBr : Hid (∀ k, Below w.heap.size w (wr.drewN k)) := fun k => by obtain ⟨q, rfl⟩ := HD.out; exact below_drewN (HB3.out q) k
                  have HDr : Hid (∀ k, ∃ q', wr.drewN k = W2.drewN q') := fun k => by obtain ⟨q, rfl⟩ := HD.out; exact ⟨_, World.drewN_drewN _ _ _⟩
                  have HLr : Hid (LiesC wr b cl ∧ LiesC wr b' cl') := by obtain ⟨q, rfl⟩ := HD.out; exact HLC.out
                  have HC6 : wr.cell? ⟨w.heap.size, 6, none⟩ = some (.slice b u d) ∧ wr.cell? ⟨w.heap.size + 1, 6, none⟩ = some (.slice b' u d') := by obtain ⟨q, rfl⟩ := HD.out; exact ⟨x6, y6⟩
                  obtain ⟨c6, c6'⟩ := HC6
                  by_cases hin : i < u
                  · have hil : i < cl.length := by rw [← HN.out.1]; exact hin
                    have hil' : i < cl'.length := by rw [← HN.out.2]; exact hin
                    obtain ⟨x, hx, g0, g1, fa, fc, g3, hf⟩ := HLr.out.1.at hil
                    obtain ⟨x', hx', g0', g1', fa', fc', g3', hf'⟩ := HLr.out.2.at hil'
                    subst hx hx'
                    have hix := index_ch x u d i hin
                    have hix' := index_ch x' u d' i hin
                    have hsz := HFC.out _ (List.getElem_mem hil)
                    rw [chAt_get hil] at g0 g1 g3 hf
                    rw [chAt_get hil'] at g0' g1' g3' hf'
                    have HE : Hid (cl.take (i + 1) = cl.take i ++ [cl[i]] ∧ cl'.take (i + 1) = cl'.take i ++ [cl'[i]]) := ⟨take_next hil, take_next hil'⟩
                    have HG : Hid (cl = cl' → cl[i] = cl'[i]) := fun h => by subst h; rfl
                    generalize x.add (i * 3) = p at g0 g1 g3 hix
                    generalize x'.add (i * 3) = p' at g0' g1' g3' hix'
                    generalize cl[i] = ch at g0 g1 g3 hf HE HG hsz
                    generalize cl'[i] = ch' at g0' g1' g3' hf' HE HG
                    obtain ⟨v0, v1, fr⟩ := ch
                    obtain ⟨v0', v1', fr'⟩ := ch'
                    simp only at g0 g1 g3 hf g0' g1' g3' hf' hsz
                    obtain ⟨kk, hk⟩ : ∃ k, k = fr.length := ⟨_, rfl⟩
                    obtain ⟨kk', hk'⟩ : ∃ k, k = fr'.length := ⟨_, rfl⟩
                    rw [← hk] at g3
                    rw [← hk'] at g3'
                    have HCI : Hid (∀ z, Calls Try.prog 38 #[.slice fa kk fc, .slice fa' kk' fc'] (wr.drewN z) fun e w' => e = .returned (.bool (decide (fr = fr'))) ∧ ∃ q, w' = (wr.drewN z).drewN q) := fun z => sameP_any fa fa' kk kk' fc fc' fr fr' (wr.drewN z) hk hk' hf hf' (by rw [hk]; exact hsz.1) hsz.2
                    clear hf hf' hk hk' hsz
                    by_cases h0 : v0 = v0'
                    · subst h0
                      by_cases h1 : v1 = v1'
                      · subst h1
                        cases h3 : decide (fr = fr') with
                        | false =>
                          rw [h3] at HCI
                          have h4 := of_decide_eq_false h3
                          have HF : Hid (cl ≠ cl') := fun h => absurd (HG.out h) (by simp only [Prod.mk.injEq, not_and]; intro _ _; exact h4)
                          go_wp2_with fail
                          go_quiet ((go_at_call 38; exact Calls.quiet_of (HCI.out _)))
                          go_wp2
                          go_ret
                          exact HNo.out _ _ (fun h => by simp only [Ms.mk.injEq] at h; exact HF.out (by simp [h])) rfl (HBr.out _)
                        | true =>
                          rw [h3] at HCI
                          have h4 := of_decide_eq_true h3
                          subst h4
                          have HT2 : Hid (cl.take (i + 1) = cl'.take (i + 1)) := by show _ = _; rw [HE.out.1, HE.out.2, HT.out]
                          clear HT HE HG h3
                          go_wp2_with fail
                          go_quiet ((go_at_call 38; exact Calls.quiet_of (HCI.out _)))
                          go_wp2
                          go_roundw
                          case rel => exact ⟨i + 1, by go_num, by omega, HDr.out _, HT2⟩
                          case measure => simp [intOf]; omega
                      · have e1 : (v1 != v1') = true := by simp [h1]
                        have HF : Hid (cl ≠ cl') := fun h => absurd (HG.out h) (by simp only [Prod.mk.injEq, not_and]; intro _ h; exact absurd h h1)
                        go_wp2_with fail
                        go_quiet ((go_at_call 38; exact Calls.quiet_of (HCI.out _)))
                        go_wp2
                        go_ret
                        exact HNo.out _ _ (fun h => by simp only [Ms.mk.injEq] at h; exact HF.out (by simp [h])) rfl (HBr.out _)
                    · have e0 : (v0 != v0') = true := by simp [h0]
                      have HF : Hid (cl ≠ cl') := fun h => absurd (HG.out h) (by simp only [Prod.mk.injEq, not_and]; intro h; exact absurd h h0)
                      go_wp2_with fail
                      go_quiet ((go_at_call 38; exact Calls.quiet_of (HCI.out _)))
                      go_wp2
                      go_ret
                      exact HNo.out _ _ (fun h => by simp only [Ms.mk.injEq] at h; exact HF.out (by simp [h])) rfl (HBr.out _)
                  · have HF : Hid (cl = cl') := by
                      have := HT.out
                      rw [List.take_of_length_le (by rw [← HN.out.1]; omega), List.take_of_length_le (by rw [← HN.out.2]; omega)] at this
                      exact this
                    go_wp2
                    go_ret
                    exact HYes.out _ _ (by rw [HF.out]) rfl (by have := HBr.out 0; exact this)
end Go.Proofs.Ytbcemghkmmbmdaa.Msg
