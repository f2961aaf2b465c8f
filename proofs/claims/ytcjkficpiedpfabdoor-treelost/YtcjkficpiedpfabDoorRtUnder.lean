/-
  Whether a text is a path under another one: the program's answer and the document's, of every two texts.
-/
import Derived.Test.YtcjkficpiedpfabDoorRtAns
namespace Go.Proofs.YtcjkficpiedpfabDoor.Route
open Go.RowKit

set_option maxHeartbeats 4000000 in
set_option maxRecDepth 100000 in
theorem under_any (d s : ByteArray) (w : World) (hd : d.size ≤ 100000) (hs : s.size ≤ 100000) :
    Calls Tryd.prog 41 #[.string d, .string s] w fun e w' => e = .returned (.bool (isUnder d s)) ∧ Below w.heap.size w w' := by
  cases hpd : isPath d with
  | false =>
    have e : isUnder d s = false := by rw [isUnder, hpd]; rfl
    rw [e]
    go_enter Tryd.func41, Tryd.ntmps41
    go_wp2_with (go_at_call 43; refine (cut_no d w hd hpd).mono ?_; rintro e w1 ⟨v, rfl, hb⟩)
    go_ret
    exact ⟨rfl, hb⟩
  | true =>
    have hc1 := cut_ok d w hd hpd
    have hl1 := path_len hpd
    cases hps : isPath s with
    | false =>
      have e : isUnder d s = false := by rw [isUnder, hpd, hps]; rfl
      rw [e]
      have hc2 : Hid (∀ w1, _) := fun w1 => cut_no s w1 hs hps
      generalize parts d = l at *
      go_enter Tryd.func41, Tryd.ntmps41
      go_wp2_with fail
      refine hc1.mono ?_
      rintro e w1 ⟨v, rfl, hb⟩
      go_wp2_with fail
      refine (hc2.out w1).mono ?_
      rintro e w2 ⟨v2, rfl, hb2⟩
      go_wp2
      go_ret
      exact ⟨rfl, hb.2.1.trans (hb2.mono hb.2.2)⟩
    | true =>
      have hc2 : Hid (∀ w1, Calls Tryd.prog 43 #[.string s] w1 fun e w' => ∃ v, e = .returned (.tuple #[v, .bool true]) ∧ Strs w1.heap.size v (parts s) w1 w') := fun w1 => cut_ok s w1 hs hps
      have hl2 := path_len hps
      have e : isUnder d s = decide ((parts d).length < (parts s).length ∧ (parts s).take (parts d).length = parts d) := by rw [isUnder, hpd, hps]; rfl
      rw [e]
      clear e hpd hps
      generalize parts d = l at *
      generalize parts s = m at *
      obtain ⟨n, hn⟩ : ∃ n, n = l.length := ⟨_, rfl⟩
      obtain ⟨k, hk⟩ : ∃ k, k = m.length := ⟨_, rfl⟩
      rw [← hn, ← hk]
      rw [← hn] at hl1
      rw [← hk] at hl2
      have HN : Hid (n = l.length) := hn
      have HK : Hid (k = m.length) := hk
      clear hn hk
      by_cases hnk : n < k
      · have e : decide (n < k ∧ m.take n = l) = decide (m.take n = l.take n) := by
          rw [HN.out, List.take_length]
          exact decide_eq_decide.2 ⟨fun h => h.2, fun h => ⟨by rw [← HN.out]; exact hnk, h⟩⟩
        rw [e]
        clear e
        have heq : Hid (∀ g1 c1 g2 c2 W, (∀ j, j < m.length → W.cell? ⟨g1, 0 + j, none⟩ = some (.string (m.getD j ByteArray.empty))) → (∀ j, j < l.length → W.cell? ⟨g2, 0 + j, none⟩ = some (.string (l.getD j ByteArray.empty))) →
            Calls Tryd.prog 59 #[.slice (some ⟨g1, 0, none⟩) n c1, .slice (some ⟨g2, 0, none⟩) n c2] W fun e w' => e = .returned (.bool (decide (m.take n = l.take n))) ∧ ∃ q, w' = W.drewN q) := fun g1 c1 g2 c2 W h1 h2 =>
          Tryd.slices_Equal_string g1 0 n c1 g2 0 n c2 m l W (by rw [← HK.out]; omega) (by rw [← HN.out]; omega) (by omega) (by omega) h1 h2
        generalize decide (m.take n = l.take n) = r at *
        go_enter Tryd.func41, Tryd.ntmps41
        go_wp2_with fail
        refine hc1.mono ?_
        rintro e w1 ⟨v, rfl, hb⟩
        obtain ⟨g2, c2, rfl, hnc2, hcm2, hBg2, _, _⟩ := hb.formN HN.out (by omega)
        go_wp2_with fail
        refine (hc2.out w1).mono ?_
        rintro e w2 ⟨v2, rfl, hb2⟩
        obtain ⟨g1, c1, rfl, hnc1, hcm1, hBg1, _, hcs1⟩ := hb2.formN HK.out (by omega)
        have hbL := hb.later hb2.2.1
        have hcs2 : ∀ j, j < l.length → w2.cell? ⟨g2, 0 + j, none⟩ = some (.string (l.getD j ByteArray.empty)) := fun j hj => by
          have ho := hbL.1
          rw [← HN.out] at ho
          rw [Nat.zero_add, ho.cellAt j (by rw [HN.out]; omega), sv_at l j hj]
        have HC2 := hcs2
        have h23 := heq.out g1 c1 g2 c2 w2 (fun j hj => by rw [Nat.zero_add]; exact hcs1 j hj) hcs2
        clear hcs2 HC2 hcs1 heq hc1 hc2
        go_wp2_with fail
        refine h23.mono ?_
        rintro e w3 ⟨rfl, q, rfl⟩
        go_wp2
        go_ret
        exact ⟨rfl, below_drewN (hb.2.1.trans (hb2.2.1.mono hb.2.2)) q⟩
      · have e : decide (n < k ∧ m.take n = l) = false := decide_eq_false (fun h => hnk h.1)
        rw [e]
        clear e
        go_enter Tryd.func41, Tryd.ntmps41
        go_wp2_with fail
        refine hc1.mono ?_
        rintro e w1 ⟨v, rfl, hb⟩
        obtain ⟨g2, c2, rfl, hnc2, hcm2, hBg2, _, _⟩ := hb.formN HN.out (by omega)
        go_wp2_with fail
        refine (hc2.out w1).mono ?_
        rintro e w2 ⟨v2, rfl, hb2⟩
        obtain ⟨g1, c1, rfl, hnc1, hcm1, hBg1, _, hcs1⟩ := hb2.formN HK.out (by omega)
        clear hcs1
        go_wp2
        go_ret
        exact ⟨rfl, hb.2.1.trans (hb2.2.1.mono hb.2.2)⟩
end Go.Proofs.YtcjkficpiedpfabDoor.Route
