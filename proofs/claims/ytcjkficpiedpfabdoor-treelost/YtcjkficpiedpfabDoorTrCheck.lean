/-
  What is amiss with an entry behind those ahead of it, and with entries: the program's 'checkEntry' and 'Check'.
-/
import Derived.Test.YtcjkficpiedpfabDoorTrLeaf
import Derived.Laws.Cover1
namespace Go.Proofs.YtcjkficpiedpfabDoor.Tree
open Go.RowKit Route Chunk

/-- An error of a number alone. -/
def codeV (c : Nat) : Value := if c = 0 then .nilIface else .iface 43 (.int .i64 (c : Int))

theorem ent_box {w wr : World} {c0 c1 c2 : Value} (hb : Below (w.alloc (.cells #[c0, c1, c2] 37)).heap.size (w.alloc (.cells #[c0, c1, c2] 37)) wr) :
    wr.cell? ⟨w.heap.size, 0, none⟩ = some c0 ∧ wr.cell? ⟨w.heap.size, 1, none⟩ = some c1 ∧ wr.cell? ⟨w.heap.size, 2, none⟩ = some c2 ∧ Below w.heap.size w wr ∧ w.heap.size < wr.heap.size := by
  have hs := hb.size
  have e : (w.alloc (.cells #[c0, c1, c2] 37)).heap.size = w.heap.size + 1 := by simp
  refine ⟨?_, ?_, ?_, ((Below.refl _ _).alloc (Nat.le_refl _) _).trans (hb.mono (by omega)), by omega⟩
  all_goals
    rw [hb.cell (by show w.heap.size < _; omega)]
    simp

set_option maxHeartbeats 4000000 in
set_option maxRecDepth 100000 in
theorem checkEntry_path (a : Option Addr) (n cap : Nat) (p : ByteArray) (c1 c2 : Value) (w : World) (hp : isPath p = false) (hps : p.size ≤ 2000) :
    Calls Tryd.prog 25 #[.slice a n cap, .agg #[.string p, c1, c2]] w fun e w' => e = .returned (.iface 43 (.int .i64 2)) ∧ Below w.heap.size w w' := by
  have hc : Hid (∀ W, Calls Tryd.prog 26 #[.string p] W fun e w' => e = .returned (.iface 43 (.int .i64 2)) ∧ Below W.heap.size W w') := fun W => check_no p W (by omega) hp
  clear hp hps
  go_enter Tryd.func25, Tryd.ntmps25
  go_wp2_with (go_at_call 26; refine (hc.out _).mono ?_; rintro e w1 ⟨rfl, hb1⟩)
  go_ret
  exact ⟨rfl, (ent_box hb1).2.2.2.1⟩

theorem index_at_ent (x : Addr) (n cap i : Nat) (j : Int) (hj : j = (i : Int)) (hi : i < n) (w : World) : (Instr.indexAt 29 (.slice (some x) n cap) (.int .i64 j)).run Tryd.prog w = .ok (.pointer (some (x.add (i * 3)))) w := by
  subst hj; exact index_ent x n cap i hi w

theorem leq_lt (p q : ByteArray) : (Op.bytesLess p.toList q.toList || p.toList == q.toList) = !lt q p := by
  rw [str_eq]
  show (lt p q || decide (p = q)) = _
  cases h1 : lt q p with
  | true => rw [lt_asymm h1, decide_eq_false (fun e => lt_ne h1 e.symm)]; rfl
  | false =>
    cases h2 : lt p q with
    | true => rfl
    | false => rw [decide_eq_true (lt_total h2 h1)]; rfl

set_option maxHeartbeats 4000000 in
set_option maxRecDepth 100000 in
theorem checkEntry_core (a : Option Addr) (n cap : Nat) (l : List (ByteArray × Int × List ByteArray)) (p : ByteArray) (sz : Int) (ka : Option Addr) (kn kc : Nat) (ks : List ByteArray) (v : Value) (w : World) (hp : isPath p = true) (hps : p.size ≤ 2000)
    (hn0 : n = l.length) (hl0 : LiesE w a l) (hnm : n ≤ 1000) (hls : ∀ j, j < n → (entOf l j).1.size ≤ 2000)
    (hkn : kn = ks.length) (hk : Lies w ka ks) (hkm : kn ≤ 1000000) (hks : ∀ j, j < kn → (ks.getD j ByteArray.empty).size ≤ 1000000)
    (h4 : (∃ j, j < n ∧ isUnder (entOf l j).1 p = true) → v = .iface 43 (.int .i64 4)) (h5 : 0 < n → lt (entOf l (n - 1)).1 p = false → v = .iface 43 (.int .i64 4))
    (h1 : (∀ j, j < n → isUnder (entOf l j).1 p = false) → (0 < n → lt (entOf l (n - 1)).1 p = true) → v = codeV (if restB sz 0 ks = false then 1 else 0)) :
    Calls Tryd.prog 25 #[.slice a n cap, .agg #[.string p, .int .i64 sz, .slice ka kn kc]] w fun e w' => e = .returned v ∧ Below w.heap.size w w' := by
  have hc : Hid (∀ W, Calls Tryd.prog 26 #[.string p] W fun e w' => e = .returned .nilIface ∧ Below W.heap.size W w') := fun W => check_ok p W (by omega) hp
  have HK : Hid (Lies w ka ks) := hk
  have HL : Hid (LiesE w a l) := hl0
  have HN : Hid (n = l.length) := hn0
  have ha : Hid (∀ W, Lies W ka ks → Calls Tryd.prog 42 #[.slice ka kn kc, .int .i64 sz] W fun e w' => e = .returned (.bool (restB sz 0 ks)) ∧ w' = W) := fun W h => areChunks_any ka kn kc ks sz W hkn h hkm hks
  have hun : Hid (∀ j, j < n → ∀ W, Calls Tryd.prog 41 #[.string (entOf l j).1, .string p] W fun e w' => e = .returned (.bool (isUnder (entOf l j).1 p)) ∧ Below W.heap.size W w') := fun j hj W => under_any _ p W (by have := hls j hj; omega) (by omega)
  have H4 : Hid ((∃ j, j < n ∧ isUnder (entOf l j).1 p = true) → v = .iface 43 (.int .i64 4)) := h4
  have H5 : Hid (0 < n → lt (entOf l (n - 1)).1 p = false → v = .iface 43 (.int .i64 4)) := h5
  have H1 : Hid ((∀ j, j < n → isUnder (entOf l j).1 p = false) → (0 < n → lt (entOf l (n - 1)).1 p = true) → v = codeV (if restB sz 0 ks = false then 1 else 0)) := h1
  clear hp hps hn0 hl0 hls hkn hk hks h4 h5 h1
  rcases Nat.eq_zero_or_pos n with hz | hpos
  · subst hz
    go_enter Tryd.func25, Tryd.ntmps25
    go_wp2_with (go_at_call 26; refine (hc.out _).mono ?_; rintro e w1 ⟨rfl, hb1⟩; obtain ⟨g0, g1, g2, hbw, hlt⟩ := ent_box hb1)
    go_quiet (fail)
    go_wp2
    go_loopw [4, 7, 32] (fun t4 _ t32 wr => t4 = .nilIface ∧ t32 = .int .i64 0 ∧ Below (w.alloc (.cells #[.string p, .int .i64 sz, .slice ka kn kc] 37)).heap.size (w.alloc (.cells #[.string p, .int .i64 sz, .slice ka kn kc] 37)) wr) (fun _ _ _ _ => 0)
    case atStart => exact ⟨rfl, rfl, below_drewN hb1 _⟩
    case round =>
      obtain ⟨rfl, rfl, hbr⟩ := hrel
      obtain ⟨e0, e1, e2, hbw2, hlt2⟩ := ent_box hbr
      clear g0 g1 g2 hbw hlt hb1
      have HV : Hid (v = codeV (if restB sz 0 ks = false then 1 else 0)) := H1.out (fun j hj => by omega) (fun h => by omega)
      have hac := ha.out wr (HK.out.below hbw2 (Nat.le_refl _))
      generalize restB sz 0 ks = r at hac HV
      clear H1 H4 H5
      go_wp2_with (go_at_call 42; refine hac.mono ?_; rintro e w3 ⟨rfl, rfl⟩)
      all_goals
        go_ret
        refine ⟨?_, hbw2⟩
        rw [HV.out]
        simp_all [codeV]
  · have HX : Hid (∀ wr, Below w.heap.size w wr → ∃ x, a = some x ∧ wr.cell? (x.add ((n - 1) * 3)) = some (.string (entOf l (n - 1)).1)) := fun wr hb => by
      obtain ⟨x, hx, h, _⟩ := (HL.out.below hb (Nat.le_refl _)).at (j := n - 1) (by rw [← HN.out]; omega)
      exact ⟨x, hx, h⟩
    obtain ⟨x, hx, hcx⟩ := HX.out w (Below.refl _ _)
    clear hcx
    subst hx
    have hix := index_at_ent x n cap (n - 1) ((n : Int) - 1) (by omega) (by omega)
    have hle := leq_lt p (entOf l (n - 1)).1
    obtain ⟨q, hq⟩ : ∃ q, q = (entOf l (n - 1)).1 := ⟨_, rfl⟩
    obtain ⟨b, hb⟩ : ∃ b, b = lt (entOf l (n - 1)).1 p := ⟨_, rfl⟩
    have HB : Hid (b = lt (entOf l (n - 1)).1 p) := hb
    have HX1 : Hid (∀ wr, Below w.heap.size w wr → wr.cell? (x.add ((n - 1) * 3)) = some (.string q)) := fun wr hb => by
      obtain ⟨y, hy, h⟩ := HX.out wr hb
      simp only [Option.some.injEq] at hy
      subst hy
      rw [hq]; exact h
    rw [← hb, ← hq] at hle
    generalize x.add ((n - 1) * 3) = pl at hix HX1
    have hd : decide (0 < n) = true := decide_eq_true hpos
    clear hq hb HX
    go_enter Tryd.func25, Tryd.ntmps25
    go_wp2_with (go_at_call 26; refine (hc.out _).mono ?_; rintro e w1 ⟨rfl, hb1⟩; obtain ⟨g0, g1, g2, hbw, hlt⟩ := ent_box hb1; have g3 := HX1.out w1 hbw)
    cases b with
    | false =>
      have hv := H5.out hpos HB.out.symm
      subst hv
      rw [Bool.not_false] at hle
      have HLE : Hid ((Op.bytesLess p.toList q.toList || p.toList == q.toList) = true) := hle
      clear hle
      go_quiet (fail)
      rw [HLE.out]
      go_wp2
      go_ret
      exact ⟨rfl, below_drewN hbw _⟩
    | true =>
      rw [Bool.not_true] at hle
      have HLE : Hid ((Op.bytesLess p.toList q.toList || p.toList == q.toList) = false) := hle
      clear hle
      go_quiet (fail)
      rw [HLE.out]
      clear g3 HLE hix HX1
      go_wp2
      go_loopw [4, 7, 32] (fun t4 _ t32 wr => ∃ i : Nat, t4 = .nilIface ∧ t32 = .int .i64 (i : Int) ∧ i ≤ n ∧ Below (w.alloc (.cells #[.string p, .int .i64 sz, .slice ka kn kc] 37)).heap.size (w.alloc (.cells #[.string p, .int .i64 sz, .slice ka kn kc] 37)) wr ∧ Hid (∀ j, j < i → isUnder (entOf l j).1 p = false)) (fun _ _ t32 _ => n - (intOf t32).toNat)
      case atStart => exact ⟨0, rfl, rfl, Nat.zero_le _, below_drewN hb1 _, fun j hj => by omega⟩
      case round =>
        obtain ⟨i, rfl, rfl, hi, hbr, HI⟩ := hrel
        obtain ⟨e0, e1, e2, hbw2, hlt2⟩ := ent_box hbr
        clear g0 g1 g2 hbw hlt hb1
        by_cases hin : i < n
        · obtain ⟨x', hx, h0, h1, ka', kc', h2, hk'⟩ := (HL.out.below hbw2 (Nat.le_refl _)).at (j := i) (by rw [← HN.out]; exact hin)
          simp only [Option.some.injEq] at hx
          subst hx
          have hu := hun.out i hin
          have HI2 : Hid (isUnder (entOf l i).1 p = false → ∀ j, j < i + 1 → isUnder (entOf l j).1 p = false) := fun hq j hj => by
            by_cases hji : j = i
            · subst hji; exact hq
            · exact HI.out j (by omega)
          have HX : Hid (isUnder (entOf l i).1 p = true → v = .iface 43 (.int .i64 4)) := fun hq => H4.out ⟨i, hin, hq⟩
          generalize entOf l i = en at h0 h1 h2 hk' hu HI2 HX
          obtain ⟨p', sz', ks'⟩ := en
          have hix := index_ent x n cap i hin
          simp only at h0 h1 h2 hk' hu HI2 HX
          generalize ks'.length = kn' at h2
          generalize x.add (i * 3) = q at h0 h1 h2 hix
          generalize isUnder p' p = b at hu HI2 HX
          have HBR : Hid (Below (w.alloc (.cells #[.string p, .int .i64 sz, .slice ka kn kc] 37)).heap.size (w.alloc (.cells #[.string p, .int .i64 sz, .slice ka kn kc] 37)) wr) := hbr
          clear hk' HI hbr hbw2
          go_wp2_with fail
          refine (hu _).mono ?_
          rintro e w2 ⟨rfl, hb2⟩
          have HB2 : Hid (Below (w.alloc (.cells #[.string p, .int .i64 sz, .slice ka kn kc] 37)).heap.size (w.alloc (.cells #[.string p, .int .i64 sz, .slice ka kn kc] 37)) w2) := (HBR.out.alloc HBR.out.size _).trans (hb2.mono (Nat.le_trans HBR.out.size (by simp)))
          clear hb2 HBR e0 e1 e2
          cases b with
          | true =>
            have hv := HX.out rfl
            subst hv
            go_wp2
            go_ret
            exact ⟨rfl, (ent_box HB2.out).2.2.2.1⟩
          | false =>
            have HI3 : Hid (∀ j, j < i + 1 → isUnder (entOf l j).1 p = false) := HI2.out rfl
            clear HI2 HX
            go_wp2
            go_roundw
            case rel => exact ⟨i + 1, rfl, by go_num, by omega, HB2.out, HI3⟩
            case measure => simp [intOf]; omega
        · have HV : Hid (v = codeV (if restB sz 0 ks = false then 1 else 0)) := H1.out (fun j hj => HI.out j (by omega)) (fun _ => HB.out.symm)
          have hac := ha.out wr (HK.out.below hbw2 (Nat.le_refl _))
          clear HI
          generalize restB sz 0 ks = r at hac HV
          go_wp2_with (go_at_call 42; refine hac.mono ?_; rintro e w3 ⟨rfl, rfl⟩)
          all_goals
            go_ret
            refine ⟨?_, hbw2⟩
            rw [HV.out]
            simp_all [codeV]
end Go.Proofs.YtcjkficpiedpfabDoor.Tree
