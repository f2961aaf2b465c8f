/-
  The reference's May, as a decision.
-/
import Derived.Test.YtlpgdfdadkljfaaImMay
namespace Go.Proofs.Ytlpgdfdadkljfaa.Img
open Go.RowKit Route Tree Order Cat

/-- A snapshot that has been read: its entries' lengths. -/
def SWide (s : Snap) : Prop := s.2.1.size ≤ 100000 ∧ s.2.2.2.length ≤ 1000000 ∧ ∀ j, j < s.2.2.2.length → shortE (entOf s.2.2.2 j)

set_option maxHeartbeats 8000000 in
set_option maxRecDepth 100000 in
theorem may_any (a : Option Addr) (n cap : Nat) (S : List Snap) (w : World) (hn : n = S.length) (hl : LiesN w a S) (hm : n ≤ 1000000) (hS : ∀ s ∈ S, SWide s) :
    Calls Try.prog 8 #[.slice a n cap] w fun e w' => ∃ b, e = .returned (.bool b) ∧ Hid ((b = true ↔ May S) ∧ Below w.heap.size w w') := by
  have HN : Hid (n = S.length) := hn
  have HL : Hid (LiesN w a S) := hl
  have HG : Hid (∀ s ∈ S, SWide s) := hS
  clear hn hl hS
  go_enter Try.func8, Try.ntmps8
  go_wp2
  go_loopw [3] (fun t3 wr => ∃ i : Nat, t3 = .int .i64 (i : Int) ∧ i ≤ n ∧ Hid (Below w.heap.size w wr) ∧ Hid (∀ j, j < i → takes (S.take j) (snapAt S j) = true)) (fun t3 _ => n - (intOf t3).toNat)
  case atStart => exact ⟨0, rfl, Nat.zero_le _, Below.refl _ _, fun j hj => by omega⟩
  case round =>
    obtain ⟨i, rfl, hi, HB, HI⟩ := hrel
    by_cases hin : i < n
    · have HLR : Hid (LiesN wr a S) := HL.out.below HB.out (Nat.le_refl _)
      obtain ⟨x, hx, g0, g1, g2, ea, ec, g3, h4, h5, h6⟩ := HLR.out.at (j := i) (by rw [← HN.out]; exact hin)
      subst hx
      have hix := index_snap x n cap i hin
      generalize x.add (i * 4) = q at g0 g1 g2 g3 hix
      have hsg := HG.out (snapAt S i) (snapAt_mem (by rw [← HN.out]; exact hin))
      obtain ⟨s, hs⟩ : ∃ s, s = snapAt S i := ⟨_, rfl⟩
      rw [← hs] at g0 g1 g2 g3 h4 h6 hsg
      obtain ⟨c, nm, d, E⟩ := s
      simp only at g0 g1 g2 g3 h4 h6
      have HS : Hid (snapAt S i = (c, nm, d, E)) := hs.symm
      obtain ⟨en, hen⟩ : ∃ en, en = E.length := ⟨_, rfl⟩
      have HEN : Hid (en = E.length) := hen
      have hok : en ≤ 1000000 ∧ ∀ j, j < en → shortE (entOf E j) := by rw [hen]; exact hsg.2
      have HNM : Hid (nm.size ≤ 100000) := hsg.1
      have HTK : Hid (May S → (0 ≤ c ∧ c ≤ 7) ∧ isPart nm = true ∧ count c (S.take i) < 8 ∧ place c nm (S.take i) = none ∧ isTree E ∧ ∀ e ∈ E, e.2.2.length ≤ 16) := fun hm => by
        have := takes_iff.1 (hm i (by rw [← HN.out]; exact hin))
        rw [HS.out] at this
        exact this
      have hen100 : en ≤ 1000000 := hok.1
      rw [← hen] at g3
      obtain ⟨W1, hW1⟩ : ∃ W1, W1 = wr.alloc (.cells #[.int .i64 c, .string nm, .bool d, .slice ea en ec] 52) := ⟨_, rfl⟩
      have HW1 : Hid (W1 = _) := hW1
      have HB1 : Hid (Below wr.heap.size wr W1) := by rw [hW1]; exact (Below.refl _ _).alloc (Nat.le_refl _) _
      obtain ⟨x0, x1, x2, x3⟩ := four4 (show W1.heap[wr.heap.size]? = _ by rw [hW1]; exact (MapKept.heap_alloc wr _).1)
      have HX : Hid (∀ W, Below W1.heap.size W1 W → W.cell? ⟨wr.heap.size, 0, none⟩ = some (.int .i64 c) ∧ W.cell? ⟨wr.heap.size, 1, none⟩ = some (.string nm) ∧ W.cell? ⟨wr.heap.size, 3, none⟩ = some (.slice ea en ec)) := fun W hb => ⟨cell_below hb (Nat.le_refl _) x0, cell_below hb (Nat.le_refl _) x1, cell_below hb (Nat.le_refl _) x3⟩
      have HLE : Hid (LiesE W1 ea E) := h6.below HB1.out (Nat.le_refl _)
      have HPT : Hid (Calls _ _ _ _ _) := refPart_any nm W1 (by have := HNM.out; omega)
      have HCK : Hid (Calls _ _ _ _ _) := refCheck_wide ea en ec E W1 HEN.out hok.1 hok.2 HLE.out
      have HSN : Hid (n = S.length ∧ LiesN W1 (some x) S) := ⟨HN.out, HLR.out.below HB1.out (Nat.le_refl _)⟩
      have HBW : Hid (Below w.heap.size w W1) := HB.out.trans (HB1.out.mono HB.out.size)
      clear hs hen hsg hok h4 h5 h6 hW1 HLR HB HB1
      go_wp2_with fail
      rw [← HW1.out]
      clear HW1 g0 g1 g2 g3 hix
      go_wp2_with fail
      refine HPT.out.mono ?_
      rintro e w1 ⟨rfl, rfl⟩
      clear HPT
      go_wp2_with fail
      refine HCK.out.mono ?_
      rintro e w2 ⟨rfl, hb2⟩
      obtain ⟨y0, y1, y3⟩ := HX.out w2 hb2
      have HB2 : Hid (Below w.heap.size w w2) := HBW.out.trans (hb2.mono HBW.out.size)
      have HX2 : Hid (∀ W, Below w2.heap.size w2 W → W.cell? ⟨wr.heap.size, 0, none⟩ = some (.int .i64 c) ∧ W.cell? ⟨wr.heap.size, 1, none⟩ = some (.string nm) ∧ W.cell? ⟨wr.heap.size, 3, none⟩ = some (.slice ea en ec)) := fun W hb => HX.out W (hb2.trans (hb.mono hb2.size))
      have HLE2 : Hid (LiesE w2 ea E) := HLE.out.below hb2 (Nat.le_refl _)
      have HSN2 : Hid (n = S.length ∧ LiesN w2 (some x) S) := ⟨HN.out, HSN.out.2.below hb2 (Nat.le_refl _)⟩
      have HTR : Hid ((checkAns E).1 = 0 ↔ isTree E) := checkAns_tree
      generalize (checkAns E).1 = cd at HTR
      generalize Tree.placeI (checkAns E).2 = pl
      clear HX HLE HSN HCK HBW hb2 x0 x1 x2 x3
      by_cases hc0 : c < 0
      · go_wp2
        go_ret
        exact ⟨false, rfl, ⟨(fun h => by cases h), fun hm => absurd (HTK.out hm).1.1 (by omega)⟩, HB2.out⟩
      by_cases hc7 : 7 < c
      · go_wp2
        go_ret
        exact ⟨false, rfl, ⟨(fun h => by cases h), fun hm => absurd (HTK.out hm).1.2 (by omega)⟩, HB2.out⟩
      cases hp : isPart nm with
      | false =>
        go_wp2
        go_ret
        exact ⟨false, rfl, ⟨(fun h => by cases h), fun hm => absurd (HTK.out hm).2.1 (by rw [hp]; simp)⟩, HB2.out⟩
      | true =>
        have HP : Hid (isPart nm = true) := hp
        clear hp
        by_cases hcd : cd = 0
        case neg =>
          have hcd1 : ¬ ((cd : Int) = 0) := by omega
          have hcd2 : ((cd : Int) != 0) = true := by simp [hcd]
          go_wp2
          go_ret
          exact ⟨false, rfl, ⟨(fun h => by cases h), fun hm => absurd (HTR.out.2 (HTK.out hm).2.2.2.2.1) hcd⟩, HB2.out⟩
        case pos =>
          subst hcd
          have HT : Hid (isTree E) := HTR.out.1 rfl
          clear HTR
          go_wp2
          go_loopw [8] (fun t8 wq => ∃ k : Nat, t8 = .int .i64 (k : Int) ∧ k ≤ en ∧ w2 = wq ∧ Hid (∀ j, j < k → (entOf E j).2.2.length ≤ 16)) (fun t8 _ => en - (intOf t8).toNat)
          case atStart => exact ⟨0, rfl, Nat.zero_le _, rfl, fun j hj => by omega⟩
          case round =>
            obtain ⟨k, rfl, hk, rfl, HK⟩ := hrel
            by_cases hkn : k < en
            · obtain ⟨xe, hxe, e0, e1, ka, kc, e2, hke⟩ := HLE2.out.at (j := k) (by rw [← HEN.out]; exact hkn)
              subst hxe
              have hie := index_ent xe en ec k hkn
              generalize xe.add (k * 3) = qe at e0 e1 e2 hie
              obtain ⟨kn, hkl⟩ : ∃ kn, kn = (entOf E k).2.2.length := ⟨_, rfl⟩
              have HKL : Hid (kn = (entOf E k).2.2.length) := hkl
              rw [← hkl] at e2
              clear hkl hke e0 e1
              by_cases h16 : 16 < kn
              · go_wp2
                go_ret
                exact ⟨false, rfl, ⟨(fun h => by cases h), fun hm => absurd ((HTK.out hm).2.2.2.2.2 _ (ent_mem (by rw [← HEN.out]; exact hkn))) (by rw [← HKL.out]; omega)⟩, HB2.out⟩
              · have HK2 : Hid (∀ j, j < k + 1 → (entOf E j).2.2.length ≤ 16) := fun j hj => by
                  by_cases e : j = k
                  · rw [e, ← HKL.out]; exact Nat.le_of_not_lt h16
                  · exact HK.out j (by have := hj; omega)
                clear HK HKL
                go_wp2
                go_roundw
                case rel => exact ⟨k + 1, by go_num, by omega, by first | rfl | trivial, HK2⟩
                case measure => simp [intOf]; omega
            · have HKA : Hid (∀ j, j < E.length → (entOf E j).2.2.length ≤ 16) := fun j hj => HK.out j (by have := HEN.out; omega)
              clear HK
              go_wp2
              go_loopw [9, 10] (fun t9 t10 wq => ∃ (k m : Nat), t10 = .int .i64 (k : Int) ∧ t9 = .int .i64 (m : Int) ∧ k ≤ i ∧ m ≤ k ∧ Hid (Below w2.heap.size w2 wq) ∧ Hid (m = count c (S.take k) ∧ ∀ j, j < k → isOne c nm (snapAt S j) = false)) (fun _ t10 _ => i - (intOf t10).toNat)
              case atStart => exact ⟨0, 0, rfl, rfl, Nat.zero_le _, Nat.le_refl _, Below.refl _ _, ⟨by simp [count], fun j hj => by omega⟩⟩
              case round =>
                rename World => W
                obtain ⟨k, m, rfl, rfl, hki, hmk, HBW, HM⟩ := hrel
                obtain ⟨z0, z1, z3⟩ := HX2.out W HBW.out
                have HBF : Hid (Below w.heap.size w W) := HB2.out.trans (HBW.out.mono HB2.out.size)
                by_cases hk2 : k < i
                · obtain ⟨xs, hxs, f0, f1, f2, _⟩ := (HSN2.out.2.below HBW.out (Nat.le_refl _)).at (j := k) (by rw [← HSN2.out.1]; omega)
                  simp only [Option.some.injEq] at hxs
                  subst hxs
                  have hiq := index_snap x n cap k (by omega)
                  have HST : Hid (_ = _) := count_step (c := c) (S := S) (k := k) (by rw [← HSN2.out.1]; omega)
                  have HON : Hid (isOne c nm (snapAt S k) = (decide ((snapAt S k).1 = c) && decide ((snapAt S k).2.1 = nm))) := rfl
                  generalize x.add (k * 4) = qk at f0 f1 f2 hiq
                  generalize hsk : snapAt S k = sk at f0 f1 f2 HST HON
                  have HSK : Hid (snapAt S k = sk) := hsk
                  obtain ⟨ck, nk, dk, Ek⟩ := sk
                  simp only at f0 f1 f2
                  have HME : Hid (snapAt S k ∈ S.take i) := by
                    rw [snapAt_get (by rw [← HSN2.out.1]; omega)]
                    exact List.mem_take_iff_getElem.2 ⟨k, by rw [← HSN2.out.1]; omega, rfl⟩
                  clear hsk f2
                  by_cases hck : ck = c
                  · subst hck
                    by_cases hnk : nk = nm
                    · subst hnk
                      go_wp2_with fail
                      go_quiet (fail)
                      go_wp2_with fail
                      go_quiet (fail)
                      go_wp2
                      go_ret
                      exact ⟨false, rfl, ⟨(fun h => by cases h), fun hm => absurd ⟨by rw [HSK.out], by rw [HSK.out]⟩ (place_none (HTK.out hm).2.2.2.1 (snapAt S k) (HME.out))⟩, below_drewN (below_drewN HBF.out _) _⟩
                    · have HM2 : Hid (m + 1 = count ck (S.take (k + 1)) ∧ ∀ j, j < k + 1 → isOne ck nm (snapAt S j) = false) := ⟨by rw [HST.out, if_pos rfl, ← HM.out.1], fun j hj => by
                        by_cases e : j = k
                        · subst e; rw [HSK.out, HON.out]; simp [hnk]
                        · exact HM.out.2 j (by omega)⟩
                      have hnb : (nk.toList == nm.toList) = false := by
                        cases q : (nk.toList == nm.toList) with
                        | false => rfl
                        | true => exact absurd (list_eq (of_decide_eq_true (by simpa using q))) hnk
                      clear HM HST HON HSK
                      go_wp2_with fail
                      go_quiet (fail)
                      go_wp2_with fail
                      go_quiet (fail)
                      go_wp2
                      go_roundw
                      case rel => exact ⟨k + 1, m + 1, by go_num, by go_num, by omega, by omega, below_drewN HBW.out _, HM2⟩
                      case measure => simp [intOf]; omega
                  · have HM2 : Hid (m = count c (S.take (k + 1)) ∧ ∀ j, j < k + 1 → isOne c nm (snapAt S j) = false) := ⟨by rw [HST.out, if_neg hck]; exact HM.out.1, fun j hj => by
                      by_cases e : j = k
                      · subst e; rw [HSK.out, HON.out]; simp [hck]
                      · exact HM.out.2 j (by omega)⟩
                    have hcb : (ck == c) = false := by simp [hck]
                    clear HM HST HON HSK
                    go_wp2_with fail
                    go_quiet (fail)
                    go_wp2
                    go_roundw
                    case rel => exact ⟨k + 1, m, by go_num, rfl, by omega, by omega, below_drewN HBW.out _, HM2⟩
                    case measure => simp [intOf]; omega
                · have hke : k = i := by omega
                  subst hke
                  by_cases hm8 : 8 ≤ m
                  · go_wp2
                    go_ret
                    exact ⟨false, rfl, ⟨(fun h => by cases h), fun hm => absurd (HTK.out hm).2.2.1 (by rw [← HM.out.1]; omega)⟩, HBF.out⟩
                  · have HI2 : Hid (∀ j, j < k + 1 → takes (S.take j) (snapAt S j) = true) := fun j hj => by
                      by_cases e : j = k
                      · subst e
                        exact takes_ok HS.out (by rw [← HSN2.out.1]; omega) (by omega) (by omega) HP.out HT.out HKA.out (by rw [← HM.out.1]; omega) HM.out.2
                      · exact HI.out j (by omega)
                    clear HI HM HKA
                    go_wp2
                    go_roundw
                    case rel => exact ⟨k + 1, by go_num, by omega, HBF, HI2⟩
                    case measure => simp [intOf]; omega
    · have HF : Hid (May S) := fun j hj => HI.out j (by have := HN.out; omega)
      clear HI
      go_wp2
      go_ret
      exact ⟨true, rfl, ⟨fun _ => HF.out, fun _ => rfl⟩, HB.out⟩
end Go.Proofs.Ytlpgdfdadkljfaa.Img
