/-
  All of a catalog's snapshots, told anew.
-/
import Derived.Test.YtlpgdfdadkljfaaCtCSnap
namespace Go.Proofs.Ytlpgdfdadkljfaa.Cat
open Go.RowKit Route Tree

set_option maxHeartbeats 4000000 in
set_option maxRecDepth 100000 in
theorem snaps_any (p : Nat) (a : Option Addr) (n cap : Nat) (S : List Snap) (w : World) (h : See p a n cap S w) (hm : n ≤ 100000) (hs : ∀ s ∈ S, SShort s) :
    Calls Try.prog 17 #[.pointer (some ⟨p, 0, none⟩)] w fun e w' => ∃ v Z, e = .returned v ∧ Z.map snapOf = S ∧ SRow w.heap.size v Z w' ∧ Below w.heap.size w w' := by
  have HN : Hid (n = S.length) := h.len
  have HL : Hid (LiesN w a S) := h.lies
  have HC : Hid (∀ i, i < n → ∀ (ea : Option Addr) (ec : Nat) W, LiesE W ea (snapAt S i).2.2.2 → Calls Try.prog 24 #[.agg #[.int .i64 (snapAt S i).1, .string (snapAt S i).2.1, .bool (snapAt S i).2.2.1, .slice ea (snapAt S i).2.2.2.length ec]] W fun e w' => ∃ v Y, e = .returned (.agg #[.int .i64 (snapAt S i).1, .string (snapAt S i).2.1, .bool (snapAt S i).2.2.1, v]) ∧ Y.map (·.1) = (snapAt S i).2.2.2 ∧ Ents W.heap.size v Y W w') := fun i hi ea ec W hl =>
    copySnap_any _ _ _ ea _ ec _ W (hs (snapAt S i) (by simp [snapAt, List.getD_eq_getElem?_getD, show i < S.length by rw [← HN.out]; exact hi])) rfl hl
  have hcell := h.cell
  clear h hs
  go_enter Try.func17, Try.ntmps17
  go_wp2
  go_loopw [3, 11] (fun t3 t11 wr => ∃ (i : Nat) (Z : List SZ), t11 = .int .i64 (i : Int) ∧ i ≤ n ∧ Hid (Z.map snapOf = S.take i) ∧ Hid (SRow w.heap.size t3 Z wr) ∧ Hid (Below w.heap.size w wr)) (fun _ t11 _ => n - (intOf t11).toNat)
  case atStart => exact ⟨0, [], rfl, Nat.zero_le _, (by simp : List.map snapOf [] = S.take 0), SRow.nil _ _, Below.refl _ _⟩
  case round =>
    obtain ⟨i, Z, rfl, hi, HZ, HR, HB⟩ := hrel
    clear hcell
    by_cases hin : i < n
    · obtain ⟨x, hx, g0, g1, g2, ea, ec, g3, _, _, hle⟩ := (HL.out.below HB.out (Nat.le_refl _)).at (j := i) (by rw [← HN.out]; exact hin)
      subst hx
      have hcc := HC.out i hin ea ec
      have HT : Hid (S.take (i + 1) = S.take i ++ [snapAt S i]) := snap_take (by rw [← HN.out]; exact hin)
      have HZL : Hid (Z.length + 1 ≤ 1000000) := by
        have := congrArg List.length HZ.out
        rw [List.length_map, List.length_take] at this
        show _ ≤ _
        omega
      generalize snapAt S i = s at g0 g1 g2 g3 hle hcc HT
      obtain ⟨c0, n0, d0, es⟩ := s
      simp only at g0 g1 g2 g3 hle hcc
      obtain ⟨en, hen⟩ : ∃ en, en = es.length := ⟨_, rfl⟩
      have HEN : Hid (en = es.length) := hen
      rw [← hen] at g3 hcc
      have hix := index_snap x n cap i hin
      generalize x.add (i * 4) = q at g0 g1 g2 g3 hix
      have HLE : Hid (LiesE wr ea es) := hle
      have HPost : Hid (∀ a3 cap3 Y W, Y.map (·.1) = es → Ents (wr.alloc (.cells #[.int .i64 c0, .string n0, .bool d0, .slice ea en ec] 52)).heap.size (.slice a3 en cap3) Y (wr.alloc (.cells #[.int .i64 c0, .string n0, .bool d0, .slice ea en ec] 52)) W →
          SRow w.heap.size u3 Z W ∧ Below w.heap.size w W ∧ ERow w.heap.size W (c0, n0, d0, .slice a3 en cap3, Y) ∧ ∀ y ∈ Z, Apart y (c0, n0, d0, .slice a3 en cap3, Y)) := by
        intro a3 cap3 Y W hY he
        have hba : Below wr.heap.size wr (wr.alloc (.cells #[.int .i64 c0, .string n0, .bool d0, .slice ea en ec] 52)) := (Below.refl _ _).alloc (Nat.le_refl _) _
        have hbW : Below wr.heap.size wr W := hba.trans (he.2.1.mono hba.size)
        have hsz := HB.out.size
        have hsz2 := hba.size
        refine ⟨HR.out.below hbW, HB.out.trans (hbW.mono HB.out.size), ⟨own_any he.1 (by omega), fun y hy => own_any (he.2.2.2 y hy) (by omega)⟩, fun y hy => ?_⟩
        unfold Apart
        cases hb : y.2.2.2.1.ownBlock with
        | none => exact .inl rfl
        | some g =>
          right
          intro e
          have h1 := ((HR.out.ents y hy).1.lt g hb).2
          have h2 := (he.1.lt g e.symm).1
          omega
      clear hen hle
      go_wp2_with (first
        | (go_at_call 24; refine (hcc _ (HLE.out.below ((Below.refl _ _).alloc (Nat.le_refl _) _) (Nat.le_refl _))).mono ?_; rintro e w3 ⟨v3, Y3, rfl, hY3, hst3⟩; obtain ⟨a3, cap3, rfl, _, _⟩ := hst3.liesN (HEN.out.trans (by rw [← hY3, List.length_map])); obtain ⟨P1, P2, P3, P4⟩ := HPost.out a3 cap3 Y3 w3 hY3 hst3)
        | (at_builtin; refine wpList_snap rfl (.tmp 15) (.tmp 18) rfl w.heap.size _ Z rfl w3 (c0, n0, d0, .slice a3 en cap3, Y3) P1 P2.size P3 P4 rfl HZL.out ?_; intro v' w4 hb4 hg4))
      go_roundw
      case rel => exact ⟨i + 1, Z ++ [(c0, n0, d0, Value.slice a3 en cap3, Y3)], by go_num, by omega, (by show List.map snapOf (Z ++ [(c0, n0, d0, Value.slice a3 en cap3, Y3)]) = S.take (i + 1); rw [HT.out, List.map_append, HZ.out, List.map_cons, List.map_nil]; unfold snapOf; simp only [hY3]), hb4, (P2.alloc P2.size _).grown hg4.out (Nat.le_trans P2.size ((Below.refl _ _).alloc (Nat.le_refl _) _).size) (fun k hk => (P1.own.lt k hk).1)⟩
      case measure => simp [intOf]; omega
    · have HH : Hid (Z.map snapOf = S) := by
        have h9 := HZ.out
        rw [List.take_of_length_le (by rw [← HN.out]; omega)] at h9
        exact h9
      go_wp2
      go_ret
      exact ⟨_, Z, rfl, HH.out, HR.out, HB.out⟩
end Go.Proofs.Ytlpgdfdadkljfaa.Cat
