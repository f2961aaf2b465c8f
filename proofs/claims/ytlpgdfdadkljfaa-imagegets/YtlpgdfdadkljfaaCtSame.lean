/-
  The answer's Same of two rows of snapshots that read alike.
-/
import Derived.Test.YtlpgdfdadkljfaaMgF
import Derived.Test.YtlpgdfdadkljfaaCtSnaps
namespace Go.Proofs.Ytlpgdfdadkljfaa.Cat
open Go.RowKit Route Tree

/-- What is asked of snapshots that are held against each other. -/
def SFew (s : Snap) : Prop := s.2.2.2.length ≤ 1000 ∧ ∀ j, j < s.2.2.2.length → (entOf s.2.2.2 j).2.2.length ≤ 1000000

set_option maxHeartbeats 4000000 in
set_option maxRecDepth 100000 in
theorem sameS_yes (a a' : Option Addr) (n cap cap' : Nat) (S : List Snap) (w : World) (hn0 : n = S.length) (hl : LiesN w a S) (hl' : LiesN w a' S) (hnm : n ≤ 1000000) (hs : ∀ s ∈ S, SFew s) :
    Calls Try.prog 16 #[.slice a n cap, .slice a' n cap'] w fun e w' => e = .returned (.bool true) ∧ Below w.heap.size w w' := by
  have HN : Hid (n = S.length) := hn0
  have HL : Hid (LiesN w a S) := hl
  have HL' : Hid (LiesN w a' S) := hl'
  have HS : Hid (∀ j, j < n → ∀ (ea ea' : Option Addr) (ec ec' : Nat) W, LiesE W ea (snapAt S j).2.2.2 → LiesE W ea' (snapAt S j).2.2.2 → Calls Try.prog 32 #[.slice ea (snapAt S j).2.2.2.length ec, .slice ea' (snapAt S j).2.2.2.length ec'] W fun e w' => e = .returned (.bool true) ∧ Below W.heap.size W w') := fun j hj ea ea' ec ec' W h1 h2 => by
    have hf := hs (snapAt S j) (by simp [snapAt, List.getD_eq_getElem?_getD, show j < S.length by omega])
    exact sameAll_yes ea ea' _ ec ec' _ W rfl h1 h2 hf.1 hf.2
  clear hn0 hl hl' hs
  go_enter Try.func16, Try.ntmps16
  go_wp2
  go_loopw [4, 5] (fun t4 t5 wr => ∃ i : Nat, t4 = .bool false ∧ t5 = .int .i64 (i : Int) ∧ i ≤ n ∧ Below w.heap.size w wr) (fun _ t5 _ => n - (intOf t5).toNat)
  case atStart => exact ⟨0, rfl, rfl, Nat.zero_le _, Below.refl _ _⟩
  case round =>
    obtain ⟨i, rfl, rfl, hi, hbr⟩ := hrel
    by_cases hin : i < n
    · obtain ⟨x, hx, g0, g1, g2, ea, ec, g3, _, _, hk⟩ := (HL.out.below hbr (Nat.le_refl _)).at (j := i) (by rw [← HN.out]; exact hin)
      obtain ⟨x', hx', g0', g1', g2', ea', ec', g3', _, _, hk'⟩ := (HL'.out.below hbr (Nat.le_refl _)).at (j := i) (by rw [← HN.out]; exact hin)
      subst hx
      subst hx'
      have hsm := HS.out i hin ea ea' ec ec'
      generalize snapAt S i = sn at g0 g1 g2 g3 hk g0' g1' g2' g3' hk' hsm
      obtain ⟨c, nm, d, es⟩ := sn
      have hix := index_snap x n cap i hin
      have hix' := index_snap x' n cap' i hin
      simp only at g0 g1 g2 g3 hk g0' g1' g2' g3' hk' hsm
      generalize es.length = en at g3 g3' hsm
      generalize x.add (i * 4) = q at g0 g1 g2 g3 hix
      generalize x'.add (i * 4) = q' at g0' g1' g2' g3' hix'
      have HR : Hid (∀ W, (Below wr.heap.size wr W ∧ (W.cell? q = some (.int .i64 c) ∧ W.cell? ⟨q.block, q.off + 1, none⟩ = some (.string nm) ∧ W.cell? ⟨q.block, q.off + 2, none⟩ = some (.bool d) ∧ W.cell? ⟨q.block, q.off + 3, none⟩ = some (.slice ea en ec)) ∧ W.cell? q' = some (.int .i64 c) ∧ W.cell? ⟨q'.block, q'.off + 1, none⟩ = some (.string nm) ∧ W.cell? ⟨q'.block, q'.off + 2, none⟩ = some (.bool d) ∧ W.cell? ⟨q'.block, q'.off + 3, none⟩ = some (.slice ea' en ec')) →
          Calls Try.prog 32 #[.slice ea en ec, .slice ea' en ec'] W fun e w' => e = .returned (.bool true) ∧ (Below wr.heap.size wr w' ∧ (w'.cell? q = some (.int .i64 c) ∧ w'.cell? ⟨q.block, q.off + 1, none⟩ = some (.string nm) ∧ w'.cell? ⟨q.block, q.off + 2, none⟩ = some (.bool d) ∧ w'.cell? ⟨q.block, q.off + 3, none⟩ = some (.slice ea en ec)) ∧ w'.cell? q' = some (.int .i64 c) ∧ w'.cell? ⟨q'.block, q'.off + 1, none⟩ = some (.string nm) ∧ w'.cell? ⟨q'.block, q'.off + 2, none⟩ = some (.bool d) ∧ w'.cell? ⟨q'.block, q'.off + 3, none⟩ = some (.slice ea' en ec'))) := by
        rintro W ⟨b0, ⟨d0, d1, d2, d3⟩, e0, e1, e2, e3⟩
        refine (hsm W (hk.below b0 (Nat.le_refl _)) (hk'.below b0 (Nat.le_refl _))).mono ?_
        rintro e w' ⟨rfl, hb⟩
        exact ⟨rfl, b0.trans (hb.mono b0.size), ⟨cell_kept hb d0, cell_kept hb d1, cell_kept hb d2, cell_kept hb d3⟩, cell_kept hb e0, cell_kept hb e1, cell_kept hb e2, cell_kept hb e3⟩
      have HBR : Hid (Below w.heap.size w wr) := hbr
      clear hsm hk hk' hbr
      go_wp2_with fail
      go_region_held (fun W => (Below wr.heap.size wr W ∧ (W.cell? q = some (.int .i64 c) ∧ W.cell? ⟨q.block, q.off + 1, none⟩ = some (.string nm) ∧ W.cell? ⟨q.block, q.off + 2, none⟩ = some (.bool d) ∧ W.cell? ⟨q.block, q.off + 3, none⟩ = some (.slice ea en ec)) ∧ W.cell? q' = some (.int .i64 c) ∧ W.cell? ⟨q'.block, q'.off + 1, none⟩ = some (.string nm) ∧ W.cell? ⟨q'.block, q'.off + 2, none⟩ = some (.bool d) ∧ W.cell? ⟨q'.block, q'.off + 3, none⟩ = some (.slice ea' en ec')))
        (first | assumption | exact ⟨(Below.refl _ _).drew, ⟨by simpa using g0, by simpa using g1, by simpa using g2, by simpa using g3⟩, by simpa using g0', by simpa using g1', by simpa using g2', by simpa using g3'⟩)
        (first | (go_at_call 32; refine (HR.out _ (by assumption)).mono ?_; rintro e w2 ⟨rfl, hb2⟩))
      all_goals
        have HB2 : Hid (Below w.heap.size w w2) := HBR.out.trans (hb2.1.mono HBR.out.size)
        clear hb2 HR
        go_wp2
        go_roundw
        case rel => exact ⟨i + 1, rfl, by go_num, by omega, HB2.out⟩
        case measure => simp [intOf]; omega
    · go_wp2
      go_ret
      exact ⟨rfl, hbr⟩

/-- What may be a catalog's is few. -/
theorem inv_few {S : List Snap} (h : ∀ s ∈ S, s.2.2.2.length ≤ 100 ∧ ∀ e ∈ s.2.2.2, e.2.2.length ≤ 100) : ∀ s ∈ S, SFew s := fun s hs =>
  ⟨by have := (h s hs).1; omega, fun j hj => by have := (h s hs).2 (entOf s.2.2.2 j) (by simp [entOf, List.getD_eq_getElem?_getD, hj]); omega⟩
end Go.Proofs.Ytlpgdfdadkljfaa.Cat
