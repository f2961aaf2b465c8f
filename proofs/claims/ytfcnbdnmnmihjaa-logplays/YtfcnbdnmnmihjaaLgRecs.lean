/-
  The contracts of the log's Records, and of the law's own 'same' and Code.
-/
import Derived.Test.YtfcnbdnmnmihjaaLgApp2
import Derived.Deep.OwnRows
namespace Go.Proofs.Ytfcnbdnmnmihjaa
open Go.RowKit

/-- What Records tells: a row of its own, and rows of its own in it. -/
def Outs (B : Nat) (w : World) (v : Value) (rs : List (List UInt8)) : Prop :=
  ∃ us, w.ownsRow B 31 1 v rs.length us ∧ ∀ j (h : j < rs.length), ∃ u, us[j]? = some u ∧ Row B w u rs[j] ∧ (∀ g, u.ownBlock = some g → v.ownBlock ≠ some g)

theorem Outs.rws {B : Nat} {w : World} {v : Value} {rs : List (List UInt8)} (h : Outs B w v rs) : Rws (fun k => B ≤ k) w v rs := by
  obtain ⟨us, h1, h2⟩ := h
  refine ⟨us, ⟨h1.1, h1.2.imp id fun ⟨g, cap, cur, a, _, c⟩ => ⟨g, cap, cur, a, Nat.zero_le _, c⟩⟩, fun g hg => (h1.lt g hg).1, fun j hj => ?_⟩
  obtain ⟨u, e, hr, hne⟩ := h2 j hj
  exact ⟨u, e, Slc.of_row hr fun g hg => ⟨(hr.lt g hg).1, hne g hg⟩⟩

set_option maxRecDepth 100000 in
theorem index32 (x : Addr) (n cap i : Nat) (hi : i < n) (w : World) : (Instr.indexAt 32 (.slice (some x) n cap) (.int .i64 (i : Int))).run Try.prog w = .ok (.pointer (some (x.add i))) w := by
  rw [run_indexAt_slice w 32 x n cap .i64 i (by kernel_rfl), if_pos (by omega)]
  show Result.ok (Value.pointer (some (x.add (i * 1)))) w = _
  rw [Nat.mul_one]

theorem SRows.at_ {L : Nat → Prop} {w : World} {a : Option Addr} {rs : List (List UInt8)} (h : SRows L w a rs) (j : Nat) (hj : j < rs.length) :
    ∃ x aj kj capj, a = some x ∧ w.cell? (x.add j) = some (.slice aj kj capj) ∧ Hid (kj = rs[j].length) ∧ kj ≤ capj ∧ capj ≤ maxLen ∧ Lies w aj rs[j] ∧ (aj = none → kj = 0 ∧ capj = 0) ∧ ∀ y, aj = some y → rs[j] = [] ∨ L y.block := by
  rcases h with rfl | ⟨x, rfl, _, h⟩
  · simp at hj
  · obtain ⟨u, h1, aj, kj, capj, rfl, h2⟩ := h j hj
    exact ⟨x, aj, kj, capj, rfl, h1, h2⟩

set_option maxHeartbeats 2000000 in
theorem records_any {L : Nat → Prop} {w : World} {tp lg : Nat} {rv : Option Nat} {rs : List (List UInt8)} {torn : Bool} (h : LogAt L w lg tp rs torn rv) (hrs : rs.length ≤ 1048576) (hgd : ∀ b ∈ rs, b.length ≤ 65536) :
    Calls Try.prog 17 #[.pointer (some ⟨lg, 0, none⟩)] w fun e w' => ∃ v, e = .returned v ∧ Outs w.heap.size w' v rs ∧ Below w.heap.size w w' := by
  obtain ⟨a1, n, cap1, _, c1, _, _, _, hn, _, _, hS, _, _, _, _, hlt, _⟩ := h.open
  obtain ⟨i0, hi, hz0, hz1, hz2⟩ := info_parts info31
  have hn2 : n ≤ 1048576 := by rw [hn.out]; exact hrs
  have hmk := fun W => run_make_row' (P := Try.prog) 32 31 (.slice none 0 0) 24 Try.underlying32 info31 rfl .i64 .i64 n (by omega) (by omega) W
  have hba : Below w.heap.size w (w.alloc (.cells (madeCells #[.slice none 0 0] n) 31)) := (Below.refl _ _).alloc (Nat.le_refl _) _
  have c1' : (w.alloc (.cells (madeCells #[.slice none 0 0] n) 31)).cell? ⟨lg, 1, none⟩ = some (.slice a1 n cap1) := by rw [hba.cell (p := ⟨lg, 1, none⟩) hlt]; exact c1
  have HO : Hid ((w.alloc (.cells (madeCells #[.slice none 0 0] n) 31)).ownsRow w.heap.size 31 1 (.slice (some ⟨w.heap.size, 0, none⟩) n n) n (madeCells #[.slice none 0 0] n).toList) := by
    have hsz : (madeCells #[Value.slice none 0 0] n).size = n := by have := size_madeCells #[Value.slice none 0 0] n; simpa using this
    refine ⟨by simp [hsz], .inr ⟨w.heap.size, n, _, rfl, Nat.le_refl _, heap_alloc_new w _, Nat.le_refl _, by unfold maxLen; omega, by rw [hsz]; omega, ?_⟩⟩
    exact List.take_of_length_le (by rw [Array.length_toList, hsz]; omega)
  have HS : Hid (SRows L w a1 rs) := hS
  have HB : Hid (Below w.heap.size w (w.alloc (.cells (madeCells #[.slice none 0 0] n) 31))) := hba
  have HG : Hid (∀ b ∈ rs, b.length ≤ 65536) := hgd
  clear h hz0 hz1 hz2 hi hS hba hrs hgd
  go_enter Try.func17, Try.ntmps17
  go_wp2
  go_loopw [17] (fun i wr => ∃ (j : Nat) (us : List Value), i = .int .i64 j ∧ j ≤ n ∧ Hid (wr.ownsRow w.heap.size 31 1 (.slice (some ⟨w.heap.size, 0, none⟩) n n) n us) ∧ Hid (∀ q (hq : q < rs.length), q < j → ∃ u, us[q]? = some u ∧ Row w.heap.size wr u rs[q] ∧ u.ownBlock ≠ some w.heap.size) ∧ Hid (Below w.heap.size w wr)) (fun i _ => n - (intOf i).toNat)
  case atStart => exact ⟨0, _, rfl, Nat.zero_le _, HO, fun q _ h => absurd h (Nat.not_lt_zero _), HB⟩
  case round =>
    obtain ⟨j, us, rfl, hj, how, hin, hbw⟩ := hrel
    by_cases hlt2 : j < n
    · have hjr : j < rs.length := by rw [← hn.out]; exact hlt2
      obtain ⟨x, aj, kj, capj, hax, hcell, hkj, hkc, hcm, hl, hnil, _⟩ := (HS.out.below hbw.out (Nat.le_refl _)).at_ j hjr
      subst hax
      have hidx := fun W => index32 x n cap1 j hlt2 W
      have hkb : kj ≤ 65536 := by rw [hkj.out]; exact HG.out _ (List.getElem_mem hjr)
      have HC : Hid (Calls _ _ _ _ _) := clone_any hkj hl hnil (by omega)
      have HSz : Hid (w.heap.size ≤ wr.heap.size) := hbw.out.size
      have HI : Hid (∀ w2 a2 k2 cap2, Below wr.heap.size wr w2 → Row wr.heap.size w2 (.slice a2 k2 cap2) rs[j] → w2.cell? ⟨w.heap.size, j, none⟩ = us[j]? ∧ (∃ u0, us[j]? = some u0) ∧ w2.frozen? ⟨w.heap.size, j, none⟩ = false ∧
          Hid (∃ us', (w2.setCell ⟨w.heap.size, j, none⟩ (.slice a2 k2 cap2)).ownsRow w.heap.size 31 1 (.slice (some ⟨w.heap.size, 0, none⟩) n n) n us' ∧ (∀ q (hq : q < rs.length), q < j + 1 → ∃ u, us'[q]? = some u ∧ Row w.heap.size (w2.setCell ⟨w.heap.size, j, none⟩ (.slice a2 k2 cap2)) u rs[q] ∧ u.ownBlock ≠ some w.heap.size) ∧ Below w.heap.size w (w2.setCell ⟨w.heap.size, j, none⟩ (.slice a2 k2 cap2)))) := by
        intro w2 a2 k2 cap2 hb2 hr2
        have how2 : w2.ownsRow w.heap.size 31 1 (.slice (some ⟨w.heap.size, 0, none⟩) n n) n us := own_keep how.out fun g hg => hb2.block g (how.out.lt g hg).2
        have hul : us.length = n := by have := how.out.1; omega
        have hlw : w.heap.size < wr.heap.size := (how.out.lt w.heap.size rfl).2
        have hne : (Value.slice a2 k2 cap2).ownBlock ≠ some w.heap.size := fun e => by have := (hr2.lt _ e).1; omega
        refine ⟨how2.cellAt j (by omega), ⟨_, List.getElem?_eq_getElem (by omega)⟩, how2.frozenAt j, us.set j (.slice a2 k2 cap2), (how2.stored j _).1, fun q hq hqj => ?_, (hbw.out.trans (hb2.mono HSz.out)).setCell (Nat.le_refl _) _⟩
        by_cases e : q = j
        · subst e
          refine ⟨_, List.getElem?_set_self (by omega), (hr2.mono HSz.out).keep fun g hg => heap_setCell_other w2 ⟨w.heap.size, q, none⟩ g _ (fun e => hne (by rw [hg, e])), hne⟩
        · obtain ⟨u, e1, e2, e3⟩ := hin.out q hq (by omega)
          refine ⟨u, by rw [List.getElem?_set_ne (by omega)]; exact e1, (e2.below hb2 (Nat.le_refl _)).keep fun g hg => heap_setCell_other w2 ⟨w.heap.size, j, none⟩ g _ (fun e => e3 (by rw [hg, e])), e3⟩
      clear how hin hbw hl hnil hcm hkc HO
      go_wp2_with fail
      refine HC.out.mono ?_
      rintro e w2 ⟨a2, k2, cap2, rfl, hr2, hb2⟩
      obtain ⟨hc2, ⟨u0, hu0⟩, hf2, hT2⟩ := HI.out w2 a2 k2 cap2 hb2 hr2
      rw [hu0] at hc2
      clear hu0 hr2 hb2 HI HC
      go_wp2
      go_roundw
      case rel =>
        obtain ⟨us', t1, t2, t3⟩ := hT2.out
        exact ⟨j + 1, us', by go_num, by omega, t1, t2, t3⟩
      case measure => simp [intOf]; omega
    · go_wp2
      go_ret
      have e : j = n := by omega
      subst e
      refine ⟨_, rfl, ⟨us, by rw [← hn.out]; exact how.out, fun q hq => ?_⟩, hbw.out⟩
      obtain ⟨u, e1, e2, e3⟩ := hin.out q hq (by rw [hn.out]; exact hq)
      exact ⟨u, e1, e2, fun g hg e => e3 (by rw [hg]; exact e.symm)⟩
end Go.Proofs.Ytfcnbdnmnmihjaa
