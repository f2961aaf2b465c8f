/-
  A log on a tape of the law's own, and the contracts of log.Open.
-/
import Derived.Test.YtfcnbdnmnmihjaaLgWhole
namespace Go.Proofs.Ytfcnbdnmnmihjaa
open Go.RowKit

/-- A log and its tape, both made since W0, of which nothing has turned; the log's own lies in no block of X. -/
def LogSt (W0 w : World) (tp : Nat) (l : List UInt8) (sy : Nat) (r : Option Nat) (lg : Nat) (rs : List (List UInt8)) (torn : Bool) (rv : Option Nat) (X : Nat → Prop := fun _ => False) : Prop :=
  St W0 w tp l sy r ∧ ∃ L, LogAt L w lg tp rs torn rv ∧ (∀ k, L k → W0.heap.size ≤ k ∧ Off (MT tp r) w k) ∧ ∀ k, L k → ¬ X k

/-- What may turn of them was made since W0. -/
theorem St.made {W0 w : World} {tp sy : Nat} {l : List UInt8} {r : Option Nat} (h : St W0 w tp l sy r) : ∀ k, MT tp r k → W0.heap.size ≤ k ∧ k < w.heap.size := by
  obtain ⟨⟨v, hh, htp, hr, hv, _⟩, _⟩ := h
  intro k hk
  rcases hk with rfl | hk
  · exact ⟨htp, (Array.getElem?_eq_some_iff.1 hh).1⟩
  · exact hr.lt k (by rw [hv]; exact hk.symm)

theorem LogSt.made {W0 w : World} {tp sy lg : Nat} {l : List UInt8} {r rv : Option Nat} {rs : List (List UInt8)} {torn : Bool} {X : Nat → Prop} (h : LogSt W0 w tp l sy r lg rs torn rv X) : ∀ k, ML tp r lg rv k → W0.heap.size ≤ k ∧ k < w.heap.size := by
  obtain ⟨hs, L, ⟨v, hh, hL, ⟨us, h1, h2, _⟩, hv⟩, hk, _⟩ := h
  intro k hm
  rcases hm with hm | rfl | hm
  · exact hs.made k hm
  · exact ⟨(hk _ hL).1, (hk _ hL).2.1⟩
  · have := h2 k (by rw [hv]; exact hm.symm)
    exact ⟨(hk _ this.1).1, (hk _ this.1).2.1⟩

theorem LogSt.later {W0 w w' : World} {tp sy lg : Nat} {l : List UInt8} {r rv : Option Nat} {rs : List (List UInt8)} {torn : Bool} {X : Nat → Prop} (h : LogSt W0 w tp l sy r lg rs torn rv X) (hb : Below w.heap.size w w') : LogSt W0 w' tp l sy r lg rs torn rv X := by
  obtain ⟨hs, L, hl, hk, hx⟩ := h
  exact ⟨hs.later hb, L, hl.keep fun k hk' => hb.block k (hk k hk').2.1, fun k hk' => ⟨(hk k hk').1, (Turn.of_below hb).off (hk k hk').2⟩, hx⟩

/-- The tape turns, and the log's own stays. -/
theorem LogSt.tape {W0 w w' : World} {tp sy sy' lg : Nat} {l l' : List UInt8} {r r' rv : Option Nat} {rs : List (List UInt8)} {torn : Bool} {X : Nat → Prop} (h : LogSt W0 w tp l sy r lg rs torn rv X) (hs' : St W0 w' tp l' sy' r') (ht : Turn (MT tp r) (MT tp r') w w') : LogSt W0 w' tp l' sy' r' lg rs torn rv X := by
  obtain ⟨hs, L, hl, hk, hx⟩ := h
  exact ⟨hs', L, hl.keep fun k hk' => ht.kept (hk k hk').2, fun k hk' => ⟨(hk k hk').1, ht.off (hk k hk').2⟩, hx⟩

theorem Turn.withLog {tp lg : Nat} {r r' rv : Option Nat} {w w' : World} (h : Turn (MT tp r) (MT tp r') w w') : Turn (ML tp r lg rv) (ML tp r' lg rv) w w' :=
  h.mono (fun k hk => .inl hk) fun k hk => by
    rcases hk with hk | hk
    · exact .inl hk
    · exact .inr (.inl (.inr hk))

set_option maxHeartbeats 400000 in
theorem open_none (w : World) : Calls Try.prog 9 #[.pointer none] w fun e w' => e = .returned (.tuple #[.pointer none, .iface 50 (.int .i64 1)]) ∧ w = w' := by
  go_enter Try.func9, Try.ntmps9
  go_wp2
  go_ret2
  exact ⟨rfl, rfl⟩

set_option maxHeartbeats 1000000 in
theorem open_st {W0 w : World} {tp sy : Nat} {l : List UInt8} {r : Option Nat} (h : St W0 w tp l sy r) (X : Nat → Prop := fun _ => False) (hX : ∀ k, X k → k < w.heap.size := by exact fun _ h => h.elim) :
    Calls Try.prog 9 #[.pointer (some ⟨tp, 0, none⟩)] w fun e w' => ∃ lg rv, e = .returned (.tuple #[.pointer (some ⟨lg, 0, none⟩), .nilIface]) ∧ LogSt W0 w' tp (laid (recs l)) (laid (recs l)).length r lg (recs l) false rv X ∧ Turn (MT tp r) (ML tp r lg rv) w w' := by
  have HX : Hid (∀ k, X k → k < w.heap.size) := hX
  clear hX
  have HB : Hid (Calls _ _ _ _ _) := bytes_st h
  have hlm : l.length ≤ 1048576 := by obtain ⟨⟨_, _, _, _, _, _, _, hl⟩, _⟩ := h; exact hl
  go_enter Try.func9, Try.ntmps9
  go_wp2_with fail
  refine HB.out.mono ?_
  rintro e w1 ⟨a1, k1, cap1, rfl, hk1, hr1, hb1, h1, _⟩
  have HW : Hid (Calls Try.prog 21 #[.slice a1 k1 cap1] w1 fun e w' => ∃ v, e = .returned (.tuple #[v, .int .i64 (ends l : Int)]) ∧ Rws (fun k => w1.heap.size ≤ k) w' v (recs l) ∧ Below w1.heap.size w1 w') := by
    obtain ⟨a', k', cap', hv, _, hkc, hcm, hl, hnil, _⟩ := hr1.form
    simp only [Value.slice.injEq] at hv
    obtain ⟨rfl, rfl, rfl⟩ := hv
    exact wholeRecords_any a1 l cap1 k1 w1 hk1.out hl (by rw [hk1.out]; exact hlm) hkc hcm hnil
  clear HB hr1
  go_wp2_with fail
  refine HW.out.mono ?_
  rintro e w2 ⟨v2, rfl, hrw2, hb2⟩
  have h2 := h1.later hb2
  have HC : Hid (Calls _ _ _ _ _) := cut_st (n := ends l) (ends_le l) h2
  have HT2 : Hid (Below w.heap.size w w2) := hb1.trans (hb2.mono hb1.size)
  have HR2 : Hid (Rws (fun k => w1.heap.size ≤ k) w2 v2 (recs l)) := hrw2
  have HS2 : Hid (St W0 w2 tp l sy r) := h2
  have HT1 : Hid (w.heap.size ≤ w1.heap.size) := hb1.size
  have HS1 : Hid (St W0 w1 tp l sy r) := h1
  clear h1 h2 hb1 hb2 HW hrw2 hk1
  go_wp2_with fail
  refine HC.out.mono ?_
  rintro e w3 ⟨rfl, h3, ht3⟩
  obtain ⟨a, k, cap, hv, _⟩ := HR2.out.form
  subst hv
  have HF : Hid (LogSt W0 (w3.alloc (.cells #[.pointer (some ⟨tp, 0, none⟩), .slice a k cap, .bool false] 55)) tp (laid (recs l)) (laid (recs l)).length r w3.heap.size (recs l) false (Value.slice a k cap).ownBlock X ∧ Turn (MT tp r) (ML tp r w3.heap.size (Value.slice a k cap).ownBlock) w (w3.alloc (.cells #[.pointer (some ⟨tp, 0, none⟩), .slice a k cap, .bool false] 55))) := by
    have ha : Below w3.heap.size w3 (w3.alloc (.cells #[.pointer (some ⟨tp, 0, none⟩), .slice a k cap, .bool false] 55)) := (Below.refl _ _).alloc (Nat.le_refl _) _
    have h3' : St W0 w3 tp (laid (recs l)) (laid (recs l)).length r := by rw [take_ends] at h3; exact h3
    have hoff : ∀ k, (w1.heap.size ≤ k ∧ k < w2.heap.size) → Off (MT tp r) w2 k := fun k hk => ⟨hk.2, fun hm => by have := (HS1.out.made k hm).2; omega⟩
    have hR3 : Rws (fun k => w1.heap.size ≤ k ∧ k < w2.heap.size) w3 (.slice a k cap) (recs l) := HR2.out.bound.keep fun k hk => ht3.turn.kept (hoff k hk)
    have hlt : w2.heap.size ≤ w3.heap.size := ht3.size
    refine ⟨⟨h3'.later ha, fun k => k = w3.heap.size ∨ (w1.heap.size ≤ k ∧ k < w2.heap.size), ⟨_, heap_alloc_new _ _, .inl rfl, (hR3.below ha (Nat.le_refl _)).mono fun k hk => ⟨.inr hk, by omega⟩, rfl⟩, ?_, ?_⟩, ?_⟩
    · have hW : W0.heap.size ≤ w1.heap.size := HS1.out.2.size
      have hW2 : W0.heap.size ≤ w2.heap.size := HS2.out.2.size
      intro k hk
      rcases hk with rfl | hk
      · refine ⟨by omega, by simp, fun hm => ?_⟩
        have := (h3'.made _ hm).2
        omega
      · exact ⟨by omega, (Turn.of_below ha).off (ht3.turn.off (hoff k hk))⟩
    · intro k hk hx
      have := HX.out k hx
      have h01 := HT1.out
      have h02 := HT2.out.size
      rcases hk with rfl | hk <;> omega
    · have t1 : Turn (MT tp r) (MT tp r) w (w3.alloc (.cells #[.pointer (some ⟨tp, 0, none⟩), .slice a k cap, .bool false] 55)) := (Turn.of_below HT2.out).trans (ht3.turn.trans (Turn.of_below ha))
      refine t1.mono (fun k hk => hk) fun k' hk => ?_
      rcases hk with hk | rfl | hk
      · exact .inl hk
      · exact .inr (.inr (by have := HT2.out.size; omega))
      · obtain ⟨us, _, h2, _⟩ := HR2.out
        have := h2 k' hk.symm
        exact .inr (.inr (by have := HT1.out; omega))
  clear HC h3 ht3 HR2 HS2 HS1 HT1 HT2
  go_wp2
  go_ret2
  exact ⟨_, _, rfl, HF.out⟩
end Go.Proofs.Ytfcnbdnmnmihjaa
