/-
  The contract of Keys: all chunks, rising.
-/
import Derived.Test.YtkmlekgfbmoimaaBlKeys
namespace Go.Proofs.Ytkmlekgfbmoimaa.Blobs
open Go.RowKit Route Go.Maps Go.ChangeMaps Go.Sort

theorem same_key {s k : ByteArray} : (keyL s).sameKey (keyL k) = decide (s = k) := by
  by_cases e : s = k
  · subst e; rw [decide_eq_true rfl]; exact WideAt.sameKey_self (keyLit s)
  · rw [decide_eq_false e]; exact Maps.sameKey_ne fun e2 => e (keyL_eq.1 e2)

theorem Row.keepOwn {B : Nat} {w w' : World} {v : Value} {l : List ByteArray} (h : Row B w v l) (hk : ∀ g, v.ownBlock = some g → w'.heap[g]? = w.heap[g]?) : Row B w' v l :=
  ⟨h.1, h.2.imp id fun ⟨g, cap, cur, h1, h2, h3, h4⟩ => ⟨g, cap, cur, h1, h2, (hk g (by rw [h1]; rfl)).trans h3, h4⟩⟩

/-- What has been gathered: those that are there and not still to come. -/
structure Got (D : DataW Unit) (left : Lit → Bool) (l : List ByteArray) : Prop where
  nodup : l.Nodup
  mem : ∀ s, s ∈ l ↔ has D (keyL s) = true ∧ left (keyL s) = false

theorem Got.start (D : DataW Unit) : Got D (has D) [] := ⟨List.nodup_nil, fun s => by cases has D (keyL s) <;> simp⟩
theorem Got.step {D : DataW Unit} {left : Lit → Bool} {l : List ByteArray} (h : Got D left l) {k : ByteArray} (hl : left (keyL k) = true) (hk : has D (keyL k) = true) : Got D (fun z => left z && !z.sameKey (keyL k)) (l ++ [k]) := by
  refine ⟨?_, fun s => ?_⟩
  · rw [List.nodup_append]
    refine ⟨h.nodup, by simp, fun a ha b hb => ?_⟩
    simp at hb; subst hb
    rintro rfl
    rw [((h.mem a).1 ha).2] at hl; cases hl
  · rw [List.mem_append, List.mem_singleton, h.mem s, same_key]
    by_cases e : s = k
    · subst e; simp [hk]
    · simp [e]

set_option maxHeartbeats 2000000 in
theorem keys_any {w : World} {b m q n : Nat} {S : List ByteArray} (h : StoreIn w b m q n S) (hn : n ≤ 1000000) :
    Calls Try.prog 17 #[.pointer (some ⟨b, 0, none⟩)] w fun e w' => ∃ v, e = .returned v ∧ Row w.heap.size w' v S ∧ Below w.heap.size w w' := by
  obtain ⟨c0, c1, c2, _⟩ := box_cells h.box
  have hlt := h.lt
  obtain ⟨D, hD, hM, hH⟩ := h.set
  have hsz := hD.size_le
  obtain ⟨i0, hi, hz0, hz1, hz2⟩ := info_parts info9
  obtain ⟨w1, hmk, hrow1, hg1⟩ := run_make_own (P := Try.prog) w w.heap.size 30 9 i0 (.string ByteArray.empty) 1 Try.underlying30 hi hz0 hz1 .i64 .i64 (Maps.size D) (by rw [hz2]; omega) (by unfold maxLen; omega) (Nat.le_refl _)
  have hlen := fun ty => hD.len Try.underlying45 ty
  have hD1 := hD.kept hg1 (by simp)
  have hbox1 : w1.heap[b]? = w.heap[b]? := hg1.block b hlt.1 (by simp)
  obtain ⟨d0, d1, d2, _⟩ := box_cells (hbox1.trans h.box)
  have hs1 : w.heap.size < w1.heap.size := by
    have := (World.ownsRow.lt hrow1 w.heap.size rfl).2
    exact this
  have HB1 : Hid (Below w.heap.size w w1) := (Below.refl _ _).grown hg1 (Nat.le_refl _) (by simp)
  have HR1 : Hid (Row w.heap.size w1 (.slice (some ⟨w.heap.size, 0, none⟩) 0 (Maps.size D)) []) := hrow1
  have HF : Hid (∀ s : ByteArray, has D (keyL s) = true ↔ s ∈ S) := hH
  have HA : Hid (Asc S) := h.asc
  have HK : Hid (∀ s : ByteArray, s ∈ S → 1 ≤ s.size ∧ s.size ≤ 64) := h.ok
  have HT : Hid (total S ≤ 65536) := Nat.le_trans h.room h.lim
  have HM : Hid (m < w.heap.size) := hlt.2
  generalize hcs : Maps.size D = sz at *
  have HCS : Hid (Maps.size D = sz) := hcs
  clear hrow1 hg1 hH h hbox1 hi hz0 hz1 hz2 hcs hM hlt
  go_enter Try.func17, Try.ntmps17
  go_wp2_with (first
    | (at_range; refine wpList_range_own _ rfl _ 45 rfl 9 50 keyed9 Try.underlying45 _ m n D rfl hD1 ?_; intro w2 hrg2 hg2 hs2)
    | go_in)
  go_frame
  go_loopw [3, 4] (fun t3 _ wr => ∃ left cnt l, wr.ranges Try.prog 9 unitElem m w1.heap.size n D left cnt ∧ Hid (Row w.heap.size wr t3 l ∧ t3.ownBlock ≠ some w1.heap.size ∧ Got D left l) ∧ Hid (Below w.heap.size w wr) ∧ w1.heap.size < wr.heap.size ∧ l.length + cnt ≤ sz) (fun _ _ wr => wr.rangeLeft m w1.heap.size)
  case atStart =>
    refine ⟨_, _, [], hrg2, ⟨HR1.out.below (Below.grown (Below.refl _ _) hg2 (Nat.le_refl _) (by simp)), ?_, Got.start D⟩, HB1.out.grown hg2 (Nat.le_of_lt hs1) (by simp), by omega, by rw [HCS.out]; simp⟩
    intro e
    simp [Value.ownBlock] at e
    omega
  case round =>
    obtain ⟨left, cnt, l, hrg, HI, HBR, hwr, hcnt⟩ := hrel
    go_wp2_with (first
      | (at_next; refine wpList_next_ranges _ rfl _ rfl 9 keyed9 unitElem Value.string (fun _ : Unit => Value.agg #[]) (fun key kl hk => key_inv hk) (fun v y hv => ⟨(), (unitElem_inv hv).1⟩) m w1.heap.size n D left cnt rfl hrg ?_ ?_)
      | go_in)
    · intro _ hl0
      obtain ⟨hrow, hob, hgot⟩ := HI.out
      have HSR : Hid (Calls _ _ _ _ _) := sort_row hrow (by omega)
      have HSO : Hid (sorted l = S) := sorted_is hgot.nodup HA.out fun s => by rw [hgot.mem s, HF.out s]; simp [hl0]
      clear hrow hob hgot
      go_wp2_with fail
      refine HSR.out.mono ?_
      rintro e w5 ⟨rfl, hr5, hg5⟩
      go_wp2
      go_ret
      refine ⟨_, rfl, ?_, HBR.out.grown hg5 HBR.out.size fun k hk => (World.ownsRow.lt HI.out.1 k hk).1⟩
      rw [← HSO.out]; exact hr5
    · intro k _ kl y w3 cnt3 hkey hlk hv hat hrg3 hlt3 hg3 hs3 hen
      obtain ⟨rfl, hkm⟩ := key_inv2 hkey
      obtain ⟨hrow, hob, hgot⟩ := HI.out
      have hkD : has D (keyL k) = true := Maps.has_true_of_atKey hat
      have hk64 := HK.out k ((HF.out k).1 hkD)
      have hw3 : w1.heap.size < w3.heap.size := by omega
      have HB3 : Hid (Below w.heap.size w w3) := HBR.out.grown hg3 HBR.out.size (fun g hg => by cases hg; omega)
      have HI3 : Hid (Row w.heap.size w3 _ l ∧ _ ≠ some w1.heap.size ∧ Got D _ (l ++ [k])) := ⟨hrow.keepOwn fun g hg => hg3.block g (World.ownsRow.lt hrow g hg).2 (fun e => hob (by rw [hg, e])), hob, hgot.step hlk hkD⟩
      have HCL : Hid (∀ W, Calls Try.prog 22 #[.string k] W fun e w' => e = .returned (.string k) ∧ Below W.heap.size W w') := fun W => clone_any k W (by omega)
      clear hrow hob hgot HI hk64 hkey hkm HBR
      go_wp2_with fail
      refine (HCL.out _).mono ?_
      rintro e w4 ⟨rfl, hb4⟩
      have hrow4 := HI3.out.1.below hb4
      have hg34 : w3.grownBy w4 none := ⟨hb4.os, hb4.tape, hb4.output, hb4.size, fun i hi _ => hb4.block i hi⟩
      have hrg4 := (hrg3.kept hg34 (by simp) (by simp)).alloc (.cells #[.string k] 9)
      have hB4 : w.heap.size ≤ w4.heap.size := by have := hb4.size; omega
      have hl4 : l.length + 1 ≤ 1000000000000 := by omega
      clear hg34
      go_wp2_with (at_builtin; refine wpList_text rfl (.tmp 20) (.tmp 23) rfl w.heap.size _ l rfl w4 k hrow4 hB4 rfl hl4 ?_; intro v5 w5 hr5 hg5 hat5)
      go_roundw
      case rel =>
        have hown : ∀ g, _ = some g → w.heap.size ≤ g ∧ g < w4.heap.size := World.ownsRow.lt hrow4
        have hs5 := hg5.size
        have hs4 := hb4.size
        have hb34 : Below w.heap.size w w4 := HB3.out.trans (hb4.mono HB3.out.size)
        refine ⟨_, cnt3, l ++ [k], hrg4.kept hg5 (fun e => ?_) (fun e => HI3.out.2.1 e.symm), ⟨hr5, fun e => ?_, HI3.out.2.2⟩, (hb34.alloc hB4 _).grown hg5 (by simp; omega) (fun g hg => (hown g hg).1), ?_, ?_⟩
        · have := (hown m e.symm).1
          have := HM.out
          omega
        · rcases hat5 with h5 | h5
          · exact HI3.out.2.1 (h5.symm.trans e)
          · rw [h5] at e; simp only [Option.some.injEq] at e; omega
        · simp at hs5; omega
        · simp; omega
      case measure => rw [(hrg4.kept hg5 (fun e => by have := (World.ownsRow.lt hrow4 m e.symm).1; have := HM.out; omega) (fun e => HI3.out.2.1 e.symm)).left_eq, hrg.left_eq]; exact hlt3
end Go.Proofs.Ytkmlekgfbmoimaa.Blobs
