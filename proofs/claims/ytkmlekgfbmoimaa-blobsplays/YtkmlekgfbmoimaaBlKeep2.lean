/-
  The contract of Keep: all others are dropped.
-/
import Derived.Test.YtkmlekgfbmoimaaBlKeep
namespace Go.Proofs.Ytkmlekgfbmoimaa.Blobs
open Go.RowKit Route Go.Maps Go.ChangeMaps

/-- What is there while it is gone through: those that are kept, and those still to come. -/
def still (K : List ByteArray) (left : Lit → Bool) (S : List ByteArray) : List ByteArray := S.filter fun s => inB K s || left (keyL s)

theorem still_start {K S : List ByteArray} {left : Lit → Bool} (h : ∀ s ∈ S, left (keyL s) = true) : still K left S = S := by
  unfold still
  rw [List.filter_eq_self]
  intro s hs
  simp [h s hs]
theorem still_end {K S : List ByteArray} {left : Lit → Bool} (h : ∀ kl, left kl = false) : still K left S = only K true S := by
  unfold still only
  congr 1
  funext s
  simp [h]
theorem still_keeps {K S : List ByteArray} {left : Lit → Bool} {k : ByteArray} (h : inB K k = true) : still K (fun z => left z && !z.sameKey (keyL k)) S = still K left S := by
  unfold still
  congr 1
  funext s
  show (inB K s || (left (keyL s) && !(keyL s).sameKey (keyL k))) = _
  rw [same_key]
  by_cases e : s = k
  · subst e; simp [h]
  · simp [e]
theorem still_drops {K S : List ByteArray} {left : Lit → Bool} {k : ByteArray} (h : inB K k = false) : still K (fun z => left z && !z.sameKey (keyL k)) S = out k (still K left S) := by
  unfold still out
  rw [List.filter_filter]
  congr 1
  funext s
  show (inB K s || (left (keyL s) && !(keyL s).sameKey (keyL k))) = _
  rw [same_key]
  by_cases e : s = k
  · subst e; simp [h]
  · simp [e]

/-- The loop's state. -/
structure Kp (w wr : World) (b m q r n f nf : Nat) (S ks : List ByteArray) (D : DataW Unit) (left : Lit → Bool) (cnt : Nat) : Prop where
  rg : wr.ranges Try.prog 9 unitElem m r n D left cnt
  mem : ∀ s : ByteArray, has D (keyL s) = true ↔ s ∈ still ks left S
  box : wr.heap[b]? = some (.cells #[.int .i64 (q : Int), .int .i64 (total (still ks left S) : Int), .map (some m)] 47 (0, 0))
  found : SetIn wr f nf (ks.filter (inB S))
  trn : Trn b m w wr
  size : r < wr.heap.size
  sub : ∀ s : ByteArray, left (keyL s) = true → s ∈ S

theorem sum_le {l : List ByteArray} (p : ByteArray → Bool) : total (l.filter p) ≤ total l := by
  induction l with
  | nil => exact Nat.le_refl _
  | cons x r ih =>
    by_cases h : p x = true
    · rw [List.filter_cons_of_pos h, total, total]; omega
    · rw [List.filter_cons_of_neg h, total]; omega

set_option maxHeartbeats 4000000 in
theorem keep_any {w : World} {b m q n : Nat} {S : List ByteArray} (h : StoreIn w b m q n S) (a : Option Addr) (k0 cap : Nat) (ks : List ByteArray) (hn0 : k0 = ks.length) (hl0 : Lies w a ks) (hnm : k0 ≤ 1000000) (hks : ∀ j, j < k0 → (ks.getD j ByteArray.empty).size ≤ maxLen) :
    Calls Try.prog 12 #[.pointer (some ⟨b, 0, none⟩), .slice a k0 cap] w fun e w' => e = .returned (.int .i64 ((S.length : Int) - ((only ks true S).length : Int))) ∧ StoreIn w' b m q n (only ks true S) ∧ Trn b m w w' := by
  have HAM : Hid (Calls _ _ _ _ _) := among_any h a k0 cap ks hn0 hl0 hnm hks
  have HST : Hid (StoreIn w b m q n S) := h
  have hbm : b ≠ m := h.ne
  have hbl := h.lt
  have HLS : Hid (S.length ≤ 65536) := by
    have h1 : ∀ l : List ByteArray, (∀ s ∈ l, 1 ≤ s.size) → l.length ≤ total l := fun l => by
      induction l with
      | nil => intro _; exact Nat.le_refl _
      | cons x r ih =>
        intro hx
        have := ih fun s hs => hx s (List.mem_cons_of_mem _ hs)
        have := hx x (List.mem_cons_self ..)
        rw [List.length_cons, total]; omega
    exact Nat.le_trans (h1 S fun s hs => (h.ok s hs).1) (Nat.le_trans h.room h.lim)
  clear hn0 hl0 hks h
  go_enter Try.func12, Try.ntmps12
  go_wp2_with fail
  refine HAM.out.mono ?_
  rintro e w1 ⟨rfl, ⟨nf, hF⟩, hb1, hw1⟩
  have h1 := HST.out.below hb1
  obtain ⟨c0, c1, c2, _⟩ := box_cells h1.box
  obtain ⟨D, hD, hM, hH⟩ := h1.set
  have HF : Hid (SetIn w1 w.heap.size nf (ks.filter (inB S))) := hF
  have HB1 : Hid (Below w.heap.size w w1) := hb1
  have HH1 : Hid (∀ s : ByteArray, has D (keyL s) = true ↔ s ∈ S) := hH
  have HS1 : Hid (StoreIn w1 b m q n S) := h1
  clear HAM hF hb1 hH hM h1
  go_wp2_with (first
    | (at_range; refine wpList_range_own _ rfl _ 45 rfl 9 50 keyed9 Try.underlying45 _ m n D rfl hD ?_; intro w2 hrg2 hg2 hs2)
    | go_in)
  go_frame
  go_loopw [6, 7, 8, 9] (fun t6 _ _ _ wr => ∃ D left cnt z, t6 = .int .i64 (z : Nat) ∧ Hid (z + (still ks left S).length = S.length) ∧ z ≤ 65536 ∧ wr.ranges Try.prog 9 unitElem m w1.heap.size n D left cnt ∧ Hid (Kp w wr b m q w1.heap.size n w.heap.size nf S ks D left cnt)) (fun _ _ _ _ wr => wr.rangeLeft m w1.heap.size)
  case atStart =>
    have hst : still ks (has D) S = S := still_start fun s hs => (HH1.out s).2 hs
    have hb2 : Below w1.heap.size w1 w2 := Below.grown (Below.refl _ _) hg2 (Nat.le_refl _) (by simp)
    refine ⟨D, _, _, 0, rfl, by show _ = _; rw [hst]; simp, by omega, hrg2, ⟨hrg2, fun s => by rw [hst]; exact HH1.out s, by rw [hst]; exact (HS1.out.below hb2).box, HF.out.below hb2, (Trn.of HB1.out).trans (Trn.of hb2), by omega, fun s hs => (HH1.out s).1 hs⟩⟩
  case round =>
    obtain ⟨D', left, cnt, z, rfl, HZ, hz, hrg, HK⟩ := hrel
    go_wp2_with (first
      | (at_next; refine wpList_next_ranges _ rfl _ rfl 9 keyed9 unitElem Value.string (fun _ : Unit => Value.agg #[]) (fun key kl hk => key_inv hk) (fun v y hv => ⟨(), (unitElem_inv hv).1⟩) m w1.heap.size n D' left cnt rfl hrg ?_ ?_)
      | go_in)
    · intro _ hl0
      have HE : Hid (still ks left S = only ks true S) := still_end hl0
      have HV : Hid ((z : Int) = (S.length : Int) - ((only ks true S).length : Int)) := by
        show _ = _
        have := HZ.out
        rw [HE.out] at this
        omega
      clear hrg
      go_wp2
      go_ret
      have hk := HK.out
      have hst := HST.out
      have hmem := hk.mem
      have hbox := hk.box
      rw [HE.out] at hmem hbox
      refine ⟨by rw [← HV.out]; rfl, ⟨hbox, ⟨D', hk.rg.owns, hk.rg.owns.isMap, hmem⟩, hst.asc.filter _, fun s hs => hst.ok s (List.mem_filter.1 hs).1, Nat.le_trans (sum_le _) hst.room, hst.lim⟩, hk.trn⟩
    · intro k _ kl y w3 cnt3 hkey hlk hv hat hrg3 hlt3 hg3 hs3 hen
      obtain ⟨rfl, hkm⟩ := key_inv2 hkey
      have hkp := HK.out
      have hkS : k ∈ S := hkp.sub k hlk
      have hk64 := HST.out.ok k hkS
      have hrb : w1.heap.size ≠ b := by have := HB1.out.size; omega
      have hrf : w1.heap.size ≠ w.heap.size := by omega
      have hfb : w.heap.size ≠ b := by omega
      have hfm : w.heap.size ≠ m := by omega
      have hbr : b < wr.heap.size := (Array.getElem?_eq_some_iff.1 hkp.box).1
      have hfr : w.heap.size < wr.heap.size := hkp.found.lt
      have HBX : Hid (w3.heap[b]? = some (.cells #[.int .i64 (q : Int), .int .i64 (total (still ks left S) : Int), .map (some m)] 47 (0, 0))) := (hg3.block b hbr (fun e => hrb (Option.some.inj e).symm)).trans hkp.box
      have HF3 : Hid (SetIn w3 w.heap.size nf (ks.filter (inB S))) := hkp.found.keep (hg3.block _ hfr (fun e => hrf (Option.some.inj e).symm))
      have hT3 : ∀ i, i < w.heap.size → i ≠ b → i ≠ m → w3.heap[i]? = w.heap[i]? := fun i h1 h2 h3 => (hg3.block i (Nat.lt_of_lt_of_le h1 hkp.trn.size) (fun e => by have := HB1.out.size; cases e; omega)).trans (hkp.trn.block i h1 h2 h3)
      have HT3 : Hid (Trn b m w w3) := ⟨hg3.os.trans hkp.trn.os, hg3.tape.trans hkp.trn.tape, hg3.output.trans hkp.trn.output, Nat.le_trans hkp.trn.size hg3.size, hT3⟩
      have hsz3 : w1.heap.size < w3.heap.size := by have := hkp.size; omega
      have HSUB : Hid (∀ s : ByteArray, (left (keyL s) && !(keyL s).sameKey (keyL k)) = true → s ∈ S) := fun s hs => hkp.sub s (by simp at hs; exact hs.1)
      have HIN : Hid (inB (ks.filter (inB S)) k = inB ks k) := by
        show _ = _
        rw [Bool.eq_iff_iff, inB_iff, inB_iff, List.mem_filter]
        exact ⟨fun h => h.1, fun h => ⟨h, inB_iff.2 hkS⟩⟩
      obtain ⟨DF, hDF, _, hHF⟩ := HF3.out.set
      have hbk := (hHF k).trans HIN.out
      have HMEM : Hid (∀ s : ByteArray, has D' (keyL s) = true ↔ s ∈ still ks left S) := hkp.mem
      clear hHF hkp HK hT3
      cases hb : inB ks k with
      | true =>
        rw [hb] at hbk
        have HSK : Hid (still ks (fun z => left z && !z.sameKey (keyL k)) S = still ks left S) := still_keeps hb
        go_wp2_with (at_lookup; refine wpList_lookup_own_unit _ rfl _ _ 45 rfl 9 50 keyed9 Try.underlying45 (zero50 _) w.heap.size nf DF rfl hDF _ _ rfl hkey ?_; rw [hbk])
        go_roundw
        case rel =>
          have hab : ∀ o, Below w3.heap.size w3 (w3.alloc o) := fun o => (Below.refl _ _).alloc (Nat.le_refl _) o
          refine ⟨D', _, cnt3, z, rfl, by show _ = _; rw [HSK.out]; exact HZ.out, hz, hrg3.alloc _, ⟨hrg3.alloc _, fun s => by rw [HSK.out]; exact HMEM.out s, ?_, HF3.out.below (hab _), HT3.out.alloc _, by simp; omega, HSUB.out⟩⟩
          rw [HSK.out, (hab _).block b (Nat.lt_of_lt_of_le hbr hg3.size)]
          exact HBX.out
        case measure => rw [(hrg3.alloc _).left_eq, hrg.left_eq]; exact hlt3
      | false =>
        rw [hb] at hbk
        have hkst : k ∈ still ks left S := List.mem_filter.2 ⟨hkS, by simp [hlk]⟩
        have HSK : Hid (still ks (fun z => left z && !z.sameKey (keyL k)) S = out k (still ks left S)) := still_drops hb
        have hasc : Asc (still ks left S) := HST.out.asc.filter _
        have HTO : Hid (total (out k (still ks left S)) + k.size = total (still ks left S)) := total_out hasc hkst
        have HLO : Hid ((out k (still ks left S)).length + 1 = (still ks left S).length) := len_out hasc hkst
        have htl : total (still ks left S) ≤ 65536 := Nat.le_trans (sum_le _) (Nat.le_trans HST.out.room HST.out.lim)
        have HRM : Hid (∀ o, Calls Try.prog 20 #[.pointer (some ⟨b, 0, none⟩), .string k] (w3.alloc o) fun e w' => e = .returned (.tuple #[]) ∧ ∃ cnt4, w'.ranges Try.prog 9 unitElem m w1.heap.size n (D'.del (keyL k)) (fun z => left z && !z.sameKey (keyL k)) cnt4 ∧ cnt4 ≤ cnt3 ∧
            Hid (Kp w w' b m q w1.heap.size n w.heap.size nf S ks (D'.del (keyL k)) (fun z => left z && !z.sameKey (keyL k)) cnt4)) := by
          intro o
          have hab : Below w3.heap.size w3 (w3.alloc o) := (Below.refl _ _).alloc (Nat.le_refl _) o
          obtain ⟨w5, cnt5, hrun, hrg5, hle5, ht5⟩ := (hrg3.alloc o).drop keyed9 Try.underlying45 hkey 0
          rw [Maps.strike_twice] at hrg5
          have hg5 := ht5.grown
          have hbx : (w3.alloc o).heap[b]? = _ := (hab.block b (Nat.lt_of_lt_of_le hbr hg3.size)).trans HBX.out
          have hb5 : w5.heap[b]? = (w3.alloc o).heap[b]? := hg5.block b (by simp; omega) (fun e => hbm (Option.some.inj e))
          refine (remove_core k hbx htl hk64.2 (fun _ => hrun) hb5).mono ?_
          rintro e w6 ⟨rfl, rfl⟩
          have hgc : w5.grownBy (w5.setCell ⟨b, 1, none⟩ (.int .i64 ((total (still ks left S) : Int) - (k.size : Int)))) (some b) := ⟨rfl, rfl, rfl, by simp, fun i _ hi => Below.heap_setCell _ _ _ _ (fun e => hi (by rw [e]))⟩
          have hrg6 := hrg5.kept hgc (fun e => hbm (Option.some.inj e).symm) (fun e => hrb (Option.some.inj e))
          refine ⟨rfl, cnt5, hrg6, hle5, hrg6, fun s => ?_, ?_, ?_, ((HT3.out.alloc o).trans (Trn.ofGrown hg5)).setCell _ _, ?_, HSUB.out⟩
          · rw [HSK.out, mem_out, ← HMEM.out s]
            by_cases e : s = k
            · subst e
              rw [has_del_same]; simp
            · rw [has_del_other (fun e2 => e (keyL_eq.1 e2))]
              exact ⟨fun h => ⟨h, e⟩, fun h => h.1⟩
          · rw [box_set (hb5.trans hbx), HSK.out]
            have : (total (still ks left S) : Int) - (k.size : Int) = (total (out k (still ks left S)) : Int) := by have := HTO.out; omega
            rw [this]
          · refine (HF3.out.below hab).keep ?_
            rw [Below.heap_setCell _ _ _ _ hfb, hg5.block _ (by simp; omega) (fun e => hfm (Option.some.inj e))]
          · have := hg5.size; simp at this ⊢; omega
        clear hasc hkst htl HBX HF3 HT3 HSUB HIN HMEM
        go_wp2_with (at_lookup; refine wpList_lookup_own_unit _ rfl _ _ 45 rfl 9 50 keyed9 Try.underlying45 (zero50 _) w.heap.size nf DF rfl hDF _ _ rfl hkey ?_; rw [hbk])
        refine (HRM.out _).mono ?_
        rintro e w6 ⟨rfl, cnt6, hrg6, hle6, HK6⟩
        go_wp2
        go_roundw
        case rel =>
          have h1 := HZ.out
          have h2 := HLO.out
          have h3 := HLS.out
          exact ⟨_, _, cnt6, z + 1, by go_num, by show _ = _; rw [HSK.out]; omega, by omega, hrg6, HK6⟩
        case measure => rw [hrg6.left_eq, hrg.left_eq]; omega
end Go.Proofs.Ytkmlekgfbmoimaa.Blobs
