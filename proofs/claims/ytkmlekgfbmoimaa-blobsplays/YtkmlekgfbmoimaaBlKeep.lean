/-
  The contracts of 'among' and Keep.
-/
import Derived.Test.YtkmlekgfbmoimaaBlKeys2
namespace Go.Proofs.Ytkmlekgfbmoimaa.Blobs
open Go.RowKit Route Go.Maps Go.ChangeMaps

theorem SetIn.set {w : World} {m n : Nat} {F : List ByteArray} (h : SetIn w m n F) : ∃ D : DataW Unit, w.ownsMap Try.prog 9 unitElem m n D ∧ IsMap D ∧ ∀ k, has D (keyL k) = inB F k := by
  obtain ⟨D, h1, h2, h3⟩ := h
  refine ⟨D, h1, h2, fun k => ?_⟩
  cases e : inB F k with
  | true => exact (h3 k).2 (inB_iff.1 e)
  | false =>
    cases e2 : has D (keyL k) with
    | false => rfl
    | true => exact absurd ((h3 k).1 e2) (inB_not e)

set_option maxHeartbeats 2000000 in
theorem among_any {w : World} {b m q n0 : Nat} {S : List ByteArray} (h : StoreIn w b m q n0 S) (a : Option Addr) (n cap : Nat) (ks : List ByteArray) (hn0 : n = ks.length) (hl0 : Lies w a ks) (hnm : n ≤ 1000000) (hks : ∀ j, j < n → (ks.getD j ByteArray.empty).size ≤ maxLen) :
    Calls Try.prog 21 #[.pointer (some ⟨b, 0, none⟩), .slice a n cap] w fun e w' => e = .returned (.map (some w.heap.size)) ∧ (∃ nf, SetIn w' w.heap.size nf (ks.filter (inB S))) ∧ Below w.heap.size w w' ∧ w.heap.size < w'.heap.size := by
  have hmm := @run_makeMap Try.prog
  have HN : Hid (n = ks.length) := hn0
  have HL : Hid (Lies w a ks) := hl0
  have HS : Hid (∀ j, j < n → (ks.getD j ByteArray.empty).size ≤ maxLen) := hks
  have HH : Hid (∀ wr (k : ByteArray), Below w.heap.size w wr → k.size ≤ maxLen → Calls Try.prog 19 #[.pointer (some ⟨b, 0, none⟩), .string k] wr fun e w' => e = .returned (.bool (inB S k)) ∧ Below wr.heap.size wr w') := fun wr k hb hk => has_any (h.below hb) k hk
  clear hn0 hl0 hks h
  go_enter Try.func21, Try.ntmps21
  go_wp2
  go_loopw [7, 11] (fun _ t11 wr => ∃ i : Nat, t11 = .int .i64 (i : Int) ∧ i ≤ n ∧ Hid (∃ nf, nf ≤ i ∧ SetIn wr w.heap.size nf ((ks.take i).filter (inB S))) ∧ Hid (Below w.heap.size w wr) ∧ w.heap.size < wr.heap.size) (fun _ t11 _ => n - (intOf t11).toNat)
  case atStart =>
    exact ⟨0, rfl, Nat.zero_le _, ⟨0, Nat.le_refl _, SetIn.made w⟩, (Below.refl _ _).alloc (Nat.le_refl _) _, by simp⟩
  case round =>
    obtain ⟨i, rfl, hi, HI, hbr, hlt⟩ := hrel
    by_cases hin : i < n
    · obtain ⟨x, hx, hc⟩ := (HL.out.below hbr.out (Nat.le_refl _)).cellAt (j := i) (by rw [← HN.out]; exact hin)
      subst hx
      have hksz := HS.out i hin
      have hkey := keyL_ok hksz
      have HT : Hid (ks.take (i + 1) = ks.take i ++ [ks.getD i ByteArray.empty]) := take_text (by rw [← HN.out]; exact hin)
      generalize ks.getD i ByteArray.empty = k at hc hkey HT hksz
      have HC := HH.out wr k hbr.out hksz
      have HCC : Hid (Calls _ _ _ _ _) := HC
      clear HC
      cases hb : inB S k with
      | true =>
        rw [hb] at HCC
        go_wp2_with fail
        refine HCC.out.mono ?_
        rintro e w1 ⟨rfl, hb1⟩
        obtain ⟨nf, hnf, hset⟩ := HI.out
        obtain ⟨D, hD, hM, hH⟩ := hset.below hb1
        have HD : Hid (IsMap D ∧ ∀ s : ByteArray, has D (keyL s) = true ↔ s ∈ (ks.take i).filter (inB S)) := ⟨hM, hH⟩
        have HB1 : Hid (Below w.heap.size w w1) := hbr.out.trans (hb1.mono hbr.out.size)
        have hlt1 : w.heap.size < w1.heap.size := Nat.lt_of_lt_of_le hlt hb1.size
        clear hM hH HI hset HCC
        go_wp2_with (at_mapUpdate; refine wpList_mapUpdate_own _ rfl _ _ _ 45 rfl 9 50 keyed9 Try.underlying45 (unitElem (H := Unit)) w.heap.size nf D rfl hD (by unfold maxLen; omega) _ _ _ rfl rfl hkey _ [] unitElem_mk ?_; intro w2 hown2 hgrow2)
        go_roundw
        case rel =>
          refine ⟨i + 1, by go_num, by omega, ⟨nf + 1, by omega, _, hown2, hown2.isMap, fun s => ?_⟩, HB1.out.grown hgrow2 HB1.out.size (fun k hk => by cases hk; exact Nat.le_refl _), Nat.lt_of_lt_of_le hlt1 hgrow2.size⟩
          rw [HT.out, List.filter_append, List.mem_append]
          by_cases hs : s = k
          · subst hs
            exact ⟨fun _ => .inr (by simp [hb]), fun _ => has_put_same HD.out.1 (keyLit s) _⟩
          · rw [has_put_other (fun e => hs (keyL_eq.1 e)), HD.out.2 s]
            exact ⟨.inl, fun h => h.resolve_right (by simp [hs, List.mem_filter])⟩
        case measure => simp [intOf]; omega
      | false =>
        rw [hb] at HCC
        go_wp2_with fail
        refine HCC.out.mono ?_
        rintro e w1 ⟨rfl, hb1⟩
        obtain ⟨nf, hnf, hset⟩ := HI.out
        have HSE : Hid (SetIn w1 w.heap.size nf ((ks.take i).filter (inB S))) := hset.below hb1
        have HB1 : Hid (Below w.heap.size w w1) := hbr.out.trans (hb1.mono hbr.out.size)
        have hlt1 : w.heap.size < w1.heap.size := Nat.lt_of_lt_of_le hlt hb1.size
        clear hset HI HCC
        go_wp2
        go_roundw
        case rel =>
          refine ⟨i + 1, by go_num, by omega, ⟨nf, by omega, ?_⟩, HB1, hlt1⟩
          rw [HT.out, List.filter_append]
          simpa [hb] using HSE.out
        case measure => simp [intOf]; omega
    · have HE : Hid (∃ nf, SetIn wr w.heap.size nf (ks.filter (inB S))) := by
        obtain ⟨nf, _, this⟩ := HI.out
        rw [List.take_of_length_le (by rw [← HN.out]; omega)] at this
        exact ⟨nf, this⟩
      clear HI
      go_wp2
      go_ret
      exact ⟨rfl, HE.out, hbr.out, hlt⟩
end Go.Proofs.Ytkmlekgfbmoimaa.Blobs
