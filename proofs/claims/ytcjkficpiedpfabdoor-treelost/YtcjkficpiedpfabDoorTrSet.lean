/-
  A set of texts that a call makes, and whether it has all of some: the program's 'setOf' and 'hasAll'.
-/
import Derived.Test.YtcjkficpiedpfabDoorTrFind
import Derived.Maps.OwnSet
import Derived.Maps.AppendAt
import Derived.StringKeys
namespace Go.Proofs.YtcjkficpiedpfabDoor.Tree
open Go.RowKit Route Chunk Go.Maps Go.ChangeMaps

theorem keyed9 : Keyed Tryd.prog 9 := string_keyed Tryd.underlying9
theorem zero99 (w : World) : (zeroValue 72).run Tryd.prog w = .ok (.agg #[]) w := by kernel_rfl

/-- A text as a map's key. -/
def keyL (s : ByteArray) : Lit := .string s.data.toList
theorem keyL_eq {s t : ByteArray} : keyL s = keyL t ↔ s = t := by
  constructor
  · intro h
    simp only [keyL, Lit.string.injEq] at h
    exact ByteArray.ext (Array.ext' h)
  · rintro rfl; rfl
theorem keyL_ok {s : ByteArray} (h : s.size ≤ maxLen) : keyOf Tryd.prog 9 (.string s) = some (keyL s) := WideMaps.keyOf_string_mk Tryd.underlying9 h

/-- In block b a set lies: the texts S. -/
def SetIn (w : World) (b n : Nat) (S : List ByteArray) : Prop := ∃ D : DataW Unit, w.ownsMap Tryd.prog 9 unitElem b n D ∧ IsMap D ∧ ∀ s : ByteArray, has D (keyL s) = true ↔ s ∈ S

theorem SetIn.below {w w' : World} {b n : Nat} {S : List ByteArray} (h : SetIn w b n S) (hb : Below w.heap.size w w') : SetIn w' b n S := by
  obtain ⟨D, ⟨es, clock, h1, h2⟩, h3⟩ := h
  exact ⟨D, ⟨es, clock, (hb.block b (Array.getElem?_eq_some_iff.1 h1).1).trans h1, h2⟩, h3⟩

theorem keyLit (s : ByteArray) : WideAt.IsKeyLit (keyL s) := by
  trivial

set_option maxHeartbeats 2000000 in
set_option maxRecDepth 100000 in
theorem setOf_any (a : Option Addr) (n cap : Nat) (ks : List ByteArray) (w : World) (hn0 : n = ks.length) (hl0 : Lies w a ks) (hnm : n ≤ 1000000) (hks : ∀ j, j < n → (ks.getD j ByteArray.empty).size ≤ maxLen) :
    Calls Tryd.prog 19 #[.slice a n cap] w fun e w' => e = .returned (.map (some w.heap.size)) ∧ SetIn w' w.heap.size n ks ∧ Below w.heap.size w w' ∧ w.heap.size < w'.heap.size := by
  have hmm := @run_makeMap Tryd.prog
  have HN : Hid (n = ks.length) := hn0
  have HL : Hid (Lies w a ks) := hl0
  have HS : Hid (∀ j, j < n → (ks.getD j ByteArray.empty).size ≤ maxLen) := hks
  clear hn0 hl0 hks
  go_enter Tryd.func19, Tryd.ntmps19
  go_wp2
  go_loopw [5, 9] (fun _ t9 wr => ∃ i : Nat, t9 = .int .i64 (i : Int) ∧ i ≤ n ∧ Hid (SetIn wr w.heap.size i (ks.take i)) ∧ Below w.heap.size w wr ∧ w.heap.size < wr.heap.size) (fun _ t9 _ => n - (intOf t9).toNat)
  case atStart =>
    refine ⟨0, rfl, Nat.zero_le _, ⟨.map [], World.ownsMap_made _ _ _ _, ?_, fun s => ?_⟩, (Below.refl _ _).alloc (Nat.le_refl _) _, by simp⟩
    · exact isMap_empty
    · simp [Maps.has]
  case round =>
    obtain ⟨i, rfl, hi, HI, hbr, hlt⟩ := hrel
    by_cases hin : i < n
    · obtain ⟨x, hx, hc⟩ := (HL.out.below hbr (Nat.le_refl _)).cellAt (j := i) (by rw [← HN.out]; exact hin)
      subst hx
      have hkey := keyL_ok (HS.out i hin)
      have HT : Hid (ks.take (i + 1) = ks.take i ++ [ks.getD i ByteArray.empty]) := by
        show _ = _
        rw [List.take_succ_eq_append_getElem (by rw [← HN.out]; exact hin)]
        simp [List.getD_eq_getElem?_getD, show i < ks.length by rw [← HN.out]; exact hin]
      generalize ks.getD i ByteArray.empty = k at hc hkey HT
      obtain ⟨D, hD, hM, hH⟩ := HI.out
      have HD : Hid (IsMap D ∧ ∀ s : ByteArray, has D (keyL s) = true ↔ s ∈ ks.take i) := ⟨hM, hH⟩
      clear hM hH HI
      go_wp2_with (at_mapUpdate; refine wpList_mapUpdate_own _ rfl _ _ _ 56 rfl 9 72 keyed9 Tryd.underlying56 (unitElem (H := Unit)) w.heap.size i D rfl hD (by unfold maxLen; omega) _ _ _ rfl rfl hkey _ [] unitElem_mk ?_; intro w1 hown1 hgrow1)
      go_roundw
      case rel =>
        refine ⟨i + 1, by go_num, by omega, ⟨_, hown1, ?_, fun s => ?_⟩, hbr.grown hgrow1 hbr.size (fun k hk => by cases hk; exact Nat.le_refl _), Nat.lt_of_lt_of_le hlt hgrow1.size⟩
        · exact hown1.isMap
        · rw [HT.out, List.mem_append, List.mem_singleton]
          by_cases hs : s = k
          · subst hs
            exact ⟨fun _ => .inr rfl, fun _ => has_put_same HD.out.1 (keyLit s) _⟩
          · rw [has_put_other (fun e => hs (keyL_eq.1 e)), HD.out.2 s]
            exact ⟨.inl, fun h => h.resolve_right hs⟩
      case measure => simp [intOf]; omega
    · have HE : Hid (SetIn wr w.heap.size n ks) := by
        have := HI.out
        rw [List.take_of_length_le (by rw [← HN.out]; omega), show i = n by omega] at this
        exact this
      clear HI
      go_wp2
      go_ret
      exact ⟨rfl, HE.out, hbr, hlt⟩

/-- Has the set all of some? -/
def hasAllB (S ks : List ByteArray) : Prop := ∀ j, j < ks.length → ks.getD j ByteArray.empty ∈ S

set_option maxHeartbeats 2000000 in
set_option maxRecDepth 100000 in
theorem hasAll_core (T : Ending → World → Prop) (b N : Nat) (S : List ByteArray) (a : Option Addr) (n cap : Nat) (ks : List ByteArray) (w : World) (hset : SetIn w b N S) (hn0 : n = ks.length) (hl0 : Lies w a ks) (hnm : n ≤ 1000000) (hks : ∀ j, j < n → (ks.getD j ByteArray.empty).size ≤ maxLen)
    (hyes : (∀ j, j < n → ks.getD j ByteArray.empty ∈ S) → ∀ w', Below w.heap.size w w' → T (.returned (.bool true)) w')
    (hno : (∃ j, j < n ∧ ks.getD j ByteArray.empty ∉ S) → ∀ w', Below w.heap.size w w' → T (.returned (.bool false)) w') :
    Calls Tryd.prog 20 #[.map (some b), .slice a n cap] w T := by
  have HN : Hid (n = ks.length) := hn0
  have HL : Hid (Lies w a ks) := hl0
  have HSZ : Hid (∀ j, j < n → (ks.getD j ByteArray.empty).size ≤ maxLen) := hks
  have HSE : Hid (SetIn w b N S) := hset
  have HY : Hid ((∀ j, j < n → ks.getD j ByteArray.empty ∈ S) → ∀ w', Below w.heap.size w w' → T (.returned (.bool true)) w') := hyes
  have HX : Hid ((∃ j, j < n ∧ ks.getD j ByteArray.empty ∉ S) → ∀ w', Below w.heap.size w w' → T (.returned (.bool false)) w') := hno
  clear hn0 hl0 hks hset hyes hno
  go_enter Tryd.func20, Tryd.ntmps20
  go_wp2
  go_loopw [6, 7, 8, 11] (fun _ _ _ t11 wr => ∃ i : Nat, t11 = .int .i64 (i : Int) ∧ i ≤ n ∧ Below w.heap.size w wr ∧ Hid (∀ j, j < i → ks.getD j ByteArray.empty ∈ S)) (fun _ _ _ t11 _ => n - (intOf t11).toNat)
  case atStart => exact ⟨0, rfl, Nat.zero_le _, Below.refl _ _, fun j hj => by omega⟩
  case round =>
    obtain ⟨i, rfl, hi, hbr, HI⟩ := hrel
    by_cases hin : i < n
    · obtain ⟨x, hx, hc⟩ := (HL.out.below hbr (Nat.le_refl _)).cellAt (j := i) (by rw [← HN.out]; exact hin)
      subst hx
      have hkey := keyL_ok (HSZ.out i hin)
      obtain ⟨D, hD, _, hH⟩ := HSE.out.below hbr
      have hHk := hH (ks.getD i ByteArray.empty)
      have HI2 : Hid (ks.getD i ByteArray.empty ∈ S → ∀ j, j < i + 1 → ks.getD j ByteArray.empty ∈ S) := fun hq j hj => by
        by_cases hji : j = i
        · subst hji; exact hq
        · exact HI.out j (by omega)
      have HXI : Hid (ks.getD i ByteArray.empty ∉ S → ∀ w', Below w.heap.size w w' → T (.returned (.bool false)) w') := fun hq => HX.out ⟨i, hin, hq⟩
      generalize ks.getD i ByteArray.empty = k at hc hkey hHk HI2 HXI
      have HB : Hid (Below w.heap.size w wr) := hbr
      clear hH HI hbr
      cases hb : has D (keyL k) with
      | true =>
        have HI3 : Hid (∀ j, j < i + 1 → ks.getD j ByteArray.empty ∈ S) := HI2.out (hHk.1 hb)
        clear hHk HI2 HXI
        go_wp2_with (at_lookup; refine wpList_lookup_own_unit _ rfl _ _ 56 rfl 9 72 keyed9 Tryd.underlying56 (zero99 _) b N D rfl hD _ _ rfl hkey ?_; rw [hb])
        go_roundw
        case rel => exact ⟨i + 1, by go_num, by omega, HB.out.alloc HB.out.size _, HI3⟩
        case measure => simp [intOf]; omega
      | false =>
        have HT : Hid (∀ w', Below w.heap.size w w' → T (.returned (.bool false)) w') := HXI.out (fun h => by rw [hHk.2 h] at hb; cases hb)
        clear hHk HI2 HXI
        go_wp2_with (at_lookup; refine wpList_lookup_own_unit _ rfl _ _ 56 rfl 9 72 keyed9 Tryd.underlying56 (zero99 _) b N D rfl hD _ _ rfl hkey ?_; rw [hb])
        exact HT.out _ (HB.out.alloc HB.out.size _)
    · have HT : Hid (∀ w', Below w.heap.size w w' → T (.returned (.bool true)) w') := HY.out (fun j hj => HI.out j (by omega))
      clear HI
      go_wp2
      exact HT.out _ hbr
end Go.Proofs.YtcjkficpiedpfabDoor.Tree
