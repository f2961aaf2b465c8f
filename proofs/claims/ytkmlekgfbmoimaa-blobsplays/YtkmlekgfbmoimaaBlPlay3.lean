/-
  BlobsPlays' calls, each with what stands behind it.
-/
import Derived.Test.YtkmlekgfbmoimaaBlPlay2
namespace Go.Proofs.Ytkmlekgfbmoimaa.Blobs
open Go.RowKit Route

theorem has_list {w wr : World} {u q j k cp : Nat} {ad : Option Addr} {S : List ByteArray} {c : Int} {s : ByteArray} {v : Value} (h : Px w wr u q j (.slice ad k cp) S) (hk : k ≤ 65536) :
    Calls Try.prog 8 #[.slice ad k cp, .string s] (wr.alloc (.cells #[.int .i64 c, .string s, v] 32)) fun e w' => e = .returned (.bool (inB S s)) ∧ Hid (Px w w' u q j (.slice ad k cp) S ∧ Box w' wr.heap.size u c s v) := by
  have h' := h.below ((Below.refl _ _).alloc (Nat.le_refl _) (.cells #[.int .i64 c, .string s, v] 32))
  obtain ⟨g1, _, _, g2⟩ := h'.row.parts
  refine (refHas_any ad k cp S s _ g1 g2 (by omega)).mono ?_
  rintro e w' ⟨rfl, rfl⟩
  exact ⟨rfl, h', heap_alloc_new _ _, h.new⟩

theorem drop_yes {w w3 : World} {u q j k cp bx : Nat} {ad : Option Addr} {S : List ByteArray} {c : Int} {s : ByteArray} {v : Value} (h : Px w w3 u q j (.slice ad k cp) S) (hb : Box w3 bx u c s v) (hr : inB S s = true) :
    Calls Try.prog 10 #[.pointer (some ⟨u + 1, 0, none⟩), .string s] w3 fun e w' => e = .returned .nilIface ∧ Hid (Py w w' u q j (.slice ad k cp) S (out s S) ∧ Box w' bx u c s v) := by
  refine (drop_ok h.store s hr).mono ?_
  rintro e w' ⟨rfl, hs, ht⟩
  exact ⟨rfl, h.turn ht hs, hb.trn ht⟩

theorem drop_not {w w3 : World} {u q j k cp bx : Nat} {ad : Option Addr} {S : List ByteArray} {c : Int} {s : ByteArray} {v : Value} (h : Px w w3 u q j (.slice ad k cp) S) (hb : Box w3 bx u c s v) (hs : s.size ≤ maxLen) (hr : inB S s = false) :
    Calls Try.prog 10 #[.pointer (some ⟨u + 1, 0, none⟩), .string s] w3 fun e w' => e = .returned (.iface 29 (.int .i64 3)) ∧ Hid (Py w w' u q j (.slice ad k cp) S (out s S) ∧ Box w' bx u c s v) := by
  rw [out_none (inB_not hr)]
  refine (drop_no h.store s hs hr).mono ?_
  rintro e w' ⟨rfl, hb'⟩
  exact ⟨rfl, (h.below hb').py, hb.below hb'⟩

theorem strs_parts {w w' : World} {v : Value} {T : List ByteArray} {B : Nat} (h : Strs B v T w w') : ∃ a k c, v = .slice a k c ∧ k = T.length ∧ c ≤ 9223372036854775807 := by
  obtain ⟨a, c, rfl, _, hc, _⟩ := h.lies
  exact ⟨a, _, c, rfl, rfl, hc⟩

theorem drop_list {w w4 : World} {u q j k cp : Nat} {ad : Option Addr} {S : List ByteArray} {s : ByteArray} (h : Py w w4 u q j (.slice ad k cp) S (out s S)) (hk : k ≤ 65536 := by assumption) :
    Calls Try.prog 11 #[.slice ad k cp, .slice (some ⟨w4.heap.size, 0, none⟩) 1 1, .bool false] (w4.alloc (.cells #[.string s] 9)) fun e w' => ∃ a5 k5 c5, e = .returned (.slice a5 k5 c5) ∧ k5 ≤ 65536 ∧ c5 ≤ 9223372036854775807 ∧ Hid (Px w w' u q j (.slice a5 k5 c5) (out s S)) := by
  have h' := h.below ((Below.refl _ _).alloc (Nat.le_refl _) (.cells #[.string s] 9))
  obtain ⟨g1, _, _, g2⟩ := h'.row.parts
  have hl : Lies (w4.alloc (.cells #[.string s] 9)) (some ⟨w4.heap.size, 0, none⟩) [s] := .inr ⟨_, rfl, fun i hi => by
    obtain rfl : i = 0 := by simpa using hi
    simp [Addr.add]⟩
  refine (only_any ad k cp S _ 1 1 [s] false _ g1 g2 (by omega) rfl hl (by omega)).mono ?_
  rintro e w' ⟨v, rfl, hs⟩
  rw [only_one] at hs
  have hp := h'.list hs
  obtain ⟨a5, k5, c5, rfl, hk5, hc5⟩ := strs_parts hs
  exact ⟨a5, k5, c5, rfl, by rw [hk5]; exact hp.store.few, hc5, hp⟩

theorem keep_list {w w3 : World} {u q j k cp bx dk dc : Nat} {ad da : Option Addr} {S dl : List ByteArray} {c : Int} {s : ByteArray} (h : Px w w3 u q j (.slice ad k cp) S) (hb : Box w3 bx u c s (.slice da dk dc)) (hd : dk = dl.length ∧ Lies w da dl) (hdk : dk ≤ 200) (hk : k ≤ 65536) :
    Calls Try.prog 11 #[.slice ad k cp, .slice da dk dc, .bool true] w3 fun e w' => ∃ a4 k4 c4, e = .returned (.slice a4 k4 c4) ∧ k4 ≤ k ∧ c4 ≤ 9223372036854775807 ∧ Hid (k4 = (only dl true S).length ∧ Px w w' u q j (.slice ad k cp) S ∧ Row (u + 2) w' (.slice a4 k4 c4) (only dl true S) ∧ Box w' bx u c s (.slice da dk dc)) := by
  obtain ⟨g1, _, _, g2⟩ := h.row.parts
  refine (only_any ad k cp S da dk dc dl true w3 g1 g2 (by omega) hd.1 (hd.2.below h.bel (Nat.le_refl _)) (by omega)).mono ?_
  rintro e w' ⟨v, rfl, hs⟩
  obtain ⟨a4, k4, c4, rfl, hk4, hc4⟩ := strs_parts hs
  exact ⟨a4, k4, c4, rfl, by rw [hk4, g1]; exact List.length_filter_le _ _, hc4, hk4, h.below hs.2.1, Row.mono hs.1 h.new, hb.below hs.2.1⟩

theorem keep_rest {w w4 : World} {u q j k cp k4 c4 dk dc : Nat} {ad a4 da : Option Addr} {S dl : List ByteArray} (h : Px w w4 u q j (.slice ad k cp) S) (hr : Row (u + 2) w4 (.slice a4 k4 c4) (only dl true S)) (hk4 : k4 = (only dl true S).length) (hd : dk = dl.length ∧ Lies w da dl) (hds : ∀ s ∈ dl, s.size ≤ maxLen) (hdk : dk ≤ 200) :
    Calls Try.prog 12 #[.pointer (some ⟨u + 1, 0, none⟩), .slice da dk dc] w4 fun e w' => e = .returned (.int .i64 ((k : Int) - (k4 : Int))) ∧ Hid (Px w w' u q j (.slice a4 k4 c4) (only dl true S)) := by
  obtain ⟨g1, _, _, g2⟩ := h.row.parts
  refine (keep_any h.store da dk dc dl hd.1 (hd.2.below h.bel (Nat.le_refl _)) (by omega) (fun i hi => hds _ (mem_getD.2 ⟨i, by omega, rfl⟩))).mono ?_
  rintro e w' ⟨rfl, hs, ht⟩
  exact ⟨by rw [g1, hk4], hs, hr.trn ht (by omega) (by omega), (h.turn ht hs).bel, h.old, (h.turn ht hs).new⟩

theorem put_none {w w3 : World} {u q j k cp bx : Nat} {ad : Option Addr} {S : List ByteArray} {c : Int} {s : ByteArray} {v : Value} (h : Px w w3 u q j (.slice ad k cp) S) (hb : Box w3 bx u c s v) (hs : s.size ≤ maxLen) (hbad : ¬ (1 ≤ s.size ∧ s.size ≤ 64)) :
    Calls Try.prog 13 #[.pointer (some ⟨u + 1, 0, none⟩), .string s] w3 fun e w' => e = .returned (.iface 29 (.int .i64 1)) ∧ Hid (Px w w' u q j (.slice ad k cp) S ∧ Box w' bx u c s v) := by
  refine (put_arg s hs hbad).mono ?_
  rintro e w' ⟨rfl, rfl⟩
  exact ⟨rfl, h, hb⟩

theorem put_there {w w3 : World} {u q j k cp bx : Nat} {ad : Option Addr} {S : List ByteArray} {c : Int} {s : ByteArray} {v : Value} (h : Px w w3 u q j (.slice ad k cp) S) (hb : Box w3 bx u c s v) (h1 : 1 ≤ s.size) (h2 : s.size ≤ 64) (hr : inB S s = true) :
    Calls Try.prog 13 #[.pointer (some ⟨u + 1, 0, none⟩), .string s] w3 fun e w' => e = .returned .nilIface ∧ Hid (Px w w' u q j (.slice ad k cp) S ∧ Box w' bx u c s v) := by
  refine (put_old h.store s h1 h2 hr).mono ?_
  rintro e w' ⟨rfl, hb'⟩
  exact ⟨rfl, h.below hb', hb.below hb'⟩

theorem put_over {w w3 : World} {u q j k cp bx : Nat} {ad : Option Addr} {S : List ByteArray} {c : Int} {s : ByteArray} {v : Value} (h : Px w w3 u q j (.slice ad k cp) S) (hb : Box w3 bx u c s v) (h1 : 1 ≤ s.size) (h2 : s.size ≤ 64) (hr : inB S s = false) (hf : q < s.size + total S) :
    Calls Try.prog 13 #[.pointer (some ⟨u + 1, 0, none⟩), .string s] w3 fun e w' => e = .returned (.iface 29 (.int .i64 5)) ∧ Hid (Px w w' u q j (.slice ad k cp) S ∧ Box w' bx u c s v) := by
  refine (put_full h.store s h1 h2 hr hf).mono ?_
  rintro e w' ⟨rfl, hb'⟩
  exact ⟨rfl, h.below hb', hb.below hb'⟩

theorem put_fits {w w3 : World} {u q j k cp bx : Nat} {ad : Option Addr} {S : List ByteArray} {c : Int} {s : ByteArray} {v : Value} (h : Px w w3 u q j (.slice ad k cp) S) (hb : Box w3 bx u c s v) (h1 : 1 ≤ s.size) (h2 : s.size ≤ 64) (hr : inB S s = false) (hf : s.size + total S ≤ q) (hj : j ≤ 1000000) :
    Calls Try.prog 13 #[.pointer (some ⟨u + 1, 0, none⟩), .string s] w3 fun e w' => e = .returned .nilIface ∧ Hid (Py w w' u q (j + 1) (.slice ad k cp) S (ins s S) ∧ Box w' bx u c s v) := by
  refine (put_new h.store s h1 h2 hr hf hj).mono ?_
  rintro e w' ⟨rfl, hs, ht⟩
  exact ⟨rfl, h.turn ht hs, hb.trn ht⟩

theorem below_draws (w : World) (nq : Nat) : Below w.heap.size w (w.drewN nq) := below_drewN (Below.refl _ _) nq

theorem size_list {w w4 : World} {u q j k cp tz : Nat} {ad : Option Addr} {S : List ByteArray} (h : Px w w4 u q j (.slice ad k cp) S) (hk : k ≤ 65536) (ht : tz = total S) (htz : tz ≤ 65536) :
    (∀ nq, Calls Try.prog 14 #[.slice ad k cp] (w4.drewN nq) fun e w' => e = .returned (.int .i64 (tz : Int)) ∧ w' = w4.drewN nq) ∧ Hid (∀ nq, Px w (w4.drewN nq) u q j (.slice ad k cp) S) := by
  refine ⟨fun nq => ?_, fun nq => h.below (below_draws _ _)⟩
  obtain ⟨g1, _, _, g2⟩ := (h.below (below_draws w4 nq)).row.parts
  exact sizeL_any ad k cp S tz _ g1 g2 (by omega) ht htz

theorem size_list2 {w w4 : World} {u q j k cp tz : Nat} {ad : Option Addr} {S T : List ByteArray} (h : Py w w4 u q j (.slice ad k cp) S T) (hk : k ≤ 65536) (ht : tz = total S) (htz : tz ≤ 65536) :
    (∀ nq, Calls Try.prog 14 #[.slice ad k cp] (w4.drewN nq) fun e w' => e = .returned (.int .i64 (tz : Int)) ∧ w' = w4.drewN nq) ∧ Hid (∀ nq, Py w (w4.drewN nq) u q j (.slice ad k cp) S T) := by
  refine ⟨fun nq => ?_, fun nq => h.below (below_draws _ _)⟩
  obtain ⟨g1, _, _, g2⟩ := (h.below (below_draws w4 nq)).row.parts
  exact sizeL_any ad k cp S tz _ g1 g2 (by omega) ht htz

theorem put_list {w w4 : World} {u q j k cp : Nat} {ad : Option Addr} {S : List ByteArray} {s : ByteArray} (h : Py w w4 u q j (.slice ad k cp) S (ins s S)) (hk : k ≤ 65536) :
    Calls Try.prog 15 #[.slice ad k cp, .string s] w4 fun e w' => ∃ a5 k5 c5, e = .returned (.slice a5 k5 c5) ∧ k5 ≤ 65536 ∧ c5 ≤ 9223372036854775807 ∧ Hid (Px w w' u q j (.slice a5 k5 c5) (ins s S)) := by
  obtain ⟨g1, _, _, g2⟩ := h.row.parts
  refine (putL_any ad k cp S s w4 g1 g2 (by omega)).mono ?_
  rintro e w' ⟨v, rfl, hs⟩
  have hp := h.list hs
  obtain ⟨a5, k5, c5, rfl, hk5, hc5⟩ := strs_parts hs
  exact ⟨a5, k5, c5, rfl, by rw [hk5]; exact hp.store.few, hc5, hp⟩
end Go.Proofs.Ytkmlekgfbmoimaa.Blobs
