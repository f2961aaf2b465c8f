/-
  The walk of WireStays.
-/
import Derived.Test.YtiackikomefcfaaBack
namespace Go.Proofs.Ytiackikomefcfaa
open Go.RowKit

/-- A new slice without bytes. -/
theorem Buf.fresh (w W : World) (h : Below w.heap.size w W) : Buf w.heap.size (.slice (some ⟨W.heap.size, 0, none⟩) 0 0) [] w (W.alloc (.cells #[] 5)) :=
  ⟨World.ownsRow_made W #[] 0 h.size (Nat.zero_le _) rfl, h.alloc h.size _, by have := h.size; simp; omega⟩

/-- What is owned, its length under a name. -/
theorem Buf.words {B : Nat} {v : Value} {l : List UInt8} {W0 w : World} (h : Buf B v l W0 w) :
    ∃ a k cap, v = .slice a k cap ∧ Hid (k = l.length) ∧ k ≤ cap ∧ Lies w a l ∧ (0 < k → ∃ g, a = some ⟨g, 0, none⟩ ∧ B ≤ g) := by
  obtain ⟨ho, _, _⟩ := h
  rcases ho.2 with ⟨rfl, hn⟩ | ⟨g, cap, cur, rfl, hb, hg, hnc, hcm, hcs, ht⟩
  · have : l = [] := List.eq_nil_of_length_eq_zero hn
    subst this
    exact ⟨none, 0, 0, rfl, rfl, Nat.le_refl _, Or.inl rfl, fun h => absurd h (Nat.lt_irrefl _)⟩
  · exact ⟨some ⟨g, 0, none⟩, _, cap, rfl, rfl, hnc, Or.inr ⟨_, rfl, ho.cells rfl⟩, fun _ => ⟨g, rfl, hb⟩⟩

theorem conv_named {w : World} {a : Option Addr} {l : List UInt8} {k cap : Nat} {O : ByteArray} (h : Lies w a l) (hk : k = l.length) (hO : O = ⟨l.toArray⟩) :
    (convert 22 9 (.slice a k cap)).run Try.prog w = .ok (.string O) w := by
  subst hk; subst hO; exact conv_lies h

def twelve : List UInt8 := [1, 2, 3, 4, 5, 6, 7, 8, 9, 10, 11, 12]

theorem twelve_lies (W : World) : Lies (W.alloc (.cells #[.int .u8 1, .int .u8 2, .int .u8 3, .int .u8 4, .int .u8 5, .int .u8 6, .int .u8 7, .int .u8 8, .int .u8 9, .int .u8 10, .int .u8 11, .int .u8 12] 5)) (some ⟨W.heap.size, 0, none⟩) twelve := by
  refine Or.inr ⟨_, rfl, fun j u hj => ?_⟩
  rw [Go.WideShapes.add_plain, Nat.zero_add]
  have hh := heap_alloc_new W (.cells #[.int .u8 1, .int .u8 2, .int .u8 3, .int .u8 4, .int .u8 5, .int .u8 6, .int .u8 7, .int .u8 8, .int .u8 9, .int .u8 10, .int .u8 11, .int .u8 12] 5)
  rw [cell_of_row _ W.heap.size j _ 5 (0, 0) hh, ← hj]
  have hbv : bv twelve = [.int .u8 1, .int .u8 2, .int .u8 3, .int .u8 4, .int .u8 5, .int .u8 6, .int .u8 7, .int .u8 8, .int .u8 9, .int .u8 10, .int .u8 11, .int .u8 12] := rfl
  rw [hbv]
  exact List.getElem?_toArray

/-- A byte of an owned row is there, and may be written; written, the row is still owned. -/
theorem Buf.at_ {B g k cap : Nat} {yl : List UInt8} {W0 w : World} (h : Buf B (.slice (some ⟨g, 0, none⟩) k cap) yl W0 w) (hk : k = yl.length) (j : Nat) (hj : j < k) :
    ∃ d : Nat, d < 256 ∧ w.cell? ⟨g, j, none⟩ = some (.int .u8 (d : Int)) ∧ w.frozen? ⟨g, j, none⟩ = false := by
  subst hk
  refine ⟨(yl[j]).toNat, (yl[j]).toNat_lt, ?_, h.1.frozenAt j⟩
  rw [h.1.cellAt j (by omega)]
  simp [bv, List.getElem?_eq_getElem hj]

theorem Buf.set {B g k cap : Nat} {yl : List UInt8} {W0 w : World} (h : Buf B (.slice (some ⟨g, 0, none⟩) k cap) yl W0 w) (hk : k = yl.length) (hB : B ≤ g) (j c : Nat) (hc : c < 256) :
    ∃ yl' : List UInt8, k = yl'.length ∧ Buf B (.slice (some ⟨g, 0, none⟩) k cap) yl' W0 (w.setCell ⟨g, j, none⟩ (.int .u8 (c : Int))) := by
  refine ⟨yl.set j (UInt8.ofNat c), by rw [hk]; simp, ?_, h.2.1.setCell hB _, by simpa [World.setCell] using h.2.2⟩
  have h1 : w.ownsRow B 5 1 (.slice (some ⟨g, 0, none⟩) k cap) k (bv yl) := by have := h.1; rw [← hk] at this; exact this
  have h2 := (h1.stored j (.int .u8 (c : Int))).1
  have e : bv (yl.set j (UInt8.ofNat c)) = (bv yl).set j (.int .u8 (c : Int)) := by
    simp only [bv, List.map_set, u8_small hc]
  rw [e, List.length_set, ← hk]
  exact h2

set_option maxHeartbeats 3200000 in
theorem wireStays_core (a : Option Addr) (l : List UInt8) (cap k n : Nat) (s : ByteArray) (w : World) (hk : k = l.length) (hl : Lies w a l) (hkc : k ≤ cap) (hnil : a = none → cap = 0) (hk1 : k ≤ 10000) (hs : s.size ≤ 10000) (hn : n < 18446744073709551616) :
    Calls Try.prog 5 #[.slice a k cap, .int .u64 n, .string s] w fun e w' => e = .returned (.bool true) ∧ Below w.heap.size w w' := by
  have HK : Hid (k = l.length) := hk
  clear hk
  have hlen0 : ([] : List UInt8).length + k ≤ 140737488355328 := by simp; omega
  go_enter Try.func5, Try.ntmps5
  go_wp2_with fail
  refine (up_any w).mono ?_
  rintro e w1 ⟨rfl, hb1⟩
  have hb0 := Buf.fresh w w1 hb1
  have hl1 : Lies (w1.alloc (.cells #[] 5)) a l := hl.below (hb1.alloc hb1.size _) (Nat.le_refl _)
  have hlen1 : ([] ++ l).length + twelve.length ≤ 140737488355328 := by
    have h1 := HK.out
    have h2 : twelve.length = 12 := rfl
    rw [List.nil_append, h2]; omega
  obtain ⟨O, hO⟩ : ∃ O : ByteArray, O = ⟨([] ++ l ++ twelve).toArray⟩ := ⟨_, rfl⟩
  have HO : Hid (O = ⟨([] ++ l ++ twelve).toArray⟩) := hO
  clear hO
  go_wp2_with (first | (at_builtin; refine wpList_bytes_any rfl (.tmp 24) (.tmp 25) rfl w.heap.size _ [] rfl w hb0 l a k cap rfl HK.out hl1 hnil hkc hlen0 ?_; intro v2 w2 hb2) | (at_builtin; refine wpList_bytes rfl (.tmp 26) (.tmp 27) rfl w.heap.size _ ([] ++ l) rfl w (hb2.alloc _) twelve ⟨w2.heap.size, 0, none⟩ 12 rfl (twelve_lies w2) hlen1 ?_; intro v3 w3 hb3; obtain ⟨a3, k3, cap3, rfl, HK3, hlc3, hx3, _⟩ := hb3.words; have hkk : k ≤ k3 := (by rw [HK3.out, HK.out]; simp); have cO := conv_named (cap := cap3) hx3 HK3.out HO.out))
  have hE3 : Below w.heap.size w w3 := hb3.2.1
  have hl3 : Lies w3 a3 l := by
    have := hx3.take k
    rw [List.nil_append, HK.out, List.take_left] at this
    exact this
  clear hl hl1 hb0 hb2 hb3 hlen0 hlen1 hb1
  have hc3 : Calls Try.prog 7 #[.slice a3 k cap3, .int .u64 n] w3 fun e w' => ∃ v', e = .returned v' ∧ Buf w3.heap.size v' (l ++ digs n) w3 w' := by
    rw [HK.out]; exact num_any a3 l cap3 n w3 hl3 (by rw [← HK.out]; omega) hn
  refine hc3.mono ?_
  rintro e w4 ⟨v4, rfl, hb4⟩
  clear hc3
  obtain ⟨a4, k4, cap4, rfl, HK4, hlc4, hx4, _⟩ := hb4.words
  have hE4 : Below w3.heap.size w3 w4 := hb4.2.1
  clear hb4
  have hl4 : Lies w4 a3 l := hl3.below hE4 (Nat.le_refl _)
  have hx34 : Lies w4 a3 ([] ++ l ++ twelve) := hx3.below hE4 (Nat.le_refl _)
  go_wp2_with fail
  have hc4 : Calls Try.prog 8 #[.slice a3 k cap3, .string s] w4 fun e w' => ∃ v', e = .returned v' ∧ Buf w4.heap.size v' (l ++ digs s.size ++ s.data.toList) w4 w' := by
    rw [HK.out]; exact text_any a3 l cap3 s w4 hl4 (by rw [← HK.out]; omega) (by omega)
  refine hc4.mono ?_
  rintro e w5 ⟨v5, rfl, hb5⟩
  clear hc4
  obtain ⟨a5, k5, cap5, rfl, HK5, hlc5, hx5, hg5⟩ := hb5.words
  have hds : (digs s.size).length ≤ 10 := digs_len10 (by omega)
  have hsl : s.data.toList.length = s.size := by simp
  have hk5 : 0 < k5 ∧ k5 ≤ 30000 := by
    rw [HK5.out, List.length_append, List.length_append, hsl, ← HK.out]
    have := digs_pos s.size
    omega
  obtain ⟨hk5a, hk5b⟩ := hk5
  obtain ⟨g5, rfl, hB5⟩ := hg5 hk5a
  obtain ⟨X, hX⟩ : ∃ X : ByteArray, X = ⟨(l ++ digs n).toArray⟩ := ⟨_, rfl⟩
  have cX := conv_named (cap := cap4) (hx4.below hb5.2.1 (Nat.le_refl _)) HK4.out hX
  have HX : Hid (∀ w', Below w4.heap.size w4 w' → (convert 22 9 (.slice a4 k4 cap4)).run Try.prog w' = .ok (.string X) w') := fun w' h => conv_named (hx4.below h (Nat.le_refl _)) HK4.out hX
  have HOO : Hid (∀ w', Below w4.heap.size w4 w' → (convert 22 9 (.slice a3 k3 cap3)).run Try.prog w' = .ok (.string O) w') := fun w' h => conv_named (hx34.below h (Nat.le_refl _)) HK3.out HO.out
  have HE : Hid (Below w.heap.size w w4) := hE3.trans (hE4.mono hE3.size)
  clear hsl hds hl3 hx3 hl4 hx34 hx4 hx5 hX cO hE3 hE4 hkk
  go_wp2
  go_loopw [13] (fun i wr => ∃ (j : Nat) (yl : List UInt8), j ≤ k5 ∧ i = .int .i64 j ∧ k5 = yl.length ∧ Buf w4.heap.size (.slice (some ⟨g5, 0, none⟩) k5 cap5) yl w4 wr) (fun i _ => k5 - (intOf i).toNat)
  case atStart => exact ⟨0, _, Nat.zero_le _, rfl, HK5.out, hb5⟩
  case round =>
    obtain ⟨j, yl, hj, rfl, hyl, hbr⟩ := hrel
    have HY : Hid (k5 = yl.length) := hyl
    clear hyl
    by_cases hlt : j < k5
    · obtain ⟨d, hd, hcell, hfr⟩ := hbr.at_ HY.out j hlt
      obtain ⟨c, hc⟩ : ∃ c : Nat, c = (d + 1) % 256 := ⟨_, rfl⟩
      have hc256 : c < 256 := by omega
      have hwr : IntKind.u8.wrap ((d : Int) + 1) = (c : Int) := by rw [IntKind.wrap_u8, hc]; omega
      clear hc
      obtain ⟨yl', hy', hb'⟩ := hbr.set HY.out hB5 j c hc256
      have HY' : Hid (k5 = yl'.length) := hy'
      clear hbr hy'
      go_wp2
      go_roundw
      case rel => exact ⟨j + 1, yl', by omega, by go_num, HY'.out, hb'⟩
      case measure => simp [intOf]; omega
    · have hbw : Below w4.heap.size w4 wr := hbr.2.1
      have cX' := HX.out wr hbw
      have cO' := HOO.out wr hbw
      have hE : Below w.heap.size w wr := HE.out.trans (hbw.mono HE.out.size)
      clear hbr hbw
      go_wp2
      go_ret
      exact ⟨rfl, hE⟩

set_option maxHeartbeats 400000 in
theorem wireStays_far (a : Option Addr) (cap k n : Nat) (s : ByteArray) (w : World) (hs : s.size ≤ maxLen) (h : 10000 < k ∨ 10000 < s.size) :
    Calls Try.prog 5 #[.slice a k cap, .int .u64 n, .string s] w fun e w' => e = .returned (.bool true) ∧ Below w.heap.size w w' := by
  unfold maxLen at hs
  have h' : (10000 < k) ∨ (k ≤ 10000 ∧ 10000 < s.size) := by omega
  clear h
  rcases h' with h | ⟨h1, h2⟩
  all_goals
    go_enter Try.func5, Try.ntmps5
    go_wp2_with fail
    refine (up_any w).mono ?_
    rintro e w1 ⟨rfl, hb1⟩
    go_wp2
    go_ret
    exact ⟨rfl, hb1⟩
end Go.Proofs.Ytiackikomefcfaa
