/-
  The contracts of what writes: wire.appendNum, wire.withRoom, wire.Num, wire.Text, and the document's own Num and Text.
-/
import Derived.Test.YtbcemghkmmbmdaaBuf
namespace Go.Proofs.Ytbcemghkmmbmdaa
open Go.RowKit

theorem and127 {m : Nat} (h : m < 18446744073709551616) : bits .and .u64 (m : Int) 127 = (m : Int) % 128 := by
  have := bits_and_u64_nat m 127 h (by decide)
  rw [show ((127 : Nat) : Int) = 127 from rfl] at this
  rw [this]
  rw [show (127 : Nat) = 2 ^ 7 - 1 from rfl, Nat.and_two_pow_sub_one_eq_mod]
  simp

theorem or128 {m : Nat} : bits .or .u8 ((m : Int) % 128) 128 = (m : Int) % 128 + 128 := by
  have h1 : (m : Int) % 128 = ((m % 128 : Nat) : Int) := by omega
  rw [h1]
  have := (bits_nat .u8 8 (by decide) wraps_u8 (m % 128) 128 (by omega) (by decide)).2
  rw [show ((128 : Nat) : Int) = 128 from rfl] at this
  rw [this, Nat.or_comm]
  have h2 := Nat.two_pow_add_eq_or_of_lt (i := 7) (b := m % 128) (by omega) 1
  rw [show 2 ^ 7 * 1 = 128 from rfl] at h2
  rw [← h2]
  omega

set_option maxHeartbeats 400000 in
theorem appendNum_any (B : Nat) (v : Value) (l : List UInt8) (n : Nat) (W0 w : World) (hb : Buf B v l W0 w) (hn : n < 18446744073709551616) (hl : l.length ≤ 100000000000000) :
    Calls Try.prog 91 #[v, .int .u64 n] w fun e w' => ∃ v', e = .returned v' ∧ Buf B v' (l ++ digs n) W0 w' := by
  go_enter Try.func91, Try.ntmps91
  go_wp2
  go_loopw [0, 1] (fun s t wr => ∃ (xs : List UInt8) (m : Nat), t = .int .u64 m ∧ m ≤ n ∧ l ++ digs n = xs ++ digs m ∧ Buf B s xs W0 wr) (fun _ t _ => (intOf t).toNat)
  case atStart => exact ⟨l, n, rfl, Nat.le_refl _, rfl, hb⟩
  case round =>
    obtain ⟨xs, m, rfl, hm, hd, hbr⟩ := hrel
    have hlen : xs.length + 1 ≤ 140737488355328 := by
      have h1 := congrArg List.length hd
      have h2 := digs_len10 hn
      simp only [List.length_append] at h1
      omega
    have HD : Hid (l ++ digs n = xs ++ digs m) := hd
    clear hd
    have ha := and127 (m := m) (by omega)
    have ho := or128 (m := m)
    by_cases hlt : 127 < m
    · have hd : (UInt8.ofNat (m % 128 + 128)).toNat = m % 128 + 128 := u8_small (by omega)
      go_wp2_with (at_builtin; refine wpList_byte rfl (.tmp 7) (.tmp 12) rfl B _ xs rfl W0 wr _ (UInt8.ofNat (m % 128 + 128)) (by rw [u8_small (by omega)]; omega) hbr rfl hlen ?_; intro v' w1 hb1)
      clear hbr
      go_wp2
      go_roundw
      case rel => exact ⟨xs ++ [UInt8.ofNat (m % 128 + 128)], m / 128, by go_num, by omega, by rw [HD.out, digs_big (by omega)]; simp, hb1⟩
      case measure => simp [intOf]; omega
    · go_wp2_with (at_builtin; refine wpList_byte rfl (.tmp 16) (.tmp 19) rfl B _ xs rfl W0 wr _ (UInt8.ofNat m) (by rw [u8_small (by omega)]) hbr rfl hlen ?_; intro v1 w1 hb1)
      clear hbr
      go_wp2
      go_ret
      exact ⟨_, rfl, by rw [HD.out, digs_small (by omega)]; exact hb1⟩

theorem splice_take (cur cs : List Value) (n : Nat) (h : cs.length = n) : (splice cur 0 cs).take n = cs := by
  subst h; simp [splice]

/-- New room with the bytes copied into it. -/
theorem Buf.made {B cap : Nat} {l : List UInt8} {W0 w w2 : World} {cur : List Value} (hg : w2.heap[w.heap.size]? = some (.cells (splice cur 0 (bv l)).toArray 5 (0, 0))) (hb : Below B W0 w2)
    (hB : B ≤ w.heap.size) (hc : cur.length = cap) (hl : l.length ≤ cap) (hm : cap ≤ maxLen) : Buf B (.slice (some ⟨w.heap.size, 0, none⟩) l.length cap) l W0 w2 := by
  have hlt : w.heap.size < w2.heap.size := (Array.getElem?_eq_some_iff.1 hg).1
  refine ⟨⟨by simp [bv], Or.inr ⟨w.heap.size, cap, (splice cur 0 (bv l)).toArray, rfl, hB, hg, hl, hm, ?_, ?_⟩⟩, hb, by omega⟩
  · have := length_splice cur 0 (bv l) (by rw [bv_len]; omega)
    simp [this, hc]
  · simpa using splice_take cur (bv l) l.length (bv_len l)

set_option maxHeartbeats 400000 in
theorem withRoom_any (a : Option Addr) (l : List UInt8) (cap r : Nat) (w : World) (hl : Lies w a l) (hr : l.length + r ≤ 100000000000000) :
    Calls Try.prog 92 #[.slice a l.length cap, .int .i64 r] w fun e w' => ∃ v', e = .returned v' ∧ Buf w.heap.size v' l w w' := by
  obtain ⟨i0, hi, hz0, hz1, hz2⟩ := info_parts info5
  obtain ⟨n, hn⟩ : ∃ n, n = l.length := ⟨_, rfl⟩
  have HN : Hid (n = l.length) := hn
  rw [← hn] at hr ⊢
  have hmk := run_make (P := Try.prog) w 31 5 i0 (.int .u8 0) Try.underlying31 hi hz0 .i64 .i64 (n : Int) ((n : Int) + (r : Int)) (by omega) (by omega) (by rw [hz2]; omega) (by omega)
  rw [hz1] at hmk
  have hsz : (Try.prog.info? 5).map (·.size) = some 1 := by rw [hi, Option.map_some, hz1]
  have hcur : (madeCells #[Value.int .u8 0] (n + r)).toList.length = n + r := by
    have := size_madeCells #[Value.int .u8 0] (n + r)
    simpa using this
  have hheap : (w.alloc (.cells (madeCells #[Value.int .u8 0] (n + r)) 5)).heap[w.heap.size]? = some (.cells (madeCells #[Value.int .u8 0] (n + r)).toList.toArray 5 (0, 0)) := by
    rw [Array.toArray_toList]; exact heap_alloc_new w _
  have hcs : (bv l).length = Nat.min n n := by rw [bv_len, hn]; simp
  have hpos : 0 < (bv l).length → (some ⟨w.heap.size, 0, none⟩ : Option Addr) = some ⟨w.heap.size, 0, none⟩ ∧ ∃ ad, a = some ad ∧ ∀ j v, (bv l)[j]? = some v → (w.alloc (.cells (madeCells #[Value.int .u8 0] (n + r)) 5)).cell? (ad.add j) = some v := by
    intro h0
    refine ⟨rfl, ?_⟩
    rcases hl with rfl | ⟨x, rfl, hx⟩
    · simp [bv] at h0
    · exact ⟨x, rfl, fun j u hj => by rw [World.cell?_alloc_lt _ _ _ (World.block_lt_of_cell? w _ (hx j u hj))]; exact hx j u hj⟩
  have hfit : 0 + (bv l).length ≤ (madeCells #[Value.int .u8 0] (n + r)).toList.length := by rw [hcur, bv_len]; omega
  have hbel : Below w.heap.size w (w.alloc (.cells (madeCells #[Value.int .u8 0] (n + r)) 5)) := (Below.refl _ _).alloc (Nat.le_refl _) _
  have H1 : Hid (_ = _) := hheap
  have H2 : Hid (_ = _) := hcs
  have H3 : Hid (_ = _) := hsz
  have H4 : Hid (_ = _) := hcur
  clear hz0 hz1 hz2 hi hn hheap hcs hsz hcur
  go_enter Try.func92, Try.ntmps92
  go_wp2_with (refine wpList_copy_splice rfl (.tmp 13) (.tmp 14) 31 31 rfl 5 Try.underlying31 H3.out (some ⟨w.heap.size, 0, none⟩) a n (n + r) n cap rfl rfl w.heap.size 0 (madeCells #[Value.int .u8 0] (n + r)).toList 5 H1.out (bv l) H2.out hpos hfit (bv_one l) w.heap.size w hbel (Nat.le_refl _) ?_; intro w2 hg2 hb2)
  clear hpos hfit hbel
  go_wp2
  go_ret
  refine ⟨_, rfl, ?_⟩
  have hm := Buf.made hg2.out hb2 (Nat.le_refl _) H4.out (by have := HN.out; omega) (by unfold maxLen; omega)
  rw [← HN.out] at hm
  exact hm

set_option maxHeartbeats 400000 in
theorem num_any (a : Option Addr) (l : List UInt8) (cap n : Nat) (w : World) (hl : Lies w a l) (hr : l.length ≤ 40000000000000) (hn : n < 18446744073709551616) :
    Calls Try.prog 84 #[.slice a l.length cap, .int .u64 n] w fun e w' => ∃ v', e = .returned v' ∧ Buf w.heap.size v' (l ++ digs n) w w' := by
  go_enter Try.func84, Try.ntmps84
  go_wp2_with (first | (go_at_call 92; refine (withRoom_any a l cap 10 w hl (by omega)).mono ?_; rintro e w1 ⟨v1, rfl, hb1⟩) | (go_at_call 91; refine (appendNum_any w.heap.size v1 l n w _ hb1 hn (by omega)).mono ?_; rintro e w2 ⟨v2, rfl, hb2⟩))
  go_ret
  exact ⟨_, rfl, hb2⟩

set_option maxHeartbeats 400000 in
theorem text_any (a : Option Addr) (l : List UInt8) (cap : Nat) (s : ByteArray) (w : World) (hl : Lies w a l) (hr : l.length ≤ 40000000000000) (hs : s.size ≤ 40000000000000) :
    Calls Try.prog 85 #[.slice a l.length cap, .string s] w fun e w' => ∃ v', e = .returned v' ∧ Buf w.heap.size v' (l ++ digs s.size ++ s.data.toList) w w' := by
  have hdl : (digs s.size).length ≤ 10 := digs_len10 (by omega)
  have hlen : (l ++ digs s.size).length + s.size ≤ 140737488355328 := by simp only [List.length_append]; omega
  have ec : (10 : Int) + (s.size : Int) = ((10 + s.size : Nat) : Int) := by omega
  have HC : Hid ((10 : Int) + (s.size : Int) = ((10 + s.size : Nat) : Int)) := ec
  clear ec
  go_enter Try.func85, Try.ntmps85
  go_wp2_with (first | (go_at_call 92; rw [HC.out]; refine (withRoom_any a l cap (10 + s.size) w hl (by omega)).mono ?_; rintro e w1 ⟨v1, rfl, hb1⟩) | (go_at_call 91; refine (appendNum_any w.heap.size v1 l s.size w _ hb1 (by omega) (by omega)).mono ?_; rintro e w2 ⟨v2, rfl, hb2⟩) | (at_builtin; refine wpList_text rfl (.tmp 15) (.tmp 16) rfl w.heap.size _ (l ++ digs s.size) rfl w hb2 s rfl hlen ?_; intro v3 w3 hb3))
  go_ret
  exact ⟨_, rfl, hb3⟩

set_option maxHeartbeats 400000 in
/-- The document's own bytes of a number. -/
theorem refNum_any (n : Nat) (w : World) (hn : n < 18446744073709551616) :
    Calls Try.prog 64 #[.int .u64 n] w fun e w' => ∃ v', e = .returned v' ∧ Buf w.heap.size v' (digs n) w w' := by
  go_enter Try.func64, Try.ntmps64
  go_wp2
  go_loopw [3, 0] (fun s t wr => ∃ (xs : List UInt8) (m : Nat), t = .int .u64 m ∧ m ≤ n ∧ digs n = xs ++ digs m ∧ Buf w.heap.size s xs w wr) (fun _ t _ => (intOf t).toNat)
  case atStart => exact ⟨[], n, rfl, Nat.le_refl _, rfl, ⟨World.ownsRow_nil _ _ _ _, Below.refl _ _, Nat.le_refl _⟩⟩
  case round =>
    obtain ⟨xs, m, rfl, hm, hd, hbr⟩ := hrel
    have hlen : xs.length + 1 ≤ 140737488355328 := by
      have h1 := congrArg List.length hd
      have h2 := digs_len10 hn
      simp only [List.length_append] at h1
      omega
    have HD : Hid (digs n = xs ++ digs m) := hd
    clear hd
    by_cases hlt : 127 < m
    · go_wp2_with (at_builtin; refine wpList_byte rfl (.tmp 6) (.tmp 11) rfl w.heap.size _ xs rfl w wr _ (UInt8.ofNat (m % 128 + 128)) (by rw [u8_small (by omega)]; omega) hbr rfl hlen ?_; intro v' w1 hb1)
      clear hbr
      go_wp2
      go_roundw
      case rel => exact ⟨xs ++ [UInt8.ofNat (m % 128 + 128)], m / 128, by go_num, by omega, by rw [HD.out, digs_big (by omega)]; simp, hb1⟩
      case measure => simp [intOf]; omega
    · go_wp2_with (at_builtin; refine wpList_byte rfl (.tmp 15) (.tmp 18) rfl w.heap.size _ xs rfl w wr _ (UInt8.ofNat m) (by rw [u8_small (by omega)]) hbr rfl hlen ?_; intro v' w1 hb1)
      clear hbr
      go_wp2
      go_ret
      exact ⟨_, rfl, by rw [HD.out, digs_small (by omega)]; exact hb1⟩

set_option maxHeartbeats 400000 in
theorem refText_any (s : ByteArray) (w : World) (hs : s.size ≤ 40000000000000) :
    Calls Try.prog 31 #[.string s] w fun e w' => ∃ v', e = .returned v' ∧ Buf w.heap.size v' (digs s.size ++ s.data.toList) w w' := by
  have hdl : (digs s.size).length ≤ 10 := digs_len10 (by omega)
  have hlen : (digs s.size).length + s.size ≤ 140737488355328 := by omega
  go_enter Try.func31, Try.ntmps31
  go_wp2_with (first | (go_at_call 64; refine (refNum_any s.size w (by omega)).mono ?_; rintro e w2 ⟨v2, rfl, hb2⟩) | (at_builtin; refine wpList_text rfl (.tmp 6) (.tmp 7) rfl w.heap.size _ (digs s.size) rfl w hb2 s rfl hlen ?_; intro v3 w3 hb3))
  go_ret
  exact ⟨_, rfl, hb3⟩
end Go.Proofs.Ytbcemghkmmbmdaa
