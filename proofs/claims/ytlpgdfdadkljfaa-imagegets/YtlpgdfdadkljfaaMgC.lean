/-
  Contracts that the walks stand on, several texts in one: Shelf, RtPath, RtAns, RtUnder, OrLeaf, OrKeys.
-/
import Derived.Shelf.LaysM
import Derived.Shelf.Strconv.Clone
import Derived.Shelf.Slices.Equal
import Derived.Shelf.Slices.Empties2
import Derived.Test.YtlpgdfdadkljfaaProg
import Derived.Test.YtlpgdfdadkljfaaMgB
import Derived.Test.YtlpgdfdadkljfaaMgA

/-
  The library's contracts that this seat's walks take, at this program's numbers.
-/
namespace Go.Proofs
open Go.Shelf
def Try.laysM316_ren : Go.Shelf.Ren := ⟨fun | 316 => 58 | n => n, fun | 9 => 9 | 3 => 3 | 4 => 4 | 37 => 30 | 0 => 0 | 127 => 116 | 5 => 5 | n => n, fun | n => n⟩
theorem Try.laysM316 : Go.Proofs.LaysM.n316 Try.prog Try.laysM316_ren := {
  mixed := by kernel_rfl
  f316 := Try.func58.trans (congrArg some (by kernel_rfl))
  t0 := Try.underlying0
  a0 := Try.isAgg0
  z0 := Try.sizeOf0
  v0 := Try.zeroValue0
  t3 := Try.underlying3
  a3 := Try.isAgg3
  z3 := Try.sizeOf3
  v3 := Try.zeroValue3
  t4 := Try.underlying4
  a4 := Try.isAgg4
  z4 := Try.sizeOf4
  v4 := Try.zeroValue4
  t9 := Try.underlying9
  a9 := Try.isAgg9
  z9 := Try.sizeOf9
  v9 := Try.zeroValue9
  t37 := Try.underlying30
  a37 := Try.isAgg30
  z37 := Try.sizeOf30
  v37 := Try.zeroValue30
  t127 := Try.underlying116
  a127 := Try.isAgg116
  z127 := Try.sizeOf116
  v127 := Try.zeroValue116
  t5 := Try.underlying5
  a5 := Try.isAgg5
  z5 := Try.sizeOf5
  v5 := Try.zeroValue5
  i0 := by kernel_rfl
  i3 := by kernel_rfl
  i4 := by kernel_rfl
  i5 := by kernel_rfl
  i9 := by kernel_rfl
  i37 := by kernel_rfl
  i127 := by kernel_rfl }
open Go.RowKit in
theorem Try.stringslite_Clone (s : ByteArray) (w : World) (hlim : s.size ≤ 281474976710656) :
    Calls Try.prog 58 #[.string s] w fun e w' => e = .returned (.string s) ∧ Below w.heap.size w w' := Any.stringslite_Clone Try.laysM316 s w hlim
def Try.lays193_ren : Go.Shelf.Ren := ⟨fun | 193 => 82 | n => n, fun | 31 => 33 | 9 => 9 | 4 => 4 | 3 => 3 | 0 => 0 | n => n, fun | n => n⟩
theorem Try.lays193 : Go.Proofs.Lays.n193 Try.prog Try.lays193_ren := {
  mixed := by kernel_rfl
  f193 := Try.func82.trans (congrArg some (by kernel_rfl))
  t0 := Try.underlying0
  a0 := Try.isAgg0
  z0 := Try.sizeOf0
  v0 := Try.zeroValue0
  t3 := Try.underlying3
  a3 := Try.isAgg3
  z3 := Try.sizeOf3
  v3 := Try.zeroValue3
  t4 := Try.underlying4
  a4 := Try.isAgg4
  z4 := Try.sizeOf4
  v4 := Try.zeroValue4
  t9 := Try.underlying9
  a9 := Try.isAgg9
  z9 := Try.sizeOf9
  v9 := Try.zeroValue9
  t31 := Try.underlying33
  a31 := Try.isAgg33
  z31 := Try.sizeOf33
  v31 := Try.zeroValue33 }
open Go.RowKit Go.Lib in
theorem Try.slices_Equal_string (b1 o1 n c b2 o2 m d : Nat) (xs ys : List ByteArray) (w : World) (hx : n ≤ xs.length) (hy : m ≤ ys.length) (hbig : n ≤ 9223372036854775807) (hbig2 : m ≤ 9223372036854775807) (hc1 : ∀ j, j < xs.length → w.cell? ⟨b1, o1 + j, none⟩ = some (.string (xs.getD j ByteArray.empty))) (hc2 : ∀ j, j < ys.length → w.cell? ⟨b2, o2 + j, none⟩ = some (.string (ys.getD j ByteArray.empty))) :
    Calls Try.prog 82 #[.slice (some ⟨b1, o1, none⟩) n c, .slice (some ⟨b2, o2, none⟩) m d] w fun e w' => e = .returned (.bool (decide (xs.take n = ys.take m))) ∧ ∃ q, w' = w.drewN q := Any.slices_Equal_string Try.lays193 b1 o1 n c b2 o2 m d xs ys w hx hy hbig hbig2 hc1 hc2
open Go.RowKit Go.Lib in
theorem Try.slices_Equal_string_empty (a1 a2 : Option Addr) (c m d : Nat) (w : World) (hbig2 : m ≤ 9223372036854775807) :
    Calls Try.prog 82 #[.slice a1 0 c, .slice a2 m d] w fun e w' => e = .returned (.bool (decide (m = 0))) ∧ w' = w := Any.slices_Equal_string_empty Try.lays193 a1 a2 c m d w hbig2
open Go.RowKit Go.Lib in
theorem Try.slices_Equal_string_lens (a1 a2 : Option Addr) (n c m d : Nat) (w : World) (hnm : n ≠ m) :
    Calls Try.prog 82 #[.slice a1 n c, .slice a2 m d] w fun e w' => e = .returned (.bool false) ∧ w' = w := Any.slices_Equal_string_lens Try.lays193 a1 a2 n c m d w hnm
end Go.Proofs

/-
  Parts in one text: the program's 'newPath' and 'Join', and the document's test of a path.
-/
namespace Go.Proofs.Ytlpgdfdadkljfaa.Route
open Go.RowKit

set_option maxHeartbeats 1000000 in
theorem clone_any (s : ByteArray) (w : World) (hs : s.size ≤ 140737488355328) :
    Calls Try.prog 42 #[.string s] w fun e w' => e = .returned (.string s) ∧ Below w.heap.size w w' := by
  go_enter Try.func42, Try.ntmps42
  go_wp2_with fail
  refine (Try.stringslite_Clone s w (by omega)).mono ?_
  rintro e w1 ⟨rfl, hb⟩
  go_wp2
  go_ret
  exact ⟨rfl, hb⟩

theorem extract_size_le (s : ByteArray) (i j : Nat) : (s.extract i j).size ≤ s.size := by
  rw [ByteArray.size_extract]; omega

theorem pieces_size (s : ByteArray) (fuel start i : Nat) : ∀ x ∈ pieces s fuel start i, x.size ≤ s.size := by
  induction fuel generalizing start i with
  | zero => intro x hx; simp [pieces] at hx; subst hx; exact extract_size_le _ _ _
  | succ f ih =>
    intro x hx
    simp only [pieces] at hx
    split at hx
    · split at hx
      · rcases List.mem_cons.1 hx with rfl | hx
        · exact extract_size_le _ _ _
        · exact ih _ _ x hx
      · exact ih _ _ x hx
    · simp at hx; subst hx; exact extract_size_le _ _ _

theorem pieces_count (s : ByteArray) (fuel start i : Nat) : (pieces s fuel start i).length ≤ fuel + 1 := by
  induction fuel generalizing start i with
  | zero => simp [pieces]
  | succ f ih =>
    simp only [pieces]
    split
    · split
      · have := ih (i + 1) (i + 1); simp only [List.length_cons]; omega
      · have := ih start (i + 1); omega
    · simp

theorem parts_count (s : ByteArray) : (parts s).length ≤ s.size + 1 := pieces_count s _ _ _
theorem parts_size (s : ByteArray) : ∀ x ∈ parts s, x.size ≤ s.size := pieces_size s _ _ _

set_option maxHeartbeats 1000000 in
theorem path_any (s : ByteArray) (w : World) (hs : s.size ≤ 100000) :
    Calls Try.prog 35 #[.string s] w fun e w' => e = .returned (.bool (isPath s)) ∧ Below w.heap.size w w' := by
  obtain ⟨n, hn⟩ : ∃ n, n = (parts s).length := ⟨_, rfl⟩
  have hnn : n ≤ 100001 := by rw [hn]; have := parts_count s; omega
  have h2 : Hid (∀ a1 cap1 w1, Lies w1 a1 (parts s) → Calls Try.prog 50 #[.slice a1 n cap1] w1 fun e w' => e = .returned (.bool (isPath s)) ∧ w1 = w') := fun a1 cap1 w1 h1 =>
    refParts_any a1 (parts s) n cap1 w1 hn h1 (by omega) (fun x hx => by have := parts_size s x hx; omega)
  have HN : Hid (n = (parts s).length) := hn
  clear hn
  generalize isPath s = r at h2
  go_enter Try.func35, Try.ntmps35
  go_wp2_with (first | (go_at_call 51; refine (split_any s w hs).mono ?_; rintro e w1 ⟨v, rfl, hb⟩; obtain ⟨a1, cap1, rfl, hc1, hcm1, hl1⟩ := hb.liesN HN.out) | (go_at_call 50; refine (h2.out _ _ _ hl1).mono ?_; rintro e w2 ⟨rfl, rfl⟩))
  go_ret
  exact ⟨rfl, hb.2.1⟩
end Go.Proofs.Ytlpgdfdadkljfaa.Route

/-
  The program's answers: 'Check', 'Parts', 'Parent', 'Under', each for every text; and the document's 'Under'.
-/
namespace Go.Proofs.Ytlpgdfdadkljfaa.Route
open Go.RowKit

theorem cut_ok (s : ByteArray) (w : World) (hs : s.size ≤ 100000) (hp : isPath s = true) :
    Calls Try.prog 68 #[.string s] w fun e w' => ∃ v, e = .returned (.tuple #[v, .bool true]) ∧ Strs w.heap.size v (parts s) w w' := by
  have := cut_any s w hs
  rw [hp, if_pos rfl] at this
  exact this

theorem cut_no (s : ByteArray) (w : World) (hs : s.size ≤ 100000) (hp : isPath s = false) :
    Calls Try.prog 68 #[.string s] w fun e w' => ∃ v, e = .returned (.tuple #[v, .bool false]) ∧ Below w.heap.size w w' := by
  have := cut_any s w hs
  rw [hp] at this
  refine this.mono ?_
  rintro e w1 ⟨v, rfl, hb⟩
  exact ⟨v, rfl, hb.2.1⟩

theorem path_len {s : ByteArray} (hp : isPath s = true) : 1 ≤ (parts s).length ∧ (parts s).length ≤ 8 := by
  simp only [isPath, arePath, Bool.and_eq_true, decide_eq_true_eq] at hp
  exact hp.1

set_option maxHeartbeats 1000000 in
theorem check_ok (s : ByteArray) (w : World) (hs : s.size ≤ 100000) (hp : isPath s = true) :
    Calls Try.prog 78 #[.string s] w fun e w' => e = .returned .nilIface ∧ Below w.heap.size w w' := by
  go_enter Try.func78, Try.ntmps78
  go_wp2_with (go_at_call 68; refine (cut_ok s w hs hp).mono ?_; rintro e w1 ⟨v, rfl, hb⟩)
  go_ret
  exact ⟨rfl, hb.2.1⟩

set_option maxHeartbeats 1000000 in
theorem check_no (s : ByteArray) (w : World) (hs : s.size ≤ 100000) (hp : isPath s = false) :
    Calls Try.prog 78 #[.string s] w fun e w' => e = .returned (.iface 36 (.int .i64 2)) ∧ Below w.heap.size w w' := by
  go_enter Try.func78, Try.ntmps78
  go_wp2_with (go_at_call 68; refine (cut_no s w hs hp).mono ?_; rintro e w1 ⟨v, rfl, hb⟩)
  go_ret
  exact ⟨rfl, hb⟩

set_option maxHeartbeats 1000000 in
theorem parts_no (s : ByteArray) (w : World) (hs : s.size ≤ 100000) (hp : isPath s = false) :
    Calls Try.prog 52 #[.string s] w fun e w' => e = .returned (.tuple #[.slice none 0 0, .iface 36 (.int .i64 2)]) ∧ Below w.heap.size w w' := by
  go_enter Try.func52, Try.ntmps52
  go_wp2_with (go_at_call 68; refine (cut_no s w hs hp).mono ?_; rintro e w1 ⟨v, rfl, hb⟩)
  go_ret2
  exact ⟨rfl, hb⟩

theorem sv_set (l : List ByteArray) (j : Nat) (x : ByteArray) (hj : j < l.length) (hx : x = l.getD j ByteArray.empty) : (sv l).set j (.string x) = sv l := by
  have h : (sv l)[j]? = some (.string x) := by rw [sv_at l j hj, hx]
  have hl : j < (sv l).length := by rw [sv_len]; exact hj
  have := List.getElem_of_getElem? h
  obtain ⟨h1, h2⟩ := this
  conv => rhs; rw [← List.set_getElem_self h1, h2]

set_option maxHeartbeats 4000000 in
set_option maxRecDepth 100000 in
theorem parts_ok (s : ByteArray) (w : World) (hs : s.size ≤ 100000) (hp : isPath s = true) :
    Calls Try.prog 52 #[.string s] w fun e w' => ∃ v, e = .returned (.tuple #[v, .nilIface]) ∧ Strs w.heap.size v (parts s) w w' := by
  have h1 := cut_ok s w hs hp
  have hlen := path_len hp
  have HS : Hid (∀ x ∈ parts s, x.size ≤ 140737488355328) := fun x hx => by have := parts_size s x hx; omega
  clear hp
  generalize parts s = l at *
  obtain ⟨n, hn⟩ : ∃ n, n = l.length := ⟨_, rfl⟩
  rw [← hn] at hlen
  have HN : Hid (n = l.length) := hn
  clear hn
  go_enter Try.func52, Try.ntmps52
  go_wp2_with (go_at_call 68; refine h1.mono ?_; rintro e w1 ⟨v, rfl, hb⟩; obtain ⟨g, cap, rfl, hnc, hcm, hBg, _, _⟩ := hb.formN HN.out (by omega))
  go_loopw [18] (fun t18 wr => ∃ j : Nat, t18 = .int .i64 j ∧ j ≤ n ∧ Strs w.heap.size (.slice (some ⟨g, 0, none⟩) n cap) l w wr) (fun t18 _ => n - (intOf t18).toNat)
  case atStart => exact ⟨0, rfl, by omega, hb⟩
  case round =>
    obtain ⟨j, rfl, hj, hbr⟩ := hrel
    by_cases hjn : j < n
    · have hjl : j < l.length := by rw [← HN.out]; exact hjn
      have hown := hbr.1
      rw [← HN.out] at hown
      have hcell : wr.cell? ⟨g, j, none⟩ = some (.string (l.getD j ByteArray.empty)) := by rw [hown.cellAt j (by omega), sv_at l j hjl]
      obtain ⟨x, hx⟩ : ∃ x, x = l.getD j ByteArray.empty := ⟨_, rfl⟩
      have hxs : x.size ≤ 140737488355328 := HS.out x (by rw [hx]; simp [List.getD_eq_getElem?_getD, List.getElem?_eq_getElem hjl])
      have hset := sv_set l j x hjl hx
      rw [← hx] at hcell
      clear hx hown
      go_wp2_with (go_at_call 42; refine (clone_any x wr hxs).mono ?_; rintro e w2 ⟨rfl, hb2⟩; have hbs := hbr.later hb2; have hown2 := hbs.1; rw [← HN.out] at hown2; have hfz := hown2.frozenAt j; have hst := hown2.stored j (.string x); have hcell2 := cell_later hb2 hcell)
      go_roundw
      case rel =>
        rw [hset] at hst
        exact ⟨j + 1, by go_num, by omega, hbs.grown (by rw [← HN.out]; exact hst.1) hst.2⟩
      case measure => simp [intOf]; omega
    · go_wp2
      go_ret2
      exact ⟨_, rfl, hbr⟩

theorem lens_le (l : List (List UInt8)) (M : Nat) (h : ∀ x ∈ l, x.length ≤ M) : Lib.lens l ≤ l.length * M := by
  induction l with
  | nil => simp [Lib.lens]
  | cons y l ih =>
    have h1 := h y (by simp)
    have h2 := ih (fun x hx => h x (by simp [hx]))
    simp only [Lib.lens, List.map_cons, List.sum_cons, List.length_cons] at h2 ⊢
    rw [Nat.succ_mul]
    omega

theorem join_len (l : List (List UInt8)) (M : Nat) (h : ∀ x ∈ l, x.length ≤ M) : (Lib.join l [47]).length ≤ l.length * (M + 1) := by
  cases l with
  | nil => simp [Lib.join_nil]
  | cons x r =>
    rw [Lib.join_length]
    have := lens_le (x :: r) M h
    simp only [List.length_cons, List.length_nil, Nat.zero_add, Nat.one_mul] at this ⊢
    rw [Nat.mul_succ]
    omega

theorem joined_size (l : List ByteArray) (M : Nat) (h : ∀ x ∈ l, x.size ≤ M) : (joined l).size ≤ l.length * (M + 1) := by
  have e : (joined l).size = (Lib.join (l.map (·.data.toList)) [47]).length := by simp [joined, ByteArray.size]
  rw [e]
  have := join_len (l.map (·.data.toList)) M (by
    intro x hx
    obtain ⟨y, hy, rfl⟩ := List.mem_map.1 hx
    have h1 := h y hy
    rw [Lib.size_eq] at h1
    exact h1)
  rw [List.length_map] at this
  exact this

/-- What the program tells for a path's parent. -/
def up (s : ByteArray) : ByteArray := joined ((parts s).take ((parts s).length - 1))

theorem Lies.take {w : World} {a : Option Addr} {l : List ByteArray} (h : Lies w a l) (m : Nat) : Lies w a (l.take m) := by
  rcases h with rfl | ⟨x, rfl, h⟩
  · exact Or.inl (by simp)
  · refine Or.inr ⟨x, rfl, fun j hj => ?_⟩
    rw [List.length_take] at hj
    rw [h j (by omega)]
    simp [List.getD_eq_getElem?_getD, show j < m by omega]
end Go.Proofs.Ytlpgdfdadkljfaa.Route

/-
  Whether a text is a path under another one: the program's answer and the document's, of every two texts.
-/
namespace Go.Proofs.Ytlpgdfdadkljfaa.Route
open Go.RowKit

set_option maxHeartbeats 4000000 in
set_option maxRecDepth 100000 in
theorem under_any (d s : ByteArray) (w : World) (hd : d.size ≤ 100000) (hs : s.size ≤ 100000) :
    Calls Try.prog 79 #[.string d, .string s] w fun e w' => e = .returned (.bool (isUnder d s)) ∧ Below w.heap.size w w' := by
  cases hpd : isPath d with
  | false =>
    have e : isUnder d s = false := by rw [isUnder, hpd]; rfl
    rw [e]
    go_enter Try.func79, Try.ntmps79
    go_wp2_with (go_at_call 68; refine (cut_no d w hd hpd).mono ?_; rintro e w1 ⟨v, rfl, hb⟩)
    go_ret
    exact ⟨rfl, hb⟩
  | true =>
    have hc1 := cut_ok d w hd hpd
    have hl1 := path_len hpd
    cases hps : isPath s with
    | false =>
      have e : isUnder d s = false := by rw [isUnder, hpd, hps]; rfl
      rw [e]
      have hc2 : Hid (∀ w1, _) := fun w1 => cut_no s w1 hs hps
      generalize parts d = l at *
      go_enter Try.func79, Try.ntmps79
      go_wp2_with fail
      refine hc1.mono ?_
      rintro e w1 ⟨v, rfl, hb⟩
      go_wp2_with fail
      refine (hc2.out w1).mono ?_
      rintro e w2 ⟨v2, rfl, hb2⟩
      go_wp2
      go_ret
      exact ⟨rfl, hb.2.1.trans (hb2.mono hb.2.2)⟩
    | true =>
      have hc2 : Hid (∀ w1, Calls Try.prog 68 #[.string s] w1 fun e w' => ∃ v, e = .returned (.tuple #[v, .bool true]) ∧ Strs w1.heap.size v (parts s) w1 w') := fun w1 => cut_ok s w1 hs hps
      have hl2 := path_len hps
      have e : isUnder d s = decide ((parts d).length < (parts s).length ∧ (parts s).take (parts d).length = parts d) := by rw [isUnder, hpd, hps]; rfl
      rw [e]
      clear e hpd hps
      generalize parts d = l at *
      generalize parts s = m at *
      obtain ⟨n, hn⟩ : ∃ n, n = l.length := ⟨_, rfl⟩
      obtain ⟨k, hk⟩ : ∃ k, k = m.length := ⟨_, rfl⟩
      rw [← hn, ← hk]
      rw [← hn] at hl1
      rw [← hk] at hl2
      have HN : Hid (n = l.length) := hn
      have HK : Hid (k = m.length) := hk
      clear hn hk
      by_cases hnk : n < k
      · have e : decide (n < k ∧ m.take n = l) = decide (m.take n = l.take n) := by
          rw [HN.out, List.take_length]
          exact decide_eq_decide.2 ⟨fun h => h.2, fun h => ⟨by rw [← HN.out]; exact hnk, h⟩⟩
        rw [e]
        clear e
        have heq : Hid (∀ g1 c1 g2 c2 W, (∀ j, j < m.length → W.cell? ⟨g1, 0 + j, none⟩ = some (.string (m.getD j ByteArray.empty))) → (∀ j, j < l.length → W.cell? ⟨g2, 0 + j, none⟩ = some (.string (l.getD j ByteArray.empty))) →
            Calls Try.prog 82 #[.slice (some ⟨g1, 0, none⟩) n c1, .slice (some ⟨g2, 0, none⟩) n c2] W fun e w' => e = .returned (.bool (decide (m.take n = l.take n))) ∧ ∃ q, w' = W.drewN q) := fun g1 c1 g2 c2 W h1 h2 =>
          Try.slices_Equal_string g1 0 n c1 g2 0 n c2 m l W (by rw [← HK.out]; omega) (by rw [← HN.out]; omega) (by omega) (by omega) h1 h2
        generalize decide (m.take n = l.take n) = r at *
        go_enter Try.func79, Try.ntmps79
        go_wp2_with fail
        refine hc1.mono ?_
        rintro e w1 ⟨v, rfl, hb⟩
        obtain ⟨g2, c2, rfl, hnc2, hcm2, hBg2, _, _⟩ := hb.formN HN.out (by omega)
        go_wp2_with fail
        refine (hc2.out w1).mono ?_
        rintro e w2 ⟨v2, rfl, hb2⟩
        obtain ⟨g1, c1, rfl, hnc1, hcm1, hBg1, _, hcs1⟩ := hb2.formN HK.out (by omega)
        have hbL := hb.later hb2.2.1
        have hcs2 : ∀ j, j < l.length → w2.cell? ⟨g2, 0 + j, none⟩ = some (.string (l.getD j ByteArray.empty)) := fun j hj => by
          have ho := hbL.1
          rw [← HN.out] at ho
          rw [Nat.zero_add, ho.cellAt j (by rw [HN.out]; omega), sv_at l j hj]
        have HC2 := hcs2
        have h23 := heq.out g1 c1 g2 c2 w2 (fun j hj => by rw [Nat.zero_add]; exact hcs1 j hj) hcs2
        clear hcs2 HC2 hcs1 heq hc1 hc2
        go_wp2_with fail
        refine h23.mono ?_
        rintro e w3 ⟨rfl, q, rfl⟩
        go_wp2
        go_ret
        exact ⟨rfl, below_drewN (hb.2.1.trans (hb2.2.1.mono hb.2.2)) q⟩
      · have e : decide (n < k ∧ m.take n = l) = false := decide_eq_false (fun h => hnk h.1)
        rw [e]
        clear e
        go_enter Try.func79, Try.ntmps79
        go_wp2_with fail
        refine hc1.mono ?_
        rintro e w1 ⟨v, rfl, hb⟩
        obtain ⟨g2, c2, rfl, hnc2, hcm2, hBg2, _, _⟩ := hb.formN HN.out (by omega)
        go_wp2_with fail
        refine (hc2.out w1).mono ?_
        rintro e w2 ⟨v2, rfl, hb2⟩
        obtain ⟨g1, c1, rfl, hnc1, hcm1, hBg1, _, hcs1⟩ := hb2.formN HK.out (by omega)
        clear hcs1
        go_wp2
        go_ret
        exact ⟨rfl, hb.2.1.trans (hb2.2.1.mono hb.2.2)⟩
end Go.Proofs.Ytlpgdfdadkljfaa.Route

/-
  The contracts of what is small: isWithin, asked, areKeys, isName; the answer's name and Same of two lists.
-/
namespace Go.Proofs.Ytlpgdfdadkljfaa.Order
open Go.RowKit Route

theorem eqNil (w : World) : (binOp .eql 27 .nilIface .nilIface).run Try.prog w = .ok (.bool true) w := by kernel_rfl
theorem neNil (w : World) : (binOp .neq 27 .nilIface .nilIface).run Try.prog w = .ok (.bool false) w := by kernel_rfl
theorem eqFormNil (w : World) : (binOp .eql 27 (.iface 36 (.int .i64 2)) .nilIface).run Try.prog w = .ok (.bool false) w := by kernel_rfl
theorem neFormNil (w : World) : (binOp .neq 27 (.iface 36 (.int .i64 2)) .nilIface).run Try.prog w = .ok (.bool true) w := by kernel_rfl
theorem eqArgNil (w : World) : (binOp .eql 27 (.iface 36 (.int .i64 1)) .nilIface).run Try.prog w = .ok (.bool false) w := by kernel_rfl
theorem neArgNil (w : World) : (binOp .neq 27 (.iface 36 (.int .i64 1)) .nilIface).run Try.prog w = .ok (.bool true) w := by kernel_rfl
theorem eqForm (w : World) : (binOp .eql 27 (.iface 36 (.int .i64 2)) (.iface 36 (.int .i64 2))).run Try.prog w = .ok (.bool true) w := by kernel_rfl
theorem neForm (w : World) : (binOp .neq 27 (.iface 36 (.int .i64 2)) (.iface 36 (.int .i64 2))).run Try.prog w = .ok (.bool false) w := by kernel_rfl
theorem eqArg (w : World) : (binOp .eql 27 (.iface 36 (.int .i64 1)) (.iface 36 (.int .i64 1))).run Try.prog w = .ok (.bool true) w := by kernel_rfl

theorem len_text (s : ByteArray) (z : Nat) (hz : z = s.size) (w : World) : (Builtin.len_ #[9] 3 #[.string s]).run Try.prog w = .ok (.int .i64 (z : Int)) w := by
  rw [run_len_string w 9 3 s Try.underlying9, hz]; rfl

/-- The fields that a kind asks for: name, path, keys, number. -/
def asks (k : Int) : Bool × Bool × Bool × Bool × Bool :=
  if k = 1 ∨ k = 3 ∨ k = 4 ∨ k = 7 then (true, false, false, false, true)
  else if k = 2 then (true, true, true, false, true)
  else if k = 6 then (true, true, false, false, true)
  else if k = 8 then (false, false, false, true, true)
  else if k = 5 ∨ k = 9 then (false, false, false, false, true)
  else (false, false, false, false, false)
end Go.Proofs.Ytlpgdfdadkljfaa.Order

/-
  The contract of areKeys, and of the answer's Same of two lists.
-/
namespace Go.Proofs.Ytlpgdfdadkljfaa.Order
open Go.RowKit Route

theorem keys_drop {l : List ByteArray} {k : Nat} (h : k < l.length) : (l.drop k).all keyOk = (keyOk (l.getD k ByteArray.empty) && (l.drop (k + 1)).all keyOk) := by
  rw [List.drop_eq_getElem_cons h, List.all_cons]
  simp [List.getD_eq_getElem?_getD, List.getElem?_eq_getElem h]

set_option maxHeartbeats 4000000 in
set_option maxRecDepth 100000 in
theorem sameL_any (a : Option Addr) (l : List ByteArray) (k cap : Nat) (a' : Option Addr) (m : List ByteArray) (k' cap' : Nat) (w : World) (hk : k = l.length) (hl : Route.Lies w a l) (hk' : k' = m.length) (hl' : Route.Lies w a' m) (hm : k ≤ 140737488355328) (hm' : k' ≤ 140737488355328) :
    Calls Try.prog 67 #[.slice a k cap, .slice a' k' cap'] w fun e w' => e = .returned (.bool (decide (l = m))) ∧ Below w.heap.size w w' := by
  by_cases hkk : k = k'
  · subst hkk
    by_cases h0 : k = 0
    · have e1 : l = [] := List.eq_nil_of_length_eq_zero (by omega)
      have e2 : m = [] := List.eq_nil_of_length_eq_zero (by omega)
      subst e1; subst e2; subst h0
      clear hk hk' hl hl'
      go_enter Try.func67, Try.ntmps67
      go_wp2
      go_loop [5] (fun t5 => t5 = .int .i64 0) (fun _ => 0)
      case atStart => rfl
      case round =>
        subst hrel
        go_wp2
        go_ret
        exact ⟨rfl, Below.refl _ _⟩
    · obtain ⟨b, off, rfl, hc⟩ := Route.Lies.at hl (by omega)
      obtain ⟨b', off', rfl, hc'⟩ := Route.Lies.at hl' (by omega)
      obtain ⟨r, hr⟩ : ∃ r, r = decide (l = m) := ⟨_, rfl⟩
      have HR : Hid (r = decide (l = m)) := hr
      rw [← hr]
      have HK : Hid (k = l.length) := hk
      have HK' : Hid (k = m.length) := hk'
      have HC : Hid (∀ j, j < l.length → w.cell? ⟨b, off + j, none⟩ = some (.string (l.getD j ByteArray.empty))) := hc
      have HC' : Hid (∀ j, j < m.length → w.cell? ⟨b', off' + j, none⟩ = some (.string (m.getD j ByteArray.empty))) := hc'
      clear hr hk hk' hc hc' hl hl'
      go_enter Try.func67, Try.ntmps67
      go_wp2
      go_loopw [4, 5] (fun t4 t5 wr => t4 = .bool false ∧ ∃ j : Nat, t5 = .int .i64 j ∧ j ≤ k ∧ Below w.heap.size w wr ∧ Hid (r = decide (l.drop j = m.drop j))) (fun _ t5 _ => k - (intOf t5).toNat)
      case atStart => exact ⟨rfl, 0, rfl, by omega, Below.refl _ _, by show r = _; rw [List.drop_zero, List.drop_zero]; exact HR.out⟩
      case round =>
        obtain ⟨rfl, j, rfl, hj, hbw, HJ⟩ := hrel
        by_cases hjk : j < k
        · have hjl : j < l.length := by rw [← HK.out]; exact hjk
          have hjm : j < m.length := by rw [← HK'.out]; exact hjk
          have hcell := cell_later hbw (HC.out j hjl)
          have hcell' := cell_later hbw (HC'.out j hjm)
          have hall := drop_step hjl hjm
          obtain ⟨x, hx⟩ : ∃ x, x = l.getD j ByteArray.empty := ⟨_, rfl⟩
          obtain ⟨y, hy⟩ : ∃ y, y = m.getD j ByteArray.empty := ⟨_, rfl⟩
          rw [← hx] at hcell hall
          rw [← hy] at hcell' hall
          have HX : Hid (decide (l.drop j = m.drop j) = (decide (x = y) && decide (l.drop (j + 1) = m.drop (j + 1)))) := hall
          clear hx hy hall hjl hjm
          have hse := str_eq x y
          by_cases hxy : x = y
          · rw [decide_eq_true hxy] at hse
            go_wp2
            go_region
            go_wp2
            go_roundw
            case rel => exact ⟨rfl, j + 1, by go_num, by omega, hbw.drew, by show r = _; rw [HJ.out, HX.out, decide_eq_true hxy, Bool.true_and]⟩
            case measure => simp [intOf]; omega
          · rw [decide_eq_false hxy] at hse
            have hr : r = false := by rw [HJ.out, HX.out, decide_eq_false hxy, Bool.false_and]
            go_wp2
            go_region
            go_wp2
            go_ret
            exact ⟨by first | rfl | (rw [hr]; rfl), hbw.drew⟩
        · have hr : r = true := by rw [HJ.out, List.drop_of_length_le (by rw [← HK.out]; omega), List.drop_of_length_le (by rw [← HK'.out]; omega)]; rfl
          go_wp2
          go_ret
          exact ⟨by first | rfl | (rw [hr]; rfl), hbw⟩
  · have e : decide (l = m) = false := decide_eq_false (fun e => hkk (by rw [hk, hk', e]))
    rw [e]
    clear hk hk' hl hl' e
    go_enter Try.func67, Try.ntmps67
    go_wp2
    go_ret
    exact ⟨rfl, Below.refl _ _⟩
end Go.Proofs.Ytlpgdfdadkljfaa.Order
