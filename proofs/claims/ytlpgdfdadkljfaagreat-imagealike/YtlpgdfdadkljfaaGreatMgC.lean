/-
  Contracts that the walks stand on, several texts in one: Shelf, RtPath, RtAns, RtUnder, OrLeaf, OrKeys.
-/
import Derived.Shelf.Small.Strs
import Derived.Shelf.LaysM
import Derived.Shelf.Strconv.Clone
import Derived.Shelf.Sort.Plain
import Derived.Shelf.Slices.Equal
import Derived.Shelf.Slices.CompactS
import Derived.Shelf.Slices.In.SortNone
import Derived.Shelf.Slices.Empties2
import Derived.Test.YtlpgdfdadkljfaaGreatProg
import Derived.Test.YtlpgdfdadkljfaaGreatMgB
import Derived.Test.YtlpgdfdadkljfaaGreatMgA

/-
  The library's contracts that this seat's walks take, at this program's numbers.
-/
namespace Go.Proofs
open Go.Shelf
def Tryz.laysM316_ren : Go.Shelf.Ren := ⟨fun | 316 => 63 | n => n, fun | 9 => 9 | 3 => 3 | 4 => 4 | 37 => 23 | 0 => 0 | 127 => 135 | 5 => 5 | n => n, fun | n => n⟩
theorem Tryz.laysM316 : Go.Proofs.LaysM.n316 Tryz.prog Tryz.laysM316_ren := {
  mixed := by kernel_rfl
  f316 := Tryz.func63.trans (congrArg some (by kernel_rfl))
  t0 := Tryz.underlying0
  a0 := Tryz.isAgg0
  z0 := Tryz.sizeOf0
  v0 := Tryz.zeroValue0
  t3 := Tryz.underlying3
  a3 := Tryz.isAgg3
  z3 := Tryz.sizeOf3
  v3 := Tryz.zeroValue3
  t4 := Tryz.underlying4
  a4 := Tryz.isAgg4
  z4 := Tryz.sizeOf4
  v4 := Tryz.zeroValue4
  t9 := Tryz.underlying9
  a9 := Tryz.isAgg9
  z9 := Tryz.sizeOf9
  v9 := Tryz.zeroValue9
  t37 := Tryz.underlying23
  a37 := Tryz.isAgg23
  z37 := Tryz.sizeOf23
  v37 := Tryz.zeroValue23
  t127 := Tryz.underlying135
  a127 := Tryz.isAgg135
  z127 := Tryz.sizeOf135
  v127 := Tryz.zeroValue135
  t5 := Tryz.underlying5
  a5 := Tryz.isAgg5
  z5 := Tryz.sizeOf5
  v5 := Tryz.zeroValue5
  i0 := by kernel_rfl
  i3 := by kernel_rfl
  i4 := by kernel_rfl
  i5 := by kernel_rfl
  i9 := by kernel_rfl
  i37 := by kernel_rfl
  i127 := by kernel_rfl }
open Go.RowKit in
theorem Tryz.stringslite_Clone (s : ByteArray) (w : World) (hlim : s.size ≤ 281474976710656) :
    Calls Tryz.prog 63 #[.string s] w fun e w' => e = .returned (.string s) ∧ Below w.heap.size w w' := Any.stringslite_Clone Tryz.laysM316 s w hlim
def Tryz.lays193_ren : Go.Shelf.Ren := ⟨fun | 193 => 87 | n => n, fun | 31 => 28 | 9 => 9 | 4 => 4 | 3 => 3 | 0 => 0 | n => n, fun | n => n⟩
theorem Tryz.lays193 : Go.Proofs.Lays.n193 Tryz.prog Tryz.lays193_ren := {
  mixed := by kernel_rfl
  f193 := Tryz.func87.trans (congrArg some (by kernel_rfl))
  t0 := Tryz.underlying0
  a0 := Tryz.isAgg0
  z0 := Tryz.sizeOf0
  v0 := Tryz.zeroValue0
  t3 := Tryz.underlying3
  a3 := Tryz.isAgg3
  z3 := Tryz.sizeOf3
  v3 := Tryz.zeroValue3
  t4 := Tryz.underlying4
  a4 := Tryz.isAgg4
  z4 := Tryz.sizeOf4
  v4 := Tryz.zeroValue4
  t9 := Tryz.underlying9
  a9 := Tryz.isAgg9
  z9 := Tryz.sizeOf9
  v9 := Tryz.zeroValue9
  t31 := Tryz.underlying28
  a31 := Tryz.isAgg28
  z31 := Tryz.sizeOf28
  v31 := Tryz.zeroValue28 }
open Go.RowKit Go.Lib in
theorem Tryz.slices_Equal_string (b1 o1 n c b2 o2 m d : Nat) (xs ys : List ByteArray) (w : World) (hx : n ≤ xs.length) (hy : m ≤ ys.length) (hbig : n ≤ 9223372036854775807) (hbig2 : m ≤ 9223372036854775807) (hc1 : ∀ j, j < xs.length → w.cell? ⟨b1, o1 + j, none⟩ = some (.string (xs.getD j ByteArray.empty))) (hc2 : ∀ j, j < ys.length → w.cell? ⟨b2, o2 + j, none⟩ = some (.string (ys.getD j ByteArray.empty))) :
    Calls Tryz.prog 87 #[.slice (some ⟨b1, o1, none⟩) n c, .slice (some ⟨b2, o2, none⟩) m d] w fun e w' => e = .returned (.bool (decide (xs.take n = ys.take m))) ∧ ∃ q, w' = w.drewN q := Any.slices_Equal_string Tryz.lays193 b1 o1 n c b2 o2 m d xs ys w hx hy hbig hbig2 hc1 hc2
open Go.RowKit Go.Lib in
theorem Tryz.slices_Equal_string_empty (a1 a2 : Option Addr) (c m d : Nat) (w : World) (hbig2 : m ≤ 9223372036854775807) :
    Calls Tryz.prog 87 #[.slice a1 0 c, .slice a2 m d] w fun e w' => e = .returned (.bool (decide (m = 0))) ∧ w' = w := Any.slices_Equal_string_empty Tryz.lays193 a1 a2 c m d w hbig2
open Go.RowKit Go.Lib in
theorem Tryz.slices_Equal_string_lens (a1 a2 : Option Addr) (n c m d : Nat) (w : World) (hnm : n ≠ m) :
    Calls Tryz.prog 87 #[.slice a1 n c, .slice a2 m d] w fun e w' => e = .returned (.bool false) ∧ w' = w := Any.slices_Equal_string_lens Tryz.lays193 a1 a2 n c m d w hnm
end Go.Proofs

/-
  Parts in one text: the program's 'newPath' and 'Join', and the document's test of a path.
-/
namespace Go.Proofs.YtlpgdfdadkljfaaGreat.Route
open Go.RowKit

set_option maxHeartbeats 1000000 in
theorem clone_any (s : ByteArray) (w : World) (hs : s.size ≤ 140737488355328) :
    Calls Tryz.prog 38 #[.string s] w fun e w' => e = .returned (.string s) ∧ Below w.heap.size w w' := by
  go_enter Tryz.func38, Tryz.ntmps38
  go_wp2_with fail
  refine (Tryz.stringslite_Clone s w (by omega)).mono ?_
  rintro e w1 ⟨rfl, hb⟩
  go_wp2
  go_ret
  exact ⟨rfl, hb⟩

theorem extract_size_le (s : ByteArray) (i j : Nat) : (s.extract i j).size ≤ s.size := by
  rw [ByteArray.size_extract]; omega

theorem pieces_size (s : ByteArray) (fuel start i : Nat) : ∀ x ∈ pieces s fuel start i, x.size ≤ s.size := by
  induction fuel generalizing start i with
  | zero => intro x hx; simp [pieces] at hx; subst hx; exact extract_size_le _ _ _
  | succ f ih =>
    intro x hx
    simp only [pieces] at hx
    split at hx
    · split at hx
      · rcases List.mem_cons.1 hx with rfl | hx
        · exact extract_size_le _ _ _
        · exact ih _ _ x hx
      · exact ih _ _ x hx
    · simp at hx; subst hx; exact extract_size_le _ _ _

theorem pieces_count (s : ByteArray) (fuel start i : Nat) : (pieces s fuel start i).length ≤ fuel + 1 := by
  induction fuel generalizing start i with
  | zero => simp [pieces]
  | succ f ih =>
    simp only [pieces]
    split
    · split
      · have := ih (i + 1) (i + 1); simp only [List.length_cons]; omega
      · have := ih start (i + 1); omega
    · simp

theorem parts_count (s : ByteArray) : (parts s).length ≤ s.size + 1 := pieces_count s _ _ _
theorem parts_size (s : ByteArray) : ∀ x ∈ parts s, x.size ≤ s.size := pieces_size s _ _ _
end Go.Proofs.YtlpgdfdadkljfaaGreat.Route

/-
  The program's answers: 'Check', 'Parts', 'Parent', 'Under', each for every text; and the document's 'Under'.
-/
namespace Go.Proofs.YtlpgdfdadkljfaaGreat.Route
open Go.RowKit

theorem cut_ok (s : ByteArray) (w : World) (hs : s.size ≤ 100000) (hp : isPath s = true) :
    Calls Tryz.prog 86 #[.string s] w fun e w' => ∃ v, e = .returned (.tuple #[v, .bool true]) ∧ Strs w.heap.size v (parts s) w w' := by
  have := cut_any s w hs
  rw [hp, if_pos rfl] at this
  exact this

theorem cut_no (s : ByteArray) (w : World) (hs : s.size ≤ 100000) (hp : isPath s = false) :
    Calls Tryz.prog 86 #[.string s] w fun e w' => ∃ v, e = .returned (.tuple #[v, .bool false]) ∧ Below w.heap.size w w' := by
  have := cut_any s w hs
  rw [hp] at this
  refine this.mono ?_
  rintro e w1 ⟨v, rfl, hb⟩
  exact ⟨v, rfl, hb.2.1⟩

theorem path_len {s : ByteArray} (hp : isPath s = true) : 1 ≤ (parts s).length ∧ (parts s).length ≤ 8 := by
  simp only [isPath, arePath, Bool.and_eq_true, decide_eq_true_eq] at hp
  exact hp.1

set_option maxHeartbeats 1000000 in
theorem check_ok (s : ByteArray) (w : World) (hs : s.size ≤ 100000) (hp : isPath s = true) :
    Calls Tryz.prog 84 #[.string s] w fun e w' => e = .returned .nilIface ∧ Below w.heap.size w w' := by
  go_enter Tryz.func84, Tryz.ntmps84
  go_wp2_with (go_at_call 86; refine (cut_ok s w hs hp).mono ?_; rintro e w1 ⟨v, rfl, hb⟩)
  go_ret
  exact ⟨rfl, hb.2.1⟩

set_option maxHeartbeats 1000000 in
theorem check_no (s : ByteArray) (w : World) (hs : s.size ≤ 100000) (hp : isPath s = false) :
    Calls Tryz.prog 84 #[.string s] w fun e w' => e = .returned (.iface 53 (.int .i64 2)) ∧ Below w.heap.size w w' := by
  go_enter Tryz.func84, Tryz.ntmps84
  go_wp2_with (go_at_call 86; refine (cut_no s w hs hp).mono ?_; rintro e w1 ⟨v, rfl, hb⟩)
  go_ret
  exact ⟨rfl, hb⟩

set_option maxHeartbeats 1000000 in
theorem parts_no (s : ByteArray) (w : World) (hs : s.size ≤ 100000) (hp : isPath s = false) :
    Calls Tryz.prog 107 #[.string s] w fun e w' => e = .returned (.tuple #[.slice none 0 0, .iface 53 (.int .i64 2)]) ∧ Below w.heap.size w w' := by
  go_enter Tryz.func107, Tryz.ntmps107
  go_wp2_with (go_at_call 86; refine (cut_no s w hs hp).mono ?_; rintro e w1 ⟨v, rfl, hb⟩)
  go_ret2
  exact ⟨rfl, hb⟩

theorem sv_set (l : List ByteArray) (j : Nat) (x : ByteArray) (hj : j < l.length) (hx : x = l.getD j ByteArray.empty) : (sv l).set j (.string x) = sv l := by
  have h : (sv l)[j]? = some (.string x) := by rw [sv_at l j hj, hx]
  have hl : j < (sv l).length := by rw [sv_len]; exact hj
  have := List.getElem_of_getElem? h
  obtain ⟨h1, h2⟩ := this
  conv => rhs; rw [← List.set_getElem_self h1, h2]

set_option maxHeartbeats 4000000 in
set_option maxRecDepth 100000 in
theorem parts_ok (s : ByteArray) (w : World) (hs : s.size ≤ 100000) (hp : isPath s = true) :
    Calls Tryz.prog 107 #[.string s] w fun e w' => ∃ v, e = .returned (.tuple #[v, .nilIface]) ∧ Strs w.heap.size v (parts s) w w' := by
  have h1 := cut_ok s w hs hp
  have hlen := path_len hp
  have HS : Hid (∀ x ∈ parts s, x.size ≤ 140737488355328) := fun x hx => by have := parts_size s x hx; omega
  clear hp
  generalize parts s = l at *
  obtain ⟨n, hn⟩ : ∃ n, n = l.length := ⟨_, rfl⟩
  rw [← hn] at hlen
  have HN : Hid (n = l.length) := hn
  clear hn
  go_enter Tryz.func107, Tryz.ntmps107
  go_wp2_with (go_at_call 86; refine h1.mono ?_; rintro e w1 ⟨v, rfl, hb⟩; obtain ⟨g, cap, rfl, hnc, hcm, hBg, _, _⟩ := hb.formN HN.out (by omega))
  go_loopw [18] (fun t18 wr => ∃ j : Nat, t18 = .int .i64 j ∧ j ≤ n ∧ Strs w.heap.size (.slice (some ⟨g, 0, none⟩) n cap) l w wr) (fun t18 _ => n - (intOf t18).toNat)
  case atStart => exact ⟨0, rfl, by omega, hb⟩
  case round =>
    obtain ⟨j, rfl, hj, hbr⟩ := hrel
    by_cases hjn : j < n
    · have hjl : j < l.length := by rw [← HN.out]; exact hjn
      have hown := hbr.1
      rw [← HN.out] at hown
      have hcell : wr.cell? ⟨g, j, none⟩ = some (.string (l.getD j ByteArray.empty)) := by rw [hown.cellAt j (by omega), sv_at l j hjl]
      obtain ⟨x, hx⟩ : ∃ x, x = l.getD j ByteArray.empty := ⟨_, rfl⟩
      have hxs : x.size ≤ 140737488355328 := HS.out x (by rw [hx]; simp [List.getD_eq_getElem?_getD, List.getElem?_eq_getElem hjl])
      have hset := sv_set l j x hjl hx
      rw [← hx] at hcell
      clear hx hown
      go_wp2_with (go_at_call 38; refine (clone_any x wr hxs).mono ?_; rintro e w2 ⟨rfl, hb2⟩; have hbs := hbr.later hb2; have hown2 := hbs.1; rw [← HN.out] at hown2; have hfz := hown2.frozenAt j; have hst := hown2.stored j (.string x); have hcell2 := cell_later hb2 hcell)
      go_roundw
      case rel =>
        rw [hset] at hst
        exact ⟨j + 1, by go_num, by omega, hbs.grown (by rw [← HN.out]; exact hst.1) hst.2⟩
      case measure => simp [intOf]; omega
    · go_wp2
      go_ret2
      exact ⟨_, rfl, hbr⟩

theorem lens_le (l : List (List UInt8)) (M : Nat) (h : ∀ x ∈ l, x.length ≤ M) : Lib.lens l ≤ l.length * M := by
  induction l with
  | nil => simp [Lib.lens]
  | cons y l ih =>
    have h1 := h y (by simp)
    have h2 := ih (fun x hx => h x (by simp [hx]))
    simp only [Lib.lens, List.map_cons, List.sum_cons, List.length_cons] at h2 ⊢
    rw [Nat.succ_mul]
    omega

theorem join_len (l : List (List UInt8)) (M : Nat) (h : ∀ x ∈ l, x.length ≤ M) : (Lib.join l [47]).length ≤ l.length * (M + 1) := by
  cases l with
  | nil => simp [Lib.join_nil]
  | cons x r =>
    rw [Lib.join_length]
    have := lens_le (x :: r) M h
    simp only [List.length_cons, List.length_nil, Nat.zero_add, Nat.one_mul] at this ⊢
    rw [Nat.mul_succ]
    omega

theorem joined_size (l : List ByteArray) (M : Nat) (h : ∀ x ∈ l, x.size ≤ M) : (joined l).size ≤ l.length * (M + 1) := by
  have e : (joined l).size = (Lib.join (l.map (·.data.toList)) [47]).length := by simp [joined, ByteArray.size]
  rw [e]
  have := join_len (l.map (·.data.toList)) M (by
    intro x hx
    obtain ⟨y, hy, rfl⟩ := List.mem_map.1 hx
    have h1 := h y hy
    rw [Lib.size_eq] at h1
    exact h1)
  rw [List.length_map] at this
  exact this

/-- What the program tells for a path's parent. -/
def up (s : ByteArray) : ByteArray := joined ((parts s).take ((parts s).length - 1))

theorem Lies.take {w : World} {a : Option Addr} {l : List ByteArray} (h : Lies w a l) (m : Nat) : Lies w a (l.take m) := by
  rcases h with rfl | ⟨x, rfl, h⟩
  · exact Or.inl (by simp)
  · refine Or.inr ⟨x, rfl, fun j hj => ?_⟩
    rw [List.length_take] at hj
    rw [h j (by omega)]
    simp [List.getD_eq_getElem?_getD, show j < m by omega]
end Go.Proofs.YtlpgdfdadkljfaaGreat.Route

/-
  Whether a text is a path under another one: the program's answer and the document's, of every two texts.
-/
namespace Go.Proofs.YtlpgdfdadkljfaaGreat.Route
open Go.RowKit

set_option maxHeartbeats 4000000 in
set_option maxRecDepth 100000 in
theorem under_any (d s : ByteArray) (w : World) (hd : d.size ≤ 100000) (hs : s.size ≤ 100000) :
    Calls Tryz.prog 64 #[.string d, .string s] w fun e w' => e = .returned (.bool (isUnder d s)) ∧ Below w.heap.size w w' := by
  cases hpd : isPath d with
  | false =>
    have e : isUnder d s = false := by rw [isUnder, hpd]; rfl
    rw [e]
    go_enter Tryz.func64, Tryz.ntmps64
    go_wp2_with (go_at_call 86; refine (cut_no d w hd hpd).mono ?_; rintro e w1 ⟨v, rfl, hb⟩)
    go_ret
    exact ⟨rfl, hb⟩
  | true =>
    have hc1 := cut_ok d w hd hpd
    have hl1 := path_len hpd
    cases hps : isPath s with
    | false =>
      have e : isUnder d s = false := by rw [isUnder, hpd, hps]; rfl
      rw [e]
      have hc2 : Hid (∀ w1, _) := fun w1 => cut_no s w1 hs hps
      generalize parts d = l at *
      go_enter Tryz.func64, Tryz.ntmps64
      go_wp2_with fail
      refine hc1.mono ?_
      rintro e w1 ⟨v, rfl, hb⟩
      go_wp2_with fail
      refine (hc2.out w1).mono ?_
      rintro e w2 ⟨v2, rfl, hb2⟩
      go_wp2
      go_ret
      exact ⟨rfl, hb.2.1.trans (hb2.mono hb.2.2)⟩
    | true =>
      have hc2 : Hid (∀ w1, Calls Tryz.prog 86 #[.string s] w1 fun e w' => ∃ v, e = .returned (.tuple #[v, .bool true]) ∧ Strs w1.heap.size v (parts s) w1 w') := fun w1 => cut_ok s w1 hs hps
      have hl2 := path_len hps
      have e : isUnder d s = decide ((parts d).length < (parts s).length ∧ (parts s).take (parts d).length = parts d) := by rw [isUnder, hpd, hps]; rfl
      rw [e]
      clear e hpd hps
      generalize parts d = l at *
      generalize parts s = m at *
      obtain ⟨n, hn⟩ : ∃ n, n = l.length := ⟨_, rfl⟩
      obtain ⟨k, hk⟩ : ∃ k, k = m.length := ⟨_, rfl⟩
      rw [← hn, ← hk]
      rw [← hn] at hl1
      rw [← hk] at hl2
      have HN : Hid (n = l.length) := hn
      have HK : Hid (k = m.length) := hk
      clear hn hk
      by_cases hnk : n < k
      · have e : decide (n < k ∧ m.take n = l) = decide (m.take n = l.take n) := by
          rw [HN.out, List.take_length]
          exact decide_eq_decide.2 ⟨fun h => h.2, fun h => ⟨by rw [← HN.out]; exact hnk, h⟩⟩
        rw [e]
        clear e
        have heq : Hid (∀ g1 c1 g2 c2 W, (∀ j, j < m.length → W.cell? ⟨g1, 0 + j, none⟩ = some (.string (m.getD j ByteArray.empty))) → (∀ j, j < l.length → W.cell? ⟨g2, 0 + j, none⟩ = some (.string (l.getD j ByteArray.empty))) →
            Calls Tryz.prog 87 #[.slice (some ⟨g1, 0, none⟩) n c1, .slice (some ⟨g2, 0, none⟩) n c2] W fun e w' => e = .returned (.bool (decide (m.take n = l.take n))) ∧ ∃ q, w' = W.drewN q) := fun g1 c1 g2 c2 W h1 h2 =>
          Tryz.slices_Equal_string g1 0 n c1 g2 0 n c2 m l W (by rw [← HK.out]; omega) (by rw [← HN.out]; omega) (by omega) (by omega) h1 h2
        generalize decide (m.take n = l.take n) = r at *
        go_enter Tryz.func64, Tryz.ntmps64
        go_wp2_with fail
        refine hc1.mono ?_
        rintro e w1 ⟨v, rfl, hb⟩
        obtain ⟨g2, c2, rfl, hnc2, hcm2, hBg2, _, _⟩ := hb.formN HN.out (by omega)
        go_wp2_with fail
        refine (hc2.out w1).mono ?_
        rintro e w2 ⟨v2, rfl, hb2⟩
        obtain ⟨g1, c1, rfl, hnc1, hcm1, hBg1, _, hcs1⟩ := hb2.formN HK.out (by omega)
        have hbL := hb.later hb2.2.1
        have hcs2 : ∀ j, j < l.length → w2.cell? ⟨g2, 0 + j, none⟩ = some (.string (l.getD j ByteArray.empty)) := fun j hj => by
          have ho := hbL.1
          rw [← HN.out] at ho
          rw [Nat.zero_add, ho.cellAt j (by rw [HN.out]; omega), sv_at l j hj]
        have HC2 := hcs2
        have h23 := heq.out g1 c1 g2 c2 w2 (fun j hj => by rw [Nat.zero_add]; exact hcs1 j hj) hcs2
        clear hcs2 HC2 hcs1 heq hc1 hc2
        go_wp2_with fail
        refine h23.mono ?_
        rintro e w3 ⟨rfl, q, rfl⟩
        go_wp2
        go_ret
        exact ⟨rfl, below_drewN (hb.2.1.trans (hb2.2.1.mono hb.2.2)) q⟩
      · have e : decide (n < k ∧ m.take n = l) = false := decide_eq_false (fun h => hnk h.1)
        rw [e]
        clear e
        go_enter Tryz.func64, Tryz.ntmps64
        go_wp2_with fail
        refine hc1.mono ?_
        rintro e w1 ⟨v, rfl, hb⟩
        obtain ⟨g2, c2, rfl, hnc2, hcm2, hBg2, _, _⟩ := hb.formN HN.out (by omega)
        go_wp2_with fail
        refine (hc2.out w1).mono ?_
        rintro e w2 ⟨v2, rfl, hb2⟩
        obtain ⟨g1, c1, rfl, hnc1, hcm1, hBg1, _, hcs1⟩ := hb2.formN HK.out (by omega)
        clear hcs1
        go_wp2
        go_ret
        exact ⟨rfl, hb.2.1.trans (hb2.2.1.mono hb.2.2)⟩
end Go.Proofs.YtlpgdfdadkljfaaGreat.Route

/-
  The contracts of what is small: isWithin, asked, areKeys, isName; the answer's name and Same of two lists.
-/
namespace Go.Proofs.YtlpgdfdadkljfaaGreat.Order
open Go.RowKit Route

theorem eqNil (w : World) : (binOp .eql 38 .nilIface .nilIface).run Tryz.prog w = .ok (.bool true) w := by kernel_rfl
theorem neNil (w : World) : (binOp .neq 38 .nilIface .nilIface).run Tryz.prog w = .ok (.bool false) w := by kernel_rfl
theorem eqFormNil (w : World) : (binOp .eql 38 (.iface 53 (.int .i64 2)) .nilIface).run Tryz.prog w = .ok (.bool false) w := by kernel_rfl
theorem neFormNil (w : World) : (binOp .neq 38 (.iface 53 (.int .i64 2)) .nilIface).run Tryz.prog w = .ok (.bool true) w := by kernel_rfl
theorem eqArgNil (w : World) : (binOp .eql 38 (.iface 53 (.int .i64 1)) .nilIface).run Tryz.prog w = .ok (.bool false) w := by kernel_rfl
theorem neArgNil (w : World) : (binOp .neq 38 (.iface 53 (.int .i64 1)) .nilIface).run Tryz.prog w = .ok (.bool true) w := by kernel_rfl
theorem eqForm (w : World) : (binOp .eql 38 (.iface 53 (.int .i64 2)) (.iface 53 (.int .i64 2))).run Tryz.prog w = .ok (.bool true) w := by kernel_rfl
theorem neForm (w : World) : (binOp .neq 38 (.iface 53 (.int .i64 2)) (.iface 53 (.int .i64 2))).run Tryz.prog w = .ok (.bool false) w := by kernel_rfl
theorem eqArg (w : World) : (binOp .eql 38 (.iface 53 (.int .i64 1)) (.iface 53 (.int .i64 1))).run Tryz.prog w = .ok (.bool true) w := by kernel_rfl

theorem len_text (s : ByteArray) (z : Nat) (hz : z = s.size) (w : World) : (Builtin.len_ #[9] 3 #[.string s]).run Tryz.prog w = .ok (.int .i64 (z : Int)) w := by
  rw [run_len_string w 9 3 s Tryz.underlying9, hz]; rfl

set_option maxHeartbeats 400000 in
theorem within_any (n lo hi : Int) (w : World) : Calls Tryz.prog 59 #[.int .i64 n, .int .i64 lo, .int .i64 hi] w fun e w' => e = .returned (.bool (within n lo hi)) ∧ w' = w := by
  obtain ⟨r, hr⟩ : ∃ r, r = within n lo hi := ⟨_, rfl⟩
  have HR : Hid (r = within n lo hi) := hr
  rw [← hr]
  clear hr
  by_cases h1 : lo ≤ n
  · by_cases h2 : n ≤ hi
    · have hr : r = true := by rw [HR.out, within_iff]; exact ⟨h1, h2⟩
      subst hr
      go_enter Tryz.func59, Tryz.ntmps59
      go_wp2
      go_ret
      exact ⟨rfl, rfl⟩
    · have hr : r = false := by rw [HR.out, within, decide_eq_false h2, Bool.and_false]
      subst hr
      go_enter Tryz.func59, Tryz.ntmps59
      go_wp2
      go_ret
      exact ⟨rfl, rfl⟩
  · have hr : r = false := by rw [HR.out, within, decide_eq_false h1, Bool.false_and]
    subst hr
    go_enter Tryz.func59, Tryz.ntmps59
    go_wp2
    go_ret
    exact ⟨rfl, rfl⟩

/-- The fields that a kind asks for: name, path, keys, number. -/
def asks (k : Int) : Bool × Bool × Bool × Bool × Bool :=
  if k = 1 ∨ k = 3 ∨ k = 4 ∨ k = 7 then (true, false, false, false, true)
  else if k = 2 then (true, true, true, false, true)
  else if k = 6 then (true, true, false, false, true)
  else if k = 8 then (false, false, false, true, true)
  else if k = 5 ∨ k = 9 then (false, false, false, false, true)
  else (false, false, false, false, false)

set_option maxHeartbeats 4000000 in
set_option maxRecDepth 100000 in
theorem asked_core (k : Int) (a b c d o : Bool) (w : World) (h : Hid (asks k = (a, b, c, d, o))) :
    Calls Tryz.prog 82 #[.int .i64 k] w fun e w' => e = .returned (.tuple #[.agg #[.bool a, .bool b, .bool c, .bool d], .bool o]) ∧ Below w.heap.size w w' := by
  by_cases h1 : k = 1 ∨ k = 3 ∨ k = 4 ∨ k = 7
  · have e := h.out
    rw [asks, if_pos h1] at e
    injection e with e1 e; injection e with e2 e; injection e with e3 e; injection e with e4 e5
    subst e1; subst e2; subst e3; subst e4; subst e5
    clear h
    rcases h1 with rfl | rfl | rfl | rfl
    all_goals
      go_enter Tryz.func82, Tryz.ntmps82
      go_wp2
      exact bodyPost_ret (v := .tuple #[.agg #[.bool true, .bool false, .bool false, .bool false], .bool true]) (by simp [results, Tryz.results82, go_sem]) rfl ⟨rfl, ((Below.refl _ _).alloc (Nat.le_refl _) _)⟩
  · have e := h.out
    rw [asks, if_neg h1] at e
    have n1 : ¬ k = 1 := fun e => h1 (by omega)
    have n3 : ¬ k = 3 := fun e => h1 (by omega)
    have n4 : ¬ k = 4 := fun e => h1 (by omega)
    have n7 : ¬ k = 7 := fun e => h1 (by omega)
    by_cases h2 : k = 2
    · rw [if_pos h2] at e
      injection e with e1 e; injection e with e2 e; injection e with e3 e; injection e with e4 e5
      subst e1; subst e2; subst e3; subst e4; subst e5
      subst h2
      clear h
      go_enter Tryz.func82, Tryz.ntmps82
      go_wp2
      exact bodyPost_ret (v := .tuple #[.agg #[.bool true, .bool true, .bool true, .bool false], .bool true]) (by simp [results, Tryz.results82, go_sem]) rfl ⟨rfl, ((Below.refl _ _).alloc (Nat.le_refl _) _)⟩
    · rw [if_neg h2] at e
      by_cases h6 : k = 6
      · rw [if_pos h6] at e
        injection e with e1 e; injection e with e2 e; injection e with e3 e; injection e with e4 e5
        subst e1; subst e2; subst e3; subst e4; subst e5
        subst h6
        clear h
        go_enter Tryz.func82, Tryz.ntmps82
        go_wp2
        exact bodyPost_ret (v := .tuple #[.agg #[.bool true, .bool true, .bool false, .bool false], .bool true]) (by simp [results, Tryz.results82, go_sem]) rfl ⟨rfl, ((Below.refl _ _).alloc (Nat.le_refl _) _)⟩
      · rw [if_neg h6] at e
        by_cases h8 : k = 8
        · rw [if_pos h8] at e
          injection e with e1 e; injection e with e2 e; injection e with e3 e; injection e with e4 e5
          subst e1; subst e2; subst e3; subst e4; subst e5
          subst h8
          clear h
          go_enter Tryz.func82, Tryz.ntmps82
          go_wp2
          exact bodyPost_ret (v := .tuple #[.agg #[.bool false, .bool false, .bool false, .bool true], .bool true]) (by simp [results, Tryz.results82, go_sem]) rfl ⟨rfl, ((Below.refl _ _).alloc (Nat.le_refl _) _)⟩
        · rw [if_neg h8] at e
          by_cases h5 : k = 5 ∨ k = 9
          · rw [if_pos h5] at e
            injection e with e1 e; injection e with e2 e; injection e with e3 e; injection e with e4 e5
            subst e1; subst e2; subst e3; subst e4; subst e5
            clear h
            rcases h5 with rfl | rfl
            all_goals
              go_enter Tryz.func82, Tryz.ntmps82
              go_wp2
              exact bodyPost_ret (v := .tuple #[.agg #[.bool false, .bool false, .bool false, .bool false], .bool true]) (by simp [results, Tryz.results82, go_sem]) rfl ⟨rfl, ((Below.refl _ _).alloc (Nat.le_refl _) _)⟩
          · rw [if_neg h5] at e
            injection e with e1 e; injection e with e2 e; injection e with e3 e; injection e with e4 e5
            subst e1; subst e2; subst e3; subst e4; subst e5
            have n5 : ¬ k = 5 := fun e => h5 (by omega)
            have n9 : ¬ k = 9 := fun e => h5 (by omega)
            clear h h1 h5
            go_enter Tryz.func82, Tryz.ntmps82
            go_wp2
            exact bodyPost_ret (v := .tuple #[.agg #[.bool false, .bool false, .bool false, .bool false], .bool false]) (by simp [results, Tryz.results82, go_sem]) rfl ⟨rfl, ((Below.refl _ _).alloc (Nat.le_refl _) _)⟩

/-- 'isName'. -/
theorem isName_any (s : ByteArray) (w : World) (hs : s.size ≤ 100000) : Calls Tryz.prog 83 #[.string s] w fun e w' => e = .returned (.bool (isPart s)) ∧ Below w.heap.size w w' := by
  have q1 := eqNil
  have q2 := eqFormNil
  rw [← name_iff]
  cases hp : isPath s with
  | false =>
    rw [Bool.false_and]
    go_enter Tryz.func83, Tryz.ntmps83
    go_wp2_with (go_at_call 107; refine (parts_no s w hs hp).mono ?_; rintro e w1 ⟨rfl, hb⟩)
    go_ret
    exact ⟨rfl, hb⟩
  | true =>
    rw [Bool.true_and]
    have HC : Hid (Calls _ _ _ _ _) := parts_ok s w hs hp
    obtain ⟨n, hn⟩ : ∃ n, n = (parts s).length := ⟨_, rfl⟩
    have HN : Hid (n = (parts s).length) := hn
    rw [← hn]
    clear hn
    have hn8 : n ≤ 8 := by rw [HN.out]; exact (path_len hp).2
    by_cases h1 : n = 1
    · rw [decide_eq_true h1]
      subst h1
      go_enter Tryz.func83, Tryz.ntmps83
      go_wp2_with fail
      refine HC.out.mono ?_
      rintro e w1 ⟨v, rfl, hb⟩
      obtain ⟨a, cap, rfl, _, _, _⟩ := hb.liesN HN.out
      go_wp2
      go_ret
      exact ⟨rfl, hb.2.1⟩
    · rw [decide_eq_false h1]
      have h1' : ((n : Int) == 1) = false := by simp; omega
      go_enter Tryz.func83, Tryz.ntmps83
      go_wp2_with fail
      refine HC.out.mono ?_
      rintro e w1 ⟨v, rfl, hb⟩
      obtain ⟨a, cap, rfl, _, _, _⟩ := hb.liesN HN.out
      go_wp2
      go_ret
      exact ⟨rfl, hb.2.1⟩
end Go.Proofs.YtlpgdfdadkljfaaGreat.Order

/-
  The contract of areKeys, and of the answer's Same of two lists.
-/
namespace Go.Proofs.YtlpgdfdadkljfaaGreat.Order
open Go.RowKit Route

theorem keys_drop {l : List ByteArray} {k : Nat} (h : k < l.length) : (l.drop k).all keyOk = (keyOk (l.getD k ByteArray.empty) && (l.drop (k + 1)).all keyOk) := by
  rw [List.drop_eq_getElem_cons h, List.all_cons]
  simp [List.getD_eq_getElem?_getD, List.getElem?_eq_getElem h]

set_option maxHeartbeats 4000000 in
set_option maxRecDepth 100000 in
theorem areKeys_any (a : Option Addr) (l : List ByteArray) (k cap : Nat) (w : World) (hk : k = l.length) (hl : Route.Lies w a l) (hm : k ≤ 140737488355328) :
    Calls Tryz.prog 85 #[.slice a k cap] w fun e w' => e = .returned (.bool (keysOk l)) ∧ w' = w := by
  obtain ⟨r, hr⟩ : ∃ r, r = keysOk l := ⟨_, rfl⟩
  rw [← hr]
  by_cases hk8 : 16 < k
  · have e : r = false := by rw [hr, keysOk, decide_eq_false (by omega), Bool.false_and]
    subst e
    clear hk hl hr
    go_enter Tryz.func85, Tryz.ntmps85
    go_wp2
    go_ret
    exact ⟨rfl, rfl⟩
  · have HR : Hid (r = l.all keyOk) := by show r = _; rw [hr, keysOk, decide_eq_true (by omega), Bool.true_and]
    have HK : Hid (k = l.length) := hk
    have HL : Hid (Route.Lies w a l) := hl
    clear hr hk hl
    go_enter Tryz.func85, Tryz.ntmps85
    go_wp2
    go_loop [2, 10] (fun t2 t3 => t2 = .bool false ∧ ∃ j : Nat, t3 = .int .i64 j ∧ j ≤ k ∧ Hid (r = (l.drop j).all keyOk)) (fun _ t3 => k - (intOf t3).toNat)
    case atStart => exact ⟨rfl, 0, rfl, by omega, by show r = _; rw [List.drop_zero]; exact HR.out⟩
    case round =>
      obtain ⟨rfl, j, rfl, hj, HJ⟩ := hrel
      by_cases hjk : j < k
      · have hjl : j < l.length := by rw [← HK.out]; exact hjk
        obtain ⟨b, off, rfl, hc⟩ := HL.out.at (by omega)
        have hcell := hc j hjl
        have hall := keys_drop hjl
        obtain ⟨x, hx⟩ : ∃ x, x = l.getD j ByteArray.empty := ⟨_, rfl⟩
        rw [← hx] at hcell hall
        have HX : Hid ((l.drop j).all keyOk = (keyOk x && (l.drop (j + 1)).all keyOk)) := hall
        obtain ⟨z, hz⟩ : ∃ z, z = x.size := ⟨_, rfl⟩
        have hlen := len_text x z hz
        have HW : Hid (∀ w, Calls Tryz.prog 59 #[.int .i64 (z : Int), .int .i64 1, .int .i64 64] w fun e w' => e = .returned (.bool (keyOk x)) ∧ w' = w) := fun w => by
          have := within_any (z : Int) 1 64 w
          rw [hz] at this ⊢
          exact this
        clear hx hall hjl hc hz
        cases hp : keyOk x with
        | true =>
          go_wp2_with fail
          refine (HW.out _).mono ?_
          rintro e w1 ⟨rfl, rfl⟩
          rw [hp]
          go_wp2
          go_round
          case rel => exact ⟨rfl, j + 1, by go_num, by omega, by show r = _; rw [HJ.out, HX.out, hp, Bool.true_and]⟩
          case measure => simp [intOf]; omega
        | false =>
          have hr : r = false := by rw [HJ.out, HX.out, hp, Bool.false_and]
          go_wp2_with fail
          refine (HW.out _).mono ?_
          rintro e w1 ⟨rfl, rfl⟩
          rw [hp]
          go_wp2
          go_ret
          exact ⟨by first | rfl | (rw [hr]; rfl), rfl⟩
      · have hr : r = true := by rw [HJ.out, List.drop_of_length_le (by rw [← HK.out]; omega)]; rfl
        go_wp2
        go_ret
        exact ⟨by first | rfl | (rw [hr]; rfl), rfl⟩

set_option maxHeartbeats 4000000 in
set_option maxRecDepth 100000 in
theorem sameL_any (a : Option Addr) (l : List ByteArray) (k cap : Nat) (a' : Option Addr) (m : List ByteArray) (k' cap' : Nat) (w : World) (hk : k = l.length) (hl : Route.Lies w a l) (hk' : k' = m.length) (hl' : Route.Lies w a' m) (hm : k ≤ 140737488355328) (hm' : k' ≤ 140737488355328) :
    Calls Tryz.prog 81 #[.slice a k cap, .slice a' k' cap'] w fun e w' => e = .returned (.bool (decide (l = m))) ∧ Below w.heap.size w w' := by
  by_cases hkk : k = k'
  · subst hkk
    by_cases h0 : k = 0
    · have e1 : l = [] := List.eq_nil_of_length_eq_zero (by omega)
      have e2 : m = [] := List.eq_nil_of_length_eq_zero (by omega)
      subst e1; subst e2; subst h0
      clear hk hk' hl hl'
      go_enter Tryz.func81, Tryz.ntmps81
      go_wp2
      go_loop [5] (fun t5 => t5 = .int .i64 0) (fun _ => 0)
      case atStart => rfl
      case round =>
        subst hrel
        go_wp2
        go_ret
        exact ⟨rfl, Below.refl _ _⟩
    · obtain ⟨b, off, rfl, hc⟩ := Route.Lies.at hl (by omega)
      obtain ⟨b', off', rfl, hc'⟩ := Route.Lies.at hl' (by omega)
      obtain ⟨r, hr⟩ : ∃ r, r = decide (l = m) := ⟨_, rfl⟩
      have HR : Hid (r = decide (l = m)) := hr
      rw [← hr]
      have HK : Hid (k = l.length) := hk
      have HK' : Hid (k = m.length) := hk'
      have HC : Hid (∀ j, j < l.length → w.cell? ⟨b, off + j, none⟩ = some (.string (l.getD j ByteArray.empty))) := hc
      have HC' : Hid (∀ j, j < m.length → w.cell? ⟨b', off' + j, none⟩ = some (.string (m.getD j ByteArray.empty))) := hc'
      clear hr hk hk' hc hc' hl hl'
      go_enter Tryz.func81, Tryz.ntmps81
      go_wp2
      go_loopw [4, 5] (fun t4 t5 wr => t4 = .bool false ∧ ∃ j : Nat, t5 = .int .i64 j ∧ j ≤ k ∧ Below w.heap.size w wr ∧ Hid (r = decide (l.drop j = m.drop j))) (fun _ t5 _ => k - (intOf t5).toNat)
      case atStart => exact ⟨rfl, 0, rfl, by omega, Below.refl _ _, by show r = _; rw [List.drop_zero, List.drop_zero]; exact HR.out⟩
      case round =>
        obtain ⟨rfl, j, rfl, hj, hbw, HJ⟩ := hrel
        by_cases hjk : j < k
        · have hjl : j < l.length := by rw [← HK.out]; exact hjk
          have hjm : j < m.length := by rw [← HK'.out]; exact hjk
          have hcell := cell_later hbw (HC.out j hjl)
          have hcell' := cell_later hbw (HC'.out j hjm)
          have hall := drop_step hjl hjm
          obtain ⟨x, hx⟩ : ∃ x, x = l.getD j ByteArray.empty := ⟨_, rfl⟩
          obtain ⟨y, hy⟩ : ∃ y, y = m.getD j ByteArray.empty := ⟨_, rfl⟩
          rw [← hx] at hcell hall
          rw [← hy] at hcell' hall
          have HX : Hid (decide (l.drop j = m.drop j) = (decide (x = y) && decide (l.drop (j + 1) = m.drop (j + 1)))) := hall
          clear hx hy hall hjl hjm
          have hse := str_eq x y
          by_cases hxy : x = y
          · rw [decide_eq_true hxy] at hse
            go_wp2
            go_region
            go_wp2
            go_roundw
            case rel => exact ⟨rfl, j + 1, by go_num, by omega, hbw.drew, by show r = _; rw [HJ.out, HX.out, decide_eq_true hxy, Bool.true_and]⟩
            case measure => simp [intOf]; omega
          · rw [decide_eq_false hxy] at hse
            have hr : r = false := by rw [HJ.out, HX.out, decide_eq_false hxy, Bool.false_and]
            go_wp2
            go_region
            go_wp2
            go_ret
            exact ⟨by first | rfl | (rw [hr]; rfl), hbw.drew⟩
        · have hr : r = true := by rw [HJ.out, List.drop_of_length_le (by rw [← HK.out]; omega), List.drop_of_length_le (by rw [← HK'.out]; omega)]; rfl
          go_wp2
          go_ret
          exact ⟨by first | rfl | (rw [hr]; rfl), hbw⟩
  · have e : decide (l = m) = false := decide_eq_false (fun e => hkk (by rw [hk, hk', e]))
    rw [e]
    clear hk hk' hl hl' e
    go_enter Tryz.func81, Tryz.ntmps81
    go_wp2
    go_ret
    exact ⟨rfl, Below.refl _ _⟩
end Go.Proofs.YtlpgdfdadkljfaaGreat.Order
