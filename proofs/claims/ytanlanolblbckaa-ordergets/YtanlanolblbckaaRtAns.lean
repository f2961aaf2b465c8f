/-
  The program's answers: 'Check', 'Parts', 'Parent', 'Under', each for every text; and the document's 'Under'.
-/
import Derived.Test.YtanlanolblbckaaRtPath
namespace Go.Proofs.Ytanlanolblbckaa.Route
open Go.RowKit

theorem cut_ok (s : ByteArray) (w : World) (hs : s.size ≤ 100000) (hp : isPath s = true) :
    Calls Try.prog 46 #[.string s] w fun e w' => ∃ v, e = .returned (.tuple #[v, .bool true]) ∧ Strs w.heap.size v (parts s) w w' := by
  have := cut_any s w hs
  rw [hp, if_pos rfl] at this
  exact this

theorem cut_no (s : ByteArray) (w : World) (hs : s.size ≤ 100000) (hp : isPath s = false) :
    Calls Try.prog 46 #[.string s] w fun e w' => ∃ v, e = .returned (.tuple #[v, .bool false]) ∧ Below w.heap.size w w' := by
  have := cut_any s w hs
  rw [hp] at this
  refine this.mono ?_
  rintro e w1 ⟨v, rfl, hb⟩
  exact ⟨v, rfl, hb.2.1⟩

theorem path_len {s : ByteArray} (hp : isPath s = true) : 1 ≤ (parts s).length ∧ (parts s).length ≤ 8 := by
  simp only [isPath, arePath, Bool.and_eq_true, decide_eq_true_eq] at hp
  exact hp.1

set_option maxHeartbeats 1000000 in
theorem check_ok (s : ByteArray) (w : World) (hs : s.size ≤ 100000) (hp : isPath s = true) :
    Calls Try.prog 38 #[.string s] w fun e w' => e = .returned .nilIface ∧ Below w.heap.size w w' := by
  go_enter Try.func38, Try.ntmps38
  go_wp2_with (go_at_call 46; refine (cut_ok s w hs hp).mono ?_; rintro e w1 ⟨v, rfl, hb⟩)
  go_ret
  exact ⟨rfl, hb.2.1⟩

set_option maxHeartbeats 1000000 in
theorem check_no (s : ByteArray) (w : World) (hs : s.size ≤ 100000) (hp : isPath s = false) :
    Calls Try.prog 38 #[.string s] w fun e w' => e = .returned (.iface 36 (.int .i64 2)) ∧ Below w.heap.size w w' := by
  go_enter Try.func38, Try.ntmps38
  go_wp2_with (go_at_call 46; refine (cut_no s w hs hp).mono ?_; rintro e w1 ⟨v, rfl, hb⟩)
  go_ret
  exact ⟨rfl, hb⟩

set_option maxHeartbeats 1000000 in
theorem parts_no (s : ByteArray) (w : World) (hs : s.size ≤ 100000) (hp : isPath s = false) :
    Calls Try.prog 45 #[.string s] w fun e w' => e = .returned (.tuple #[.slice none 0 0, .iface 36 (.int .i64 2)]) ∧ Below w.heap.size w w' := by
  go_enter Try.func45, Try.ntmps45
  go_wp2_with (go_at_call 46; refine (cut_no s w hs hp).mono ?_; rintro e w1 ⟨v, rfl, hb⟩)
  go_ret2
  exact ⟨rfl, hb⟩

theorem sv_set (l : List ByteArray) (j : Nat) (x : ByteArray) (hj : j < l.length) (hx : x = l.getD j ByteArray.empty) : (sv l).set j (.string x) = sv l := by
  have h : (sv l)[j]? = some (.string x) := by rw [sv_at l j hj, hx]
  have hl : j < (sv l).length := by rw [sv_len]; exact hj
  have := List.getElem_of_getElem? h
  obtain ⟨h1, h2⟩ := this
  conv => rhs; rw [← List.set_getElem_self h1, h2]

set_option maxHeartbeats 4000000 in
set_option maxRecDepth 100000 in
theorem parts_ok (s : ByteArray) (w : World) (hs : s.size ≤ 100000) (hp : isPath s = true) :
    Calls Try.prog 45 #[.string s] w fun e w' => ∃ v, e = .returned (.tuple #[v, .nilIface]) ∧ Strs w.heap.size v (parts s) w w' := by
  have h1 := cut_ok s w hs hp
  have hlen := path_len hp
  have HS : Hid (∀ x ∈ parts s, x.size ≤ 140737488355328) := fun x hx => by have := parts_size s x hx; omega
  clear hp
  generalize parts s = l at *
  obtain ⟨n, hn⟩ : ∃ n, n = l.length := ⟨_, rfl⟩
  rw [← hn] at hlen
  have HN : Hid (n = l.length) := hn
  clear hn
  go_enter Try.func45, Try.ntmps45
  go_wp2_with (go_at_call 46; refine h1.mono ?_; rintro e w1 ⟨v, rfl, hb⟩; obtain ⟨g, cap, rfl, hnc, hcm, hBg, _, _⟩ := hb.formN HN.out (by omega))
  go_loopw [18] (fun t18 wr => ∃ j : Nat, t18 = .int .i64 j ∧ j ≤ n ∧ Strs w.heap.size (.slice (some ⟨g, 0, none⟩) n cap) l w wr) (fun t18 _ => n - (intOf t18).toNat)
  case atStart => exact ⟨0, rfl, by omega, hb⟩
  case round =>
    obtain ⟨j, rfl, hj, hbr⟩ := hrel
    by_cases hjn : j < n
    · have hjl : j < l.length := by rw [← HN.out]; exact hjn
      have hown := hbr.1
      rw [← HN.out] at hown
      have hcell : wr.cell? ⟨g, j, none⟩ = some (.string (l.getD j ByteArray.empty)) := by rw [hown.cellAt j (by omega), sv_at l j hjl]
      obtain ⟨x, hx⟩ : ∃ x, x = l.getD j ByteArray.empty := ⟨_, rfl⟩
      have hxs : x.size ≤ 140737488355328 := HS.out x (by rw [hx]; simp [List.getD_eq_getElem?_getD, List.getElem?_eq_getElem hjl])
      have hset := sv_set l j x hjl hx
      rw [← hx] at hcell
      clear hx hown
      go_wp2_with (go_at_call 50; refine (clone_any x wr hxs).mono ?_; rintro e w2 ⟨rfl, hb2⟩; have hbs := hbr.later hb2; have hown2 := hbs.1; rw [← HN.out] at hown2; have hfz := hown2.frozenAt j; have hst := hown2.stored j (.string x); have hcell2 := cell_later hb2 hcell)
      go_roundw
      case rel =>
        rw [hset] at hst
        exact ⟨j + 1, by go_num, by omega, hbs.grown (by rw [← HN.out]; exact hst.1) hst.2⟩
      case measure => simp [intOf]; omega
    · go_wp2
      go_ret2
      exact ⟨_, rfl, hbr⟩

theorem lens_le (l : List (List UInt8)) (M : Nat) (h : ∀ x ∈ l, x.length ≤ M) : Lib.lens l ≤ l.length * M := by
  induction l with
  | nil => simp [Lib.lens]
  | cons y l ih =>
    have h1 := h y (by simp)
    have h2 := ih (fun x hx => h x (by simp [hx]))
    simp only [Lib.lens, List.map_cons, List.sum_cons, List.length_cons] at h2 ⊢
    rw [Nat.succ_mul]
    omega

theorem join_len (l : List (List UInt8)) (M : Nat) (h : ∀ x ∈ l, x.length ≤ M) : (Lib.join l [47]).length ≤ l.length * (M + 1) := by
  cases l with
  | nil => simp [Lib.join_nil]
  | cons x r =>
    rw [Lib.join_length]
    have := lens_le (x :: r) M h
    simp only [List.length_cons, List.length_nil, Nat.zero_add, Nat.one_mul] at this ⊢
    rw [Nat.mul_succ]
    omega

theorem joined_size (l : List ByteArray) (M : Nat) (h : ∀ x ∈ l, x.size ≤ M) : (joined l).size ≤ l.length * (M + 1) := by
  have e : (joined l).size = (Lib.join (l.map (·.data.toList)) [47]).length := by simp [joined, ByteArray.size]
  rw [e]
  have := join_len (l.map (·.data.toList)) M (by
    intro x hx
    obtain ⟨y, hy, rfl⟩ := List.mem_map.1 hx
    have h1 := h y hy
    rw [Lib.size_eq] at h1
    exact h1)
  rw [List.length_map] at this
  exact this

/-- What the program tells for a path's parent. -/
def up (s : ByteArray) : ByteArray := joined ((parts s).take ((parts s).length - 1))

theorem Lies.take {w : World} {a : Option Addr} {l : List ByteArray} (h : Lies w a l) (m : Nat) : Lies w a (l.take m) := by
  rcases h with rfl | ⟨x, rfl, h⟩
  · exact Or.inl (by simp)
  · refine Or.inr ⟨x, rfl, fun j hj => ?_⟩
    rw [List.length_take] at hj
    rw [h j (by omega)]
    simp [List.getD_eq_getElem?_getD, show j < m by omega]
end Go.Proofs.Ytanlanolblbckaa.Route
