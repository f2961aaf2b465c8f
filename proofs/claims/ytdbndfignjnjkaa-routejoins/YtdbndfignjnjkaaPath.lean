/-
  Parts in one text: the program's 'newPath' and 'Join', and the document's test of a path.
-/
import Derived.Test.YtdbndfignjnjkaaCut
import Derived.Test.YtdbndfignjnjkaaShelf
namespace Go.Proofs.Ytdbndfignjnjkaa
open Go.RowKit

theorem libJoin_any (a : Option Addr) (l : List ByteArray) (n cap : Nat) (w : World) (hn : n = l.length) (hl : Lies w a l) (hcap : n ≤ cap) (hn2 : n ≤ 140737488355328) (hlen : (joined l).size ≤ 140737488355328) :
    Calls Try.prog 25 #[.slice a n cap, .string ⟨#[47]⟩] w fun e w' => e = .returned (.string (joined l)) ∧ Below w.heap.size w w' := by
  by_cases h0 : n = 0
  · have e : l = [] := List.eq_nil_of_length_eq_zero (by omega)
    subst e; subst h0
    refine (Try.strings_Join_none a cap ⟨#[47]⟩ w).mono ?_
    rintro e w' ⟨rfl, rfl⟩
    exact ⟨rfl, Below.refl _ _⟩
  · obtain ⟨b, off, rfl, hc⟩ := hl.at (by omega)
    subst hn
    have hcs : ∀ (j : Nat) x, l[j]? = some x → w.cell? ⟨b, off + j, none⟩ = some (.string x) := fun j x hx => by
      have hj : j < l.length := (List.getElem?_eq_some_iff.1 hx).1
      rw [hc j hj]
      simp [List.getD_eq_getElem?_getD, hx]
    exact Try.strings_Join b off cap l ⟨#[47]⟩ w hcs (World.block_lt_of_cell? w _ (hc 0 (by omega))) hn2 hcap (by
      have e : (joined l).size = (Lib.join (l.map (·.data.toList)) [47]).length := by simp [joined, ByteArray.size]
      rw [e] at hlen
      exact hlen)

set_option maxHeartbeats 1000000 in
theorem clone_any (s : ByteArray) (w : World) (hs : s.size ≤ 140737488355328) :
    Calls Try.prog 19 #[.string s] w fun e w' => e = .returned (.string s) ∧ Below w.heap.size w w' := by
  go_enter Try.func19, Try.ntmps19
  go_wp2_with fail
  refine (Try.stringslite_Clone s w (by omega)).mono ?_
  rintro e w1 ⟨rfl, hb⟩
  go_wp2
  go_ret
  exact ⟨rfl, hb⟩

set_option maxHeartbeats 1000000 in
theorem newPath_any (a : Option Addr) (l : List ByteArray) (n cap : Nat) (w : World) (hn : n = l.length) (hl : Lies w a l) (hcap : n ≤ cap) (hn2 : n ≤ 140737488355328) (hlen : (joined l).size ≤ 140737488355328) :
    Calls Try.prog 20 #[.slice a n cap] w fun e w' => e = .returned (.string (joined l)) ∧ Below w.heap.size w w' := by
  have h1 := libJoin_any a l n cap w hn hl hcap hn2 hlen
  have h2 := fun w1 => clone_any (joined l) w1 hlen
  generalize joined l = J at h1 h2
  clear hn hl hlen
  go_enter Try.func20, Try.ntmps20
  go_wp2_with (first | (go_at_call 25; refine h1.mono ?_; rintro e w1 ⟨rfl, hb1⟩) | (go_at_call 19; refine (h2 _).mono ?_; rintro e w2 ⟨rfl, hb2⟩))
  go_ret
  exact ⟨rfl, hb1.trans (hb2.mono hb1.size)⟩

set_option maxHeartbeats 1000000 in
theorem join_ok (a : Option Addr) (l : List ByteArray) (n cap : Nat) (w : World) (hn : n = l.length) (hl : Lies w a l) (hcap : n ≤ cap) (hn2 : n ≤ 140737488355328) (hlen : (joined l).size ≤ 140737488355328) (hok : arePath l = true) :
    Calls Try.prog 14 #[.slice a n cap] w fun e w' => e = .returned (.tuple #[.string (joined l), .nilIface]) ∧ Below w.heap.size w w' := by
  have h1 := arePath_any a l n cap w hn hl hn2
  rw [hok] at h1
  have h2 : Hid (∀ w1, Below w.heap.size w w1 → Calls Try.prog 20 #[.slice a n cap] w1 fun e w' => e = .returned (.string (joined l)) ∧ Below w1.heap.size w1 w') := fun w1 hb => newPath_any a l n cap w1 hn (hl.below hb (Nat.le_refl _)) hcap hn2 hlen
  generalize joined l = J at h2
  clear hn hl hlen
  go_enter Try.func14, Try.ntmps14
  go_wp2_with (first | (go_at_call 21; refine h1.mono ?_; rintro e w1 ⟨rfl, hb1⟩) | (go_at_call 20; refine (h2.out _ hb1).mono ?_; rintro e w2 ⟨rfl, hb2⟩))
  go_ret2
  exact ⟨rfl, hb1.trans (hb2.mono hb1.size)⟩

set_option maxHeartbeats 1000000 in
theorem join_no (a : Option Addr) (l : List ByteArray) (n cap : Nat) (w : World) (hn : n = l.length) (hl : Lies w a l) (hn2 : n ≤ 140737488355328) (hok : arePath l = false) :
    Calls Try.prog 14 #[.slice a n cap] w fun e w' => e = .returned (.tuple #[.string ⟨#[]⟩, .iface 30 (.int .i64 2)]) ∧ Below w.heap.size w w' := by
  have h1 := arePath_any a l n cap w hn hl hn2
  rw [hok] at h1
  clear hn hl
  go_enter Try.func14, Try.ntmps14
  go_wp2_with (go_at_call 21; refine h1.mono ?_; rintro e w1 ⟨rfl, hb1⟩)
  go_ret2
  exact ⟨rfl, hb1⟩

theorem extract_size_le (s : ByteArray) (i j : Nat) : (s.extract i j).size ≤ s.size := by
  rw [ByteArray.size_extract]; omega

theorem pieces_size (s : ByteArray) (fuel start i : Nat) : ∀ x ∈ pieces s fuel start i, x.size ≤ s.size := by
  induction fuel generalizing start i with
  | zero => intro x hx; simp [pieces] at hx; subst hx; exact extract_size_le _ _ _
  | succ f ih =>
    intro x hx
    simp only [pieces] at hx
    split at hx
    · split at hx
      · rcases List.mem_cons.1 hx with rfl | hx
        · exact extract_size_le _ _ _
        · exact ih _ _ x hx
      · exact ih _ _ x hx
    · simp at hx; subst hx; exact extract_size_le _ _ _

theorem pieces_count (s : ByteArray) (fuel start i : Nat) : (pieces s fuel start i).length ≤ fuel + 1 := by
  induction fuel generalizing start i with
  | zero => simp [pieces]
  | succ f ih =>
    simp only [pieces]
    split
    · split
      · have := ih (i + 1) (i + 1); simp only [List.length_cons]; omega
      · have := ih start (i + 1); omega
    · simp

theorem parts_count (s : ByteArray) : (parts s).length ≤ s.size + 1 := pieces_count s _ _ _
theorem parts_size (s : ByteArray) : ∀ x ∈ parts s, x.size ≤ s.size := pieces_size s _ _ _

set_option maxHeartbeats 1000000 in
theorem path_any (s : ByteArray) (w : World) (hs : s.size ≤ 100000) :
    Calls Try.prog 10 #[.string s] w fun e w' => e = .returned (.bool (isPath s)) ∧ Below w.heap.size w w' := by
  obtain ⟨n, hn⟩ : ∃ n, n = (parts s).length := ⟨_, rfl⟩
  have hnn : n ≤ 100001 := by rw [hn]; have := parts_count s; omega
  have h2 : Hid (∀ a1 cap1 w1, Lies w1 a1 (parts s) → Calls Try.prog 15 #[.slice a1 n cap1] w1 fun e w' => e = .returned (.bool (isPath s)) ∧ w1 = w') := fun a1 cap1 w1 h1 =>
    refParts_any a1 (parts s) n cap1 w1 hn h1 (by omega) (fun x hx => by have := parts_size s x hx; omega)
  have HN : Hid (n = (parts s).length) := hn
  clear hn
  generalize isPath s = r at h2
  go_enter Try.func10, Try.ntmps10
  go_wp2_with (first | (go_at_call 12; refine (split_any s w hs).mono ?_; rintro e w1 ⟨v, rfl, hb⟩; obtain ⟨a1, cap1, rfl, hc1, hcm1, hl1⟩ := hb.liesN HN.out) | (go_at_call 15; refine (h2.out _ _ _ hl1).mono ?_; rintro e w2 ⟨rfl, rfl⟩))
  go_ret
  exact ⟨rfl, hb.2.1⟩
end Go.Proofs.Ytdbndfignjnjkaa
