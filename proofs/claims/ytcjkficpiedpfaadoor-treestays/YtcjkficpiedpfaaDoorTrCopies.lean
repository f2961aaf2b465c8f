/-
  Entries in new memory, and whether two rows of files are the same: the law's 'Copy' and 'Files'.
-/
import Derived.Test.YtcjkficpiedpfaaDoorTrRest2
import Derived.Test.YtcjkficpiedpfaaDoorTrUp
namespace Go.Proofs.YtcjkficpiedpfaaDoor.Tree
open Go.RowKit Route Chunk

theorem fresh_texts (w : World) : Strs w.heap.size (.slice (some ⟨w.heap.size, 0, none⟩) 0 0) [] w (w.alloc (.cells #[] 9)) :=
  ⟨World.ownsRow_lit w #[] 0 (Nat.le_refl _) (Nat.zero_le _) rfl, (Below.refl _ _).alloc (Nat.le_refl _) _, Nat.le_of_lt (by simp)⟩

theorem fresh_at (w : World) (b : Nat) (h : b = w.heap.size) : Strs w.heap.size (.slice (some ⟨b, 0, none⟩) 0 0) [] w (w.alloc (.cells #[] 9)) := by
  subst h; exact fresh_texts w

set_option maxHeartbeats 4000000 in
set_option maxRecDepth 100000 in
theorem copy_any (a : Option Addr) (n cap : Nat) (l : List (ByteArray × Int × List ByteArray)) (w : World) (hn0 : n = l.length) (hl0 : LiesE w a l) (hnm : n ≤ 1000) (hks : ∀ j, j < n → (entOf l j).2.2.length ≤ 1000000) :
    Calls Tryd.prog 25 #[.slice a n cap] w fun e w' => ∃ v Z, e = .returned v ∧ Ents w.heap.size v Z w w' ∧ Z.map (·.1) = l := by
  have HN : Hid (n = l.length) := hn0
  have HL : Hid (LiesE w a l) := hl0
  have HK : Hid (∀ j, j < n → (entOf l j).2.2.length ≤ 1000000) := hks
  clear hn0 hl0 hks
  go_enter Tryd.func25, Tryd.ntmps25
  go_wp2
  go_loopw [3, 4, 5] (fun t3 t4 _ wr => ∃ (i : Nat) (Z : List ((ByteArray × Int × List ByteArray) × Value)), t4 = .int .i64 (i : Int) ∧ i ≤ n ∧ Ents w.heap.size t3 Z w wr ∧ Hid (Z.map (·.1) = l.take i)) (fun _ t4 _ _ => n - (intOf t4).toNat)
  case atStart => exact ⟨0, [], rfl, Nat.zero_le _, Ents.nil w, rfl⟩
  case round =>
    obtain ⟨i, Z, rfl, hi, hen, HZ⟩ := hrel
    by_cases hin : i < n
    · obtain ⟨x, hx, g0, g1, ka, kc, g2, hk⟩ := (HL.out.below hen.2.1 (Nat.le_refl _)).at (j := i) (by rw [← HN.out]; exact hin)
      subst hx
      have HZN : Hid (l.take (i + 1) = l.take i ++ [entOf l i]) := take_succ_ent (by rw [← HN.out]; exact hin)
      have hkl := HK.out i hin
      generalize entOf l i = en at g0 g1 g2 hk HZN hkl
      obtain ⟨p, sz, ks⟩ := en
      have hix := index_ent x n cap i hin
      simp only at g0 g1 g2 hk hkl
      obtain ⟨kn, hkn⟩ : ∃ kn, kn = ks.length := ⟨_, rfl⟩
      have HKN : Hid (kn = ks.length) := hkn
      rw [← hkn] at g2 hkl
      have HQL : Hid (∀ W, Below wr.heap.size wr W → W.cell? ⟨(x.add (i * 3)).block, (x.add (i * 3)).off + 2, none⟩ = some (.slice ka kn kc)) := fun W hb => cell_kept hb g2
      generalize x.add (i * 3) = q at g0 g1 g2 hix HQL
      obtain ⟨W5, hW5⟩ : ∃ W5, W5 = wr.alloc (.cells #[.string p, .int .i64 sz, .slice ka kn kc] 30) := ⟨_, rfl⟩
      have HW5 : Hid (wr.alloc (.cells #[.string p, .int .i64 sz, .slice ka kn kc] 30) = W5) := hW5.symm
      have HS5 : Hid (W5.heap.size = wr.heap.size + 1) := by rw [hW5]; show _ = _; simp
      have HB5 : Hid (Below wr.heap.size wr W5) := by rw [hW5]; exact (Below.refl _ _).alloc (Nat.le_refl _) _
      have HKI : Hid (KeysIn W5 ka kc ks) := hk.below HB5.out (Nat.le_refl _)
      have HEN : Hid (Ents w.heap.size u3 Z w wr) := hen
      have HZL : Hid (Z.length ≤ 1000) := by
        show _ ≤ _
        have := congrArg List.length HZ.out
        simp only [List.length_map, List.length_take] at this
        omega
      have hqb : q.block < wr.heap.size := World.block_lt_of_cell? wr _ g0
      rw [← HW5.out] at HKI HB5 HS5
      clear hen hk hkn hW5 HQL HW5
      go_wp2_with (first
        | (at_builtin; refine wpList_strs rfl (.tmp 16) (.tmp 21) rfl (wr.alloc (.cells #[.string p, .int .i64 sz, .slice ka kn kc] 30)).heap.size _ [] rfl (wr.alloc (.cells #[.string p, .int .i64 sz, .slice ka kn kc] 30)) (fresh_at _ _ (by simp)) ks ka kn kc rfl HKN.out (HKI.out.1.below ((Below.refl _ _).alloc (Nat.le_refl _) _) (Nat.le_refl _)) HKI.out.2.2.2 (by rw [HKN.out]; exact HKI.out.2.1) (by show 0 + kn ≤ _; omega) ?_; rw [List.nil_append]; intro v6 w6 hs6; obtain ⟨a6, cap6, rfl, _, _, _⟩ := hs6.liesN HKN.out; obtain ⟨⟨q0, q1, q2⟩, q3, q4, q5⟩ := ent_box2 hs6.2.1; have HS6 : Hid (Strs (wr.alloc (.cells #[.string p, .int .i64 sz, .slice ka kn kc] 30)).heap.size (.slice a6 kn cap6) ks (wr.alloc (.cells #[.string p, .int .i64 sz, .slice ka kn kc] 30)) w6) := hs6; clear hs6)
        | (at_builtin; refine wpList_ent_at rfl (.tmp 24) (.tmp 26) rfl w.heap.size _ Z rfl w (w6.setCell ⟨wr.heap.size, 2, none⟩ (.slice a6 kn cap6)) p sz ks (.slice a6 kn cap6) (HEN.out.later ((HB5.out.trans (HS6.out.2.1.mono (by have := HS5.out; omega))).setCell (show wr.heap.size ≤ wr.heap.size from Nat.le_refl _) _)) (own_any (own_far HS6.out.1 (by have := HS5.out; omega)) (Nat.le_trans HEN.out.2.2.1 (by have := HS5.out; omega))) _ rfl (by simp) (by have := HZL.out; omega) ?_; intro v7 w7 hb7))
      go_roundw
      case rel => exact ⟨i + 1, Z ++ [((p, sz, ks), .slice a6 kn cap6)], by go_num, by omega, hb7, by show _ = _; rw [HZN.out, List.map_append, HZ.out]; rfl⟩
      case measure => simp [intOf]; omega
    · have HE : Hid (Z.map (·.1) = l) := by
        have := HZ.out
        rw [List.take_of_length_le (by rw [← HN.out]; omega)] at this
        exact this
      go_wp2
      go_ret
      exact ⟨_, Z, rfl, hen, HE.out⟩

theorem eqFile (p q p' q' : ByteArray) (w : World) : (binOp .eql 58 (.agg #[.string p, .string q]) (.agg #[.string p', .string q'])).run Tryd.prog w = .ok (.bool (decide (p = p' ∧ q = q'))) w := by
  have u9 := Tryd.underlying9
  have a9 := Tryd.isAgg9
  have z9 := Tryd.sizeOf9
  have hS : Tryd.prog.underlying 58 = some (.struct (Tryd.prog.fieldsOf 58)) := by kernel_rfl
  have hp : Tryd.prog.stoodInHeld 58 = false := by kernel_rfl
  rw [run_eql_struct, show (10000 : Nat) = 9999 + 1 from rfl, run_equalIn_agg w 9999 58 _ _ hS hp]
  simp only [Program.fieldsOf, Tryd.underlying58]
  go_simp
  have e : ∀ a b : ByteArray, a.toList = b.toList ↔ a = b := fun a b => ⟨list_eq, fun h => by rw [h]⟩
  by_cases h1 : p = p' <;> by_cases h2 : q = q' <;> simp [e, h1, h2]

theorem neFile (p q : ByteArray) (w : World) : (binOp .neq 58 (.agg #[.string p, .string q]) (.agg #[.string p, .string q])).run Tryd.prog w = .ok (.bool false) w := by
  have h := eqFile p q p q w
  rw [run_eql_struct] at h
  rw [run_neq_struct]
  cases e : (Op.equalIn 10000 58 (.agg #[.string p, .string q]) (.agg #[.string p, .string q])).run Tryd.prog w with
  | ok b w' =>
    rw [e] at h
    simp [Result.andThen] at h ⊢
    exact ⟨by rw [h.1], h.2⟩
  | halt x w' =>
    rw [e] at h
    simp [Result.andThen] at h

set_option maxHeartbeats 4000000 in
set_option maxRecDepth 100000 in
theorem files_yes (a a' : Option Addr) (n cap cap' : Nat) (l : List (ByteArray × ByteArray)) (w : World) (hn0 : n = l.length) (hl : LiesF w a l) (hl' : LiesF w a' l) (hnm : n ≤ 1000) :
    Calls Tryd.prog 24 #[.slice a n cap, .slice a' n cap'] w fun e w' => e = .returned (.bool true) ∧ Below w.heap.size w w' := by
  have HN : Hid (n = l.length) := hn0
  have HL : Hid (LiesF w a l) := hl
  have HL' : Hid (LiesF w a' l) := hl'
  clear hn0 hl hl'
  go_enter Tryd.func24, Tryd.ntmps24
  go_wp2
  go_loopw [4, 5] (fun t4 t5 wr => ∃ i q : Nat, t4 = .bool false ∧ t5 = .int .i64 (i : Int) ∧ i ≤ n ∧ wr = w.drewN q) (fun _ t5 _ => n - (intOf t5).toNat)
  case atStart => exact ⟨0, 0, rfl, rfl, Nat.zero_le _, rfl⟩
  case round =>
    obtain ⟨i, q, rfl, rfl, hi, rfl⟩ := hrel
    by_cases hin : i < n
    · obtain ⟨x, hx, g0, g1⟩ := HL.out.at (j := i) (by rw [← HN.out]; exact hin)
      obtain ⟨x', hx', g0', g1'⟩ := HL'.out.at (j := i) (by rw [← HN.out]; exact hin)
      subst hx
      subst hx'
      generalize fileOf l i = en at g0 g1 g0' g1'
      obtain ⟨p, b⟩ := en
      have hix := index_file x n cap i hin
      have hix' := index_file x' n cap' i hin
      simp only at g0 g1 g0' g1'
      generalize x.add (i * 2) = q1 at g0 g1 hix
      generalize x'.add (i * 2) = q2 at g0' g1' hix'
      have hne := neFile p b
      go_wp2_with fail
      go_quiet (fail)
      go_wp2
      go_roundw
      case rel => exact ⟨i + 1, q + nq, rfl, by go_num, by omega, by first | rfl | rw [World.drewN_drewN]⟩
      case measure => simp [intOf]; omega
    · go_wp2
      go_ret
      exact ⟨rfl, below_drewN (Below.refl _ _) _⟩
end Go.Proofs.YtcjkficpiedpfaaDoor.Tree
