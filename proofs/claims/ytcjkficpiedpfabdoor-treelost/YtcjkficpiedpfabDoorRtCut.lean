/-
  What stands between slashes: the program's answer ('cut').
-/
import Derived.Test.YtcjkficpiedpfabDoorRtSplit
namespace Go.Proofs.YtcjkficpiedpfabDoor.Route
open Go.RowKit

set_option maxHeartbeats 4000000 in
set_option maxRecDepth 100000 in
theorem cut_any (s : ByteArray) (w : World) (hs : s.size ≤ 100000) :
    Calls Tryd.prog 43 #[.string s] w fun e w' => ∃ v, e = .returned (.tuple #[v, .bool (isPath s)]) ∧ Strs w.heap.size v (if isPath s then parts s else []) w w' := by
  obtain ⟨z, hz⟩ : ∃ z, z = s.size := ⟨_, rfl⟩
  have HZ : Hid (z = s.size) := hz
  obtain ⟨r, hr⟩ : ∃ r, r = isPath s := ⟨_, rfl⟩
  have HR : Hid (r = isPath s) := hr
  rw [← hr]
  obtain ⟨L, hL⟩ : ∃ L, L = if r then parts s else [] := ⟨_, rfl⟩
  have HL : Hid (L = if r then parts s else []) := hL
  rw [← hL]
  rw [← hz] at hs
  clear hz hr hL
  go_enter Tryd.func43, Tryd.ntmps43
  go_wp2
  go_loopw [2, 3, 4, 5] (fun t2 t3 t4 t5 wr => t2 = .slice none 0 0 ∧ t3 = .bool false ∧ ∃ (pos start fuel : Nat) (l : List ByteArray), t5 = .int .i64 start ∧ pos ≤ z ∧ start ≤ pos ∧ l.length < 8 ∧ wr.ownsRow (w.heap.size + 1) 9 1 t4 l.length (sv l) ∧ wr.heap[w.heap.size]? = some (.stringIter s pos) ∧ Below w.heap.size w wr ∧ z ≤ pos + fuel ∧ Hid (parts s = l ++ pieces s fuel start pos)) (fun _ _ _ _ wr => z - wr.iterPos w.heap.size)
  case atStart =>
    refine ⟨rfl, rfl, 0, 0, z, [], rfl, by omega, by omega, by simp, World.ownsRow_nil _ _ 9 1, World.iter_heap w s 0, (Below.refl _ w).alloc (Nat.le_refl _) _, by omega, ?_⟩
    show parts s = _
    rw [parts, ← HZ.out]; rfl
  case round =>
    obtain ⟨rfl, rfl, pos, start, fuel, l, rfl, hpz, hst, hl8, hown, hit, hbw, hfu, HP⟩ := hrel
    have hsz : w.heap.size + 1 ≤ wr.heap.size := (Array.getElem?_eq_some_iff.1 hit).1
    by_cases hp : pos < z
    · have hps : pos < s.size := by rw [← HZ.out]; exact hp
      have hnx : ∀ ty, (Instr.next (.pointer (some ⟨w.heap.size, 0, none⟩)) true ty).run Tryd.prog wr = _ := fun ty => Lib.run_next_any_at wr w.heap.size s pos ty hit hps
      have hwd := width_pos s pos hps
      have hd1 := decode_le s pos
      have hit2 := Lib.iterAt_heap wr w.heap.size s pos (pos + (Utf8.decode s pos).2) hit
      have hbw2 := Lib.below_iterAt hbw (k := w.heap.size) (by omega) s (pos + (Utf8.decode s pos).2)
      have hown2 := ownsRow_iterAt hown (k := w.heap.size) (by omega) s (pos + (Utf8.decode s pos).2)
      have hsz2 : w.heap.size + 1 ≤ (wr.iterAt w.heap.size s (pos + (Utf8.decode s pos).2)).heap.size := by rw [Lib.iterAt_size]; exact hsz
      have hns := step_no_slash s pos
      have hbb : (Utf8.decode s pos).1 = 47 ↔ bt s pos = 47 := by
        rcases decode_wid s pos hps with ⟨_, e, _⟩ | ⟨h, e, _⟩ | ⟨h, h2, _⟩
        · rw [e]
        · rw [e]; omega
        · omega
      have hw1 : (Utf8.decode s pos).1 = 47 → (Utf8.decode s pos).2 = 1 := fun e => by
        rcases decode_wid s pos hps with ⟨_, e2, _⟩ | ⟨h, _⟩ | ⟨h, _⟩
        · rw [e2]
        · have := hbb.1 e; omega
        · have := hbb.1 e; omega
      have hpd : pos + (Utf8.decode s pos).2 ≤ z := by
        have hz := HZ.out
        have := hns ((Utf8.decode s pos).2 - 1) hps
        by_cases h1 : (Utf8.decode s pos).2 = 1
        · omega
        · have := this (by omega) (by omega); omega
      generalize hW2 : wr.iterAt w.heap.size s (pos + (Utf8.decode s pos).2) = wr2 at *
      by_cases h47 : (Utf8.decode s pos).1 = 47
      · have hd2 := hw1 h47
        rw [hd2] at hit2 hpd
        obtain ⟨f, rfl⟩ : ∃ f, fuel = f + 1 := ⟨fuel - 1, by omega⟩
        have HN : Hid (parts s = (l ++ [s.extract start pos]) ++ pieces s f (pos + 1) (pos + 1)) := by
          have := HP.out
          rw [pieces_slash s f start pos hps (hbb.1 h47)] at this
          show _ = _
          rw [this]; simp
        have hsl : ∀ wx : World, (Instr.slice 9 (.string s) (some (.int .i64 (start : Int))) (some (.int .i64 (pos : Int))) none).run Tryd.prog wx = .ok (.string (s.extract start pos)) wx := fun wx => by
          have := run_slice_string (P := Tryd.prog) wx 9 s .i64 .i64 (start : Int) (pos : Int) Tryd.underlying9 (by omega) (by omega) (by omega)
          simpa using this
        generalize (Utf8.decode s pos).1 = ch at *
        subst h47
        clear HP hps hns hbb hw1 hwd hd1
        generalize s.extract start pos = x at HN hsl
        have hb0 : Strs (w.heap.size + 1) _ l wr2 wr2 := ⟨hown2, Below.refl _ _, hsz2⟩
        obtain ⟨m, hm⟩ : ∃ m, m = (l ++ [x]).length := ⟨_, rfl⟩
        have hm2 : m ≤ 8 := by rw [hm]; simp; omega
        have HM : Hid (m = (l ++ [x]).length) := hm
        clear hm
        by_cases hl7 : m = 8
        · subst hl7
          go_wp2_with (at_builtin; refine wpList_str rfl (.tmp 16) (.tmp 21) rfl (w.heap.size + 1) _ l rfl wr2 wr2 x hb0 rfl (by omega) ?_; intro v' w1 hb1; obtain ⟨a1, cap1, rfl, hc1, hcm1, hl1⟩ := hb1.liesN HM.out)
          go_ret2
          have hr : r = false := by
            rw [HR.out, isPath, HN.out]
            exact arePath_many _ _ (by rw [← HM.out]; omega) (pieces_ne s f _ _)
          subst hr
          obtain rfl : L = [] := HL.out
          exact ⟨_, rfl, World.ownsRow_nil _ _ 9 1, hbw2.trans (hb1.2.1.mono (by omega)), by have := hb1.2.2; omega⟩
        · have hne : ((m : Int) == 8) = false := by simp; omega
          go_wp2_with (at_builtin; refine wpList_str rfl (.tmp 16) (.tmp 21) rfl (w.heap.size + 1) _ l rfl wr2 wr2 x hb0 rfl (by omega) ?_; intro v' w1 hb1; obtain ⟨a1, cap1, rfl, hc1, hcm1, hl1⟩ := hb1.liesN HM.out)
          have hit3 : w1.heap[w.heap.size]? = some (.stringIter s (pos + 1)) := (hb1.2.1.block _ (by omega)).trans hit2
          go_roundw
          case rel => exact ⟨rfl, rfl, pos + 1, pos + 1, f, l ++ [x], by go_num, by omega, by omega, by rw [← HM.out]; omega, hb1.1, hit3, hbw2.trans (hb1.2.1.mono (by omega)), by omega, HN⟩
          case measure =>
            simp only [World.iterPos, hit3, hit]
            omega
      · have hskip : ∀ j, j < (Utf8.decode s pos).2 → pos + j < s.size ∧ bt s (pos + j) ≠ 47 := fun j hj => by
          by_cases h0 : j = 0
          · subst h0
            exact ⟨hps, fun e => h47 (hbb.2 e)⟩
          · exact hns j hps (by omega) hj
        have HN : Hid (parts s = l ++ pieces s fuel start (pos + (Utf8.decode s pos).2)) := by
          have hz := HZ.out
          have := HP.out
          rw [pieces_fuel s fuel (fuel + (Utf8.decode s pos).2) start pos (by omega) (by omega), pieces_skip s fuel start pos _ hskip] at this
          exact this
        have hne : (((Utf8.decode s pos).1 : Int) == 47) = false := by simp; omega
        clear HP hps hns hbb hw1 hskip
        go_wp2
        go_roundw
        case rel => exact ⟨rfl, rfl, pos + (Utf8.decode s pos).2, start, fuel, l, rfl, by omega, by omega, hl8, hown2, hit2, hbw2, by omega, HN⟩
        case measure =>
          simp only [World.iterPos, hit2, hit]
          omega
    · have hps : ¬ pos < s.size := by rw [← HZ.out]; exact hp
      have hnx : ∀ ty, (Instr.next (.pointer (some ⟨w.heap.size, 0, none⟩)) true ty).run Tryd.prog wr = _ := fun ty => Lib.run_next_end_at wr w.heap.size s pos ty hit hps
      have HN : Hid (parts s = l ++ [s.extract start z]) := by
        have := HP.out
        rw [pieces_end s fuel start pos hps, ← HZ.out] at this
        exact this
      have hsl : ∀ wx : World, (Instr.slice 9 (.string s) (some (.int .i64 (start : Int))) none none).run Tryd.prog wx = .ok (.string (s.extract start z)) wx := fun wx => by
        have hz := HZ.out
        rw [run_slice_string_from_if (P := Tryd.prog) wx 9 s .i64 (start : Int) Tryd.underlying9, if_pos ⟨by omega, by omega⟩, hz]
        rfl
      have hb0 : Strs (w.heap.size + 1) _ l wr wr := ⟨hown, Below.refl _ _, hsz⟩
      clear HP hps
      generalize s.extract start z = x at HN hsl
      obtain ⟨m, hm⟩ : ∃ m, m = (l ++ [x]).length := ⟨_, rfl⟩
      have hm2 : m ≤ 8 := by rw [hm]; simp; omega
      have HM : Hid (m = (l ++ [x]).length) := hm
      clear hm
      have hap : Hid (∀ a1 cap1 w1, Lies w1 a1 (l ++ [x]) → Calls Tryd.prog 60 #[.slice a1 m cap1] w1 fun e w' => e = .returned (.bool r) ∧ Below w1.heap.size w1 w') := fun a1 cap1 w1 h1 => by
        have := arePath_any a1 (l ++ [x]) m cap1 w1 HM.out h1 (by omega)
        rw [← HN.out, show arePath (parts s) = r from HR.out.symm] at this
        exact this
      cases r with
      | true =>
        go_wp2_with (first | (at_builtin; refine wpList_str rfl (.tmp 28) (.tmp 32) rfl (w.heap.size + 1) _ l rfl wr wr x hb0 rfl (by omega) ?_; intro v' w1 hb1; obtain ⟨a1, cap1, rfl, hc1, hcm1, hl1⟩ := hb1.liesN HM.out) | (go_at_call 60; refine (hap.out a1 cap1 w1 hl1).mono ?_; rintro e w2 ⟨rfl, hb2⟩))
        go_ret2
        have hbT := hb1.later hb2
        exact ⟨_, rfl, by
          rw [show L = l ++ [x] from HL.out.trans HN.out]
          exact ⟨own_mono hbT.1 (by omega), hbw.trans (hbT.2.1.mono (by omega)), by have := hbT.2.2; omega⟩⟩
      | false =>
        go_wp2_with (first | (at_builtin; refine wpList_str rfl (.tmp 28) (.tmp 32) rfl (w.heap.size + 1) _ l rfl wr wr x hb0 rfl (by omega) ?_; intro v' w1 hb1; obtain ⟨a1, cap1, rfl, hc1, hcm1, hl1⟩ := hb1.liesN HM.out) | (go_at_call 60; refine (hap.out a1 cap1 w1 hl1).mono ?_; rintro e w2 ⟨rfl, hb2⟩))
        go_ret2
        have hbT := hb1.later hb2
        obtain rfl : L = [] := HL.out
        exact ⟨_, rfl, World.ownsRow_nil _ _ 9 1, hbw.trans (hbT.2.1.mono (by omega)), by have := hbT.2.2; omega⟩
end Go.Proofs.YtcjkficpiedpfabDoor.Route
