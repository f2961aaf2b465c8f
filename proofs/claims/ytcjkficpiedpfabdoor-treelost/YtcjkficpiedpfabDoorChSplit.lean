/-
  A text cut into chunks: the program's 'Split'.
-/
import Derived.Test.YtcjkficpiedpfabDoorChFirst
namespace Go.Proofs.YtcjkficpiedpfabDoor.Chunk
open Go.RowKit Route

set_option maxHeartbeats 1000000 in
theorem clone_any (s : ByteArray) (w : World) (hs : s.size ≤ 140737488355328) :
    Calls Tryd.prog 21 #[.string s] w fun e w' => e = .returned (.string s) ∧ Below w.heap.size w w' := by
  go_enter Tryd.func21, Tryd.ntmps21
  go_wp2_with fail
  refine (Tryd.stringslite_Clone s w (by omega)).mono ?_
  rintro e w1 ⟨rfl, hb⟩
  go_wp2
  go_ret
  exact ⟨rfl, hb⟩

theorem slice_to (l : List UInt8) (p : Nat) (h : p ≤ l.length) (w : World) : (Instr.slice 9 (.string (ofL l)) none (some (.int .i64 (p : Int))) none).run Tryd.prog w = .ok (.string (ofL (l.take p))) w := by
  have := run_slice_string_h (P := Tryd.prog) (t := 9) (w := w) (s := ofL l) Tryd.underlying9 .i64 (p : Int) (by omega) (by rw [size_ofL]; omega)
  rw [this, Int.toNat_natCast, extract_ofL]
  simp

theorem slice_from (l : List UInt8) (p : Nat) (h : p ≤ l.length) (w : World) : (Instr.slice 9 (.string (ofL l)) (some (.int .i64 (p : Int))) none none).run Tryd.prog w = .ok (.string (ofL (l.drop p))) w := by
  have := run_slice_string_l (P := Tryd.prog) (t := 9) (w := w) (s := ofL l) Tryd.underlying9 .i64 (p : Int) (by omega) (by rw [size_ofL]; omega)
  rw [this, Int.toNat_natCast, extract_ofL, size_ofL]
  rw [List.take_of_length_le (by simp)]

/-- How long a text is. -/
def lenOf : Value → Nat
  | .string s => s.size
  | _ => 0

set_option maxHeartbeats 2000000 in
set_option maxRecDepth 100000 in
theorem split_arg (s : ByteArray) (mn mx mk : Int) (w : World) (h : mayB mn mx mk = false) :
    Calls Tryd.prog 27 #[.string s, cutV mn mx mk] w fun e w' => e = .returned (.tuple #[.slice none 0 0, .iface 43 (.int .i64 1)]) ∧ Below w.heap.size w w' := by
  have hm : Hid (∀ W, Calls Tryd.prog 13 #[cutV mn mx mk] W fun e w' => e = .returned (.bool false) ∧ Below W.heap.size W w') := fun W => h ▸ may_any mn mx mk W
  unfold cutV at hm ⊢
  clear h
  go_enter Tryd.func27, Tryd.ntmps27
  go_wp2_with (go_at_call 13; refine (hm.out _).mono ?_; rintro e w1 ⟨rfl, hb⟩)
  go_ret2
  exact ⟨rfl, ((Below.refl _ _).alloc (Nat.le_refl _) _).trans (hb.mono (by simp))⟩

set_option maxHeartbeats 2000000 in
set_option maxRecDepth 100000 in
theorem split_large (s : ByteArray) (mn mx mk : Int) (w : World) (h : mayB mn mx mk = true) (hs : 1024 < s.size) :
    Calls Tryd.prog 27 #[.string s, cutV mn mx mk] w fun e w' => e = .returned (.tuple #[.slice none 0 0, .iface 43 (.int .i64 7)]) ∧ Below w.heap.size w w' := by
  have hm : Hid (∀ W, Calls Tryd.prog 13 #[cutV mn mx mk] W fun e w' => e = .returned (.bool true) ∧ Below W.heap.size W w') := fun W => h ▸ may_any mn mx mk W
  obtain ⟨z, hz⟩ : ∃ z, z = s.size := ⟨_, rfl⟩
  have hlen : ∀ w, (Builtin.len_ #[9] 3 #[.string s]).run Tryd.prog w = .ok (.int .i64 (z : Int)) w := fun w => by
    rw [run_len_string w 9 3 s Tryd.underlying9, hz]; rfl
  rw [← hz] at hs
  unfold cutV at hm ⊢
  clear h hz
  go_enter Tryd.func27, Tryd.ntmps27
  go_wp2_with (go_at_call 13; refine (hm.out _).mono ?_; rintro e w1 ⟨rfl, hb⟩)
  go_ret2
  exact ⟨rfl, ((Below.refl _ _).alloc (Nat.le_refl _) _).trans (hb.mono (by simp))⟩

set_option maxHeartbeats 4000000 in
set_option maxRecDepth 100000 in
theorem split_ok (s : ByteArray) (m M K : Nat) (w : World) (hs : s.size ≤ 1024) (hm : 1 ≤ m) (hmM : m ≤ M) (hM : M ≤ 64) (hK : K < 256) :
    Calls Tryd.prog 27 #[.string s, cutV (m : Int) (M : Int) (K : Int)] w fun e w' => ∃ v, e = .returned (.tuple #[v, .nilIface]) ∧ Strs w.heap.size v (chunks m M K s) w w' := by
  have hmay : mayB (m : Int) (M : Int) (K : Int) = true := by unfold mayB; exact decide_eq_true (by omega)
  have hmy : Hid (∀ W, Calls Tryd.prog 13 #[cutV (m : Int) (M : Int) (K : Int)] W fun e w' => e = .returned (.bool true) ∧ Below W.heap.size W w') := fun W => hmay ▸ may_any (m : Int) (M : Int) (K : Int) W
  obtain ⟨C, hC⟩ : ∃ C, C = chunks m M K s := ⟨_, rfl⟩
  rw [← hC]
  obtain ⟨l, hl⟩ : ∃ l, l = toL s := ⟨_, rfl⟩
  have e : s = ofL l := by rw [hl, ofL_toL]
  subst e
  have HC : Hid (C = (cuts m M K l).map ofL) := by rw [hC, chunks, toL_ofL]; rfl
  rw [size_ofL] at hs
  clear hC hl hmay
  obtain ⟨W1, hW1⟩ : ∃ W1, W1 = w.alloc (.cells #[.int .i64 (m : Int), .int .i64 (M : Int), .int .i64 (K : Int)] 26) := ⟨_, rfl⟩
  have HW : Hid (W1 = w.alloc (.cells #[.int .i64 (m : Int), .int .i64 (M : Int), .int .i64 (K : Int)] 26)) := hW1
  have hfs : Hid (∀ l' W, Calls Tryd.prog 44 #[.string (ofL l'), cutV (m : Int) (M : Int) (K : Int)] W fun e w' => e = .returned (.int .i64 (size1 m M K l' : Int)) ∧ Below W.heap.size W w') := fun l' W => first_any l' m M K W hm hmM hM hK
  have hlen := len_ofL l l.length rfl
  unfold cutV at hmy hfs ⊢
  obtain ⟨t, ht⟩ : ∃ t, t = ofL l := ⟨_, rfl⟩
  have HT : Hid (t = ofL l) := ht
  rw [← ht] at hlen ⊢
  obtain ⟨z, hz⟩ : ∃ z, z = l.length := ⟨_, rfl⟩
  have HZ : Hid (z = l.length) := hz
  rw [← hz] at hlen hs
  clear ht hz hW1
  go_enter Tryd.func27, Tryd.ntmps27
  go_wp2_with (go_at_call 13; refine (hmy.out _).mono ?_; rintro e w1 ⟨rfl, hb1⟩)
  rw [← HW.out] at hb1
  have hsz : Hid (W1.heap.size = w.heap.size + 1) := by show _ = _; rw [HW.out]; simp
  have hcw : Hid (∀ wr, Below W1.heap.size W1 wr → wr.cell? ⟨w.heap.size, 0, none⟩ = some (.int .i64 (m : Int)) ∧ wr.cell? ⟨w.heap.size, 1, none⟩ = some (.int .i64 (M : Int)) ∧ wr.cell? ⟨w.heap.size, 2, none⟩ = some (.int .i64 (K : Int))) := by
    intro wr hb
    have h1 := hsz.out
    refine ⟨?_, ?_, ?_⟩
    all_goals
      rw [hb.cell (by show w.heap.size < _; omega), HW.out]
      simp
  go_loopw [0, 6] (fun t0 t6 wr => ∃ (r : List UInt8) (d : List ByteArray), t0 = .string (ofL r) ∧ Strs W1.heap.size t6 d W1 wr ∧ d.length + r.length ≤ z ∧ Hid (C = d ++ (cuts m M K r).map ofL)) (fun t0 _ _ => lenOf t0)
  case atStart => exact ⟨l, [], by rw [HT.out], (Strs.nil W1).later hb1, by rw [← HZ.out]; simp, HC⟩
  case round =>
    obtain ⟨r, d, rfl, hst, hdr, HI⟩ := hrel
    clear hlen HT hb1 HC
    obtain ⟨hc0, hc1, hc2⟩ := hcw.out wr hst.2.1
    obtain ⟨y, hy⟩ : ∃ y, y = r.length := ⟨_, rfl⟩
    have hlen := len_ofL r y hy
    have HY : Hid (y = r.length) := hy
    rw [← hy] at hdr
    clear hy
    by_cases hy0 : 0 < y
    · have h0 : 0 < r.length := by rw [← HY.out]; exact hy0
      have hfc := hfs.out r
      have hp1 : 1 ≤ size1 m M K r := first_pos m M K 0 0 r h0
      have hp2 : size1 m M K r ≤ y := by rw [HY.out]; exact first_le m M K 0 0 r
      have HN := cuts_cons m M K r h0
      generalize size1 m M K r = p at hfc hp1 hp2 HN
      have hs1 := slice_to r p (by rw [← HY.out]; exact hp2)
      have hs2 := slice_from r p (by rw [← HY.out]; exact hp2)
      have hcl : Hid (∀ W, Calls Tryd.prog 21 #[.string (ofL (r.take p))] W fun e w' => e = .returned (.string (ofL (r.take p))) ∧ Below W.heap.size W w') := fun W => clone_any _ W (by
        rw [size_ofL, List.length_take, ← HY.out]; omega)
      have HI2 : Hid (C = (d ++ [ofL (r.take p)]) ++ (cuts m M K (r.drop p)).map ofL) := by
        show _ = _
        rw [HI.out, HN]; simp
      have hlr : Hid ((r.drop p).length = y - p) := by show _ = _; rw [List.length_drop, ← HY.out]
      have hmr : Hid (lenOf (.string (ofL (r.drop p))) < lenOf (.string (ofL r))) := by
        show (ofL (r.drop p)).size < (ofL r).size
        rw [size_ofL, size_ofL, hlr.out, ← HY.out]; omega
      clear HN HI h0
      obtain ⟨R, hR⟩ : ∃ R, R = ofL r := ⟨_, rfl⟩
      rw [← hR] at hfc hs1 hs2 hlen hmr ⊢
      generalize ofL (r.take p) = x at hs1 hcl HI2
      obtain ⟨R2, hR2⟩ : ∃ R2, R2 = ofL (r.drop p) := ⟨_, rfl⟩
      rw [← hR2] at hs2 hmr
      have HR2 : Hid (R2 = ofL (r.drop p)) := hR2
      clear hR2 hR
      go_wp2_with (first
        | (go_at_call 44; refine (hfc _).mono ?_; rintro e w2 ⟨rfl, hb2⟩)
        | (go_at_call 21; refine (hcl.out _).mono ?_; rintro e w3 ⟨rfl, hb3⟩)
        | (at_builtin; refine wpList_str rfl (.tmp 22) (.tmp 27) rfl W1.heap.size _ d rfl W1 w3 x ((hst.later hb2).later hb3) rfl (by omega) ?_; intro v' w4 hb4))
      go_roundw
      case rel => exact ⟨r.drop p, d ++ [x], by rw [HR2.out], hb4, by rw [hlr.out, List.length_append, List.length_singleton]; omega, HI2⟩
      case measure => exact hmr.out
    · have HE : Hid (C = d) := by
        have e : r = [] := List.eq_nil_of_length_eq_zero (by rw [← HY.out]; omega)
        rw [HI.out, e, cuts_nil]
        exact List.append_nil _
      clear HI
      generalize ofL r = R at hlen
      go_wp2
      go_ret2
      refine ⟨_, rfl, ?_⟩
      rw [HE.out]
      have h1 := hsz.out
      refine ⟨own_mono hst.1 (by omega), ?_, by have := hst.2.2; omega⟩
      exact ((Below.refl w.heap.size w).alloc (Nat.le_refl _) _).trans ((HW.out ▸ hst.2.1).mono (by simp))
end Go.Proofs.YtcjkficpiedpfabDoor.Chunk
