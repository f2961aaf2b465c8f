/-
  The document's example of the image; bytes as the laws hold them.
-/
import Derived.Test.YtlpgdfdadkljfaaImGet
namespace Go.Proofs.Ytlpgdfdadkljfaa.Img
open Go.RowKit Route Tree Order Cat

theorem conv_buf {B n : Nat} {v : Value} {l : List UInt8} {W0 w : World} (h : Buf B v l W0 w) (hn : n = l.length) :
    ∃ a c, v = .slice a n c ∧ Hid ((∀ W, Below w.heap.size w W → (convert 30 9 (.slice a n c)).run Try.prog W = .ok (.string ⟨l.toArray⟩) W) ∧ Go.Proofs.Ytlpgdfdadkljfaa.Lies w a l ∧ n ≤ c ∧ c ≤ maxLen ∧ ∀ y, a = some y → y.block < w.heap.size) := by
  subst hn
  obtain ⟨a, c, rfl, h1, h2, h3, _, h5⟩ := h.form
  exact ⟨a, c, rfl, fun W hb => conv_lies (Go.Proofs.Ytlpgdfdadkljfaa.Lies.below h3 hb (Nat.le_refl _)), h3, h1, h2, fun y hy => (h5 y hy).2⟩

theorem ee1 (w : World) : (binOp .eql 27 (.iface 36 (.int .i64 1)) (.iface 36 (.int .i64 1))).run Try.prog w = .ok (.bool true) w := by kernel_rfl
theorem ee2 (w : World) : (binOp .eql 27 (.iface 36 (.int .i64 2)) (.iface 36 (.int .i64 2))).run Try.prog w = .ok (.bool true) w := by kernel_rfl
theorem ee0 (w : World) : (binOp .eql 27 .nilIface .nilIface).run Try.prog w = .ok (.bool true) w := by kernel_rfl
theorem ne2 (w : World) : (binOp .neq 27 (.iface 36 (.int .i64 2)) .nilIface).run Try.prog w = .ok (.bool true) w := by kernel_rfl

theorem enc_none : encI [] = [0] := by decide
theorem dec_none : (decR []).2.2 = true := by decide

set_option maxHeartbeats 1000000 in
set_option maxRecDepth 100000 in
theorem up_any (w : World) : Calls Try.prog 6 #[] w fun e w' => e = .returned (.bool true) ∧ Below w.heap.size w w' := by
  have q1 := ee0
  have q2 := ee1
  have q3 := ee2
  go_enter Try.func6, Try.ntmps6
  go_wp2_with fail
  refine (new_any w).mono ?_
  rintro e w1 ⟨rfl, hw1⟩
  have HC : Hid (Cat w.heap.size w.heap.size (.slice none 0 0) [] w1 ∧ Below w.heap.size w w1) := by
    rw [hw1]; exact ⟨cat_new (Nat.le_refl _), (Below.refl _ _).alloc (Nat.le_refl _) _⟩
  have HP : Hid (Calls _ _ _ _ _) := put_any HC.out.1 Inv.nil
  clear hw1
  go_wp2_with fail
  refine HP.out.mono ?_
  rintro e w2 ⟨v, rfl, hv⟩
  rw [show encI (([] : List SZ).map snapOf) = [0] from enc_none] at hv
  obtain ⟨a2, c2, rfl, HV⟩ := conv_buf (n := 1) hv rfl
  have HB2 : Hid (Below w.heap.size w w2) := HC.out.2.trans (hv.2.1.mono HC.out.2.size)
  clear hv HP HC
  go_wp2_with fail
  refine (put_nil w2).mono ?_
  rintro e w3 ⟨rfl, rfl⟩
  have HG : Hid (Calls _ _ _ _ _) := get_any none 0 0 [] w3 rfl (.inl rfl) (by omega) (Nat.le_refl _) (by unfold maxLen; omega) (.inl rfl)
  go_wp2_with fail
  refine HG.out.mono ?_
  rintro e w4 hg
  rcases hg with ⟨⟨h, _⟩, _⟩ | ⟨_, rfl, hb4⟩
  · rw [dec_none] at h; cases h
  have hcv := HV.out.1 w4 hb4
  have HB4 : Hid (Below w.heap.size w w4) := HB2.out.trans (hb4.mono HB2.out.size)
  clear hb4 HG HB2 HV
  go_wp2
  go_ret
  exact ⟨by first | rfl | decide, HB4.out⟩
end Go.Proofs.Ytlpgdfdadkljfaa.Img
