/-
  Put.
-/
import Derived.Test.YtbcemghkmmbmdaaMsWr4
namespace Go.Proofs.Ytbcemghkmmbmdaa.Msg
open Go.RowKit Route Order

set_option maxHeartbeats 4000000 in
set_option maxRecDepth 100000 in
theorem put_no (m : Ms) (a : Option Addr) (n c : Nat) (a' : Option Addr) (n' c' : Nat) (w : World) (hM : MsIn w m a n a' n') (hF : Fit m) (hno : mayB m = false) :
    Calls Try.prog 12 #[.agg (msV m a n c a' n' c')] w fun e w' => e = .returned (.tuple #[.slice none 0 0, .iface 34 (.int .i64 1)]) ∧ Below w.heap.size w w' := by
  obtain ⟨k, f, v, s, bd, pl, cl⟩ := m
  show Calls Try.prog 12 #[.agg #[.int .i64 k, .int .i64 f, .int .i64 v, .int .i64 s, .string bd, .slice a n c, .slice a' n' c']] w _
  obtain ⟨W1, hW1⟩ : ∃ W1, W1 = w.alloc (.cells #[.int .i64 k, .int .i64 f, .int .i64 v, .int .i64 s, .string bd, .slice a n c, .slice a' n' c'] 25) := ⟨_, rfl⟩
  have HW1 : Hid (W1 = _) := hW1
  have hB1 : Below w.heap.size w W1 := by rw [hW1]; exact (Below.refl _ _).alloc (Nat.le_refl _) _
  have HB1 : Hid (Below w.heap.size w W1) := hB1
  have HC : Hid (Calls _ _ _ _ _) := mayBe_any ⟨k, f, v, s, bd, pl, cl⟩ a n c a' n' c' W1 (hM.below hB1 (Nat.le_refl _)) hF
  rw [hno] at HC
  obtain ⟨y0, y1, y2, y3, y4, y5, y6⟩ := seven7 (show W1.heap[w.heap.size]? = _ by rw [hW1]; exact box_new _ _ _)
  clear hM hF hW1 hB1 hno
  go_enter Try.func12, Try.ntmps12
  go_wp2_with fail
  rw [← HW1.out]
  go_wp2_with fail
  refine HC.out.mono ?_
  rintro e w2 ⟨rfl, hb⟩
  have HB2 : Hid (Below w.heap.size w w2) := HB1.out.trans (hb.mono HB1.out.size)
  clear hb HC
  go_wp2
  go_ret2
  exact ⟨rfl, HB2.out⟩

set_option maxHeartbeats 4000000 in
set_option maxRecDepth 100000 in
theorem put_ok (m : Ms) (a : Option Addr) (n c : Nat) (a' : Option Addr) (n' c' : Nat) (w : World) (hM : MsIn w m a n a' n') (hK : MsOk m) :
    Calls Try.prog 12 #[.agg (msV m a n c a' n' c')] w fun e w' => ∃ v, e = .returned (.tuple #[v, .nilIface]) ∧ Buf w.heap.size v (encM m) w w' := by
  have hF := hK.fit
  have hyes : mayB m = true := mayB_iff.2 hK
  obtain ⟨k, f, v, s, bd, pl, cl⟩ := m
  have k1 := hK.k
  have k2 := hK.f
  have k3 := hK.v
  have k4 := hK.s
  simp only at k1 k2 k3 k4
  obtain ⟨k, rfl⟩ : ∃ z : Nat, k = (z : Int) := ⟨k.toNat, by omega⟩
  obtain ⟨f, rfl⟩ : ∃ z : Nat, f = (z : Int) := ⟨f.toNat, by omega⟩
  obtain ⟨v, rfl⟩ : ∃ z : Nat, v = (z : Int) := ⟨v.toNat, by omega⟩
  obtain ⟨s, rfl⟩ : ∃ z : Nat, s = (z : Int) := ⟨s.toNat, by omega⟩
  show Calls Try.prog 12 #[.agg #[.int .i64 (k : Int), .int .i64 (f : Int), .int .i64 (v : Int), .int .i64 (s : Int), .string bd, .slice a n c, .slice a' n' c']] w _
  obtain ⟨W1, hW1⟩ : ∃ W1, W1 = w.alloc (.cells #[.int .i64 (k : Int), .int .i64 (f : Int), .int .i64 (v : Int), .int .i64 (s : Int), .string bd, .slice a n c, .slice a' n' c'] 25) := ⟨_, rfl⟩
  have HW1 : Hid (W1 = _) := hW1
  have hB1 : Below w.heap.size w W1 := by rw [hW1]; exact (Below.refl _ _).alloc (Nat.le_refl _) _
  have HB1 : Hid (Below w.heap.size w W1) := hB1
  have HC : Hid (Calls _ _ _ _ _) := mayBe_any ⟨(k : Int), (f : Int), (v : Int), (s : Int), bd, pl, cl⟩ a n c a' n' c' W1 (hM.below hB1 (Nat.le_refl _)) hF
  rw [hyes] at HC
  have hbx : W1.heap[w.heap.size]? = some (.cells #[.int .i64 (k : Int), .int .i64 (f : Int), .int .i64 (v : Int), .int .i64 (s : Int), .string bd, .slice a n c, .slice a' n' c'] 25 (0, 0)) := by rw [hW1]; exact box_new _ _ _
  have HBX : Hid (_ = _) := hbx
  obtain ⟨y0, y1, y2, y3, y4, y5, y6⟩ := seven7 hbx
  have HM : Hid (MsIn w ⟨(k : Int), (f : Int), (v : Int), (s : Int), bd, pl, cl⟩ a n a' n') := hM
  have HK : Hid (MsOk ⟨(k : Int), (f : Int), (v : Int), (s : Int), bd, pl, cl⟩) := hK
  clear hM hF hW1 hB1 hyes hK k1 k2 k3 k4 hbx
  go_enter Try.func12, Try.ntmps12
  go_wp2_with fail
  rw [← HW1.out]
  go_wp2_with fail
  refine HC.out.mono ?_
  rintro e w2 ⟨rfl, hb⟩
  have HB2 : Hid (Below w.heap.size w w2) := HB1.out.trans (hb.mono HB1.out.size)
  have hbx2 := box_stays HBX.out hb (Nat.le_refl _)
  have hbw : Below w2.heap.size w2 (w2.alloc (.cells #[.slice none 0 0, .int .i64 9223372036854775807, .bool false] 63)) := (Below.refl _ _).alloc (Nat.le_refl _) _
  have hbx3 := box_stays hbx2 hbw (Nat.le_refl _)
  have hwx : Wx w.heap.size w2.heap.size 9223372036854775807 [] w (w2.alloc (.cells #[.slice none 0 0, .int .i64 9223372036854775807, .bool false] 63)) none :=
    ⟨none, 0, 0, 9223372036854775807, ⟨heap_alloc_new w2 _, rfl, Nat.le_refl _, World.ownsRow_nil _ _ _ _, HB2.out.trans (hbw.mono HB2.out.size), HB2.out.size, by simpa using Nat.le_succ_of_le HB2.out.size⟩, rfl⟩
  have HCM : Hid (Calls _ _ _ _ _) := wmessage_any hwx (Nat.le_refl _) k f v s bd pl cl HK.out a n c HM.out.1 HM.out.2.1 a' n' c' HM.out.2.2.1 HM.out.2.2.2 (by simp) (by omega)
  clear hb HC y0 y1 y2 y3 y4 y5 y6 hwx hbw
  obtain ⟨y0, y1, y2, y3, y4, y5, y6⟩ := seven7 hbx3
  clear hbx2 hbx3
  go_wp2_with fail
  refine HCM.out.mono ?_
  rintro e w3 ⟨rfl, hw⟩
  obtain ⟨o3, ⟨a3, m3, c3, r3, hwt, -⟩, -⟩ := hw.out
  have HF : Hid (Buf w.heap.size (.slice a3 m3 c3) (encM ⟨(k : Int), (f : Int), (v : Int), (s : Int), bd, pl, cl⟩) w w3) := ⟨by simpa using hwt.own, hwt.bel, hwt.fit⟩
  obtain ⟨x0, x1, x2⟩ := three3 hwt.box
  clear hw hwt HCM y0 y1 y2 y3 y4 y5 y6
  go_wp2
  go_ret2
  exact ⟨_, rfl, HF.out⟩
end Go.Proofs.Ytbcemghkmmbmdaa.Msg
