/-
  Get, whatever the bytes are.
-/
import Derived.Test.YtbcemghkmmbmdaaMsGet2
namespace Go.Proofs.Ytbcemghkmmbmdaa.Msg
open Go.RowKit Route Order

theorem nums_ge : ∀ l : List Int, l.length ≤ (nums l).length
  | [] => Nat.le_refl _
  | n :: r => by
    have ih := nums_ge r
    have h1 := digs_pos n.toNat
    simp only [nums, List.length_append, List.length_cons]
    omega
theorem txt_ge (b : ByteArray) : b.size ≤ (txt b).length := by
  unfold txt
  rw [List.length_append]
  have : b.data.toList.length = b.size := Array.length_toList
  omega
theorem encP_ge (e : Pf) : e.2.2.1.size ≤ (encP e).length ∧ e.2.2.2.length ≤ (encP e).length ∧ 1 ≤ (encP e).length := by
  have h1 := digs_pos e.1.toNat
  have h2 := txt_ge e.2.2.1
  have h3 := nums_ge e.2.2.2
  unfold encP
  simp only [List.length_append]
  omega
theorem flatP_ge : ∀ l : List Pf, l.length ≤ (flatP l).length ∧ ∀ e ∈ l, (encP e).length ≤ (flatP l).length
  | [] => ⟨Nat.le_refl _, fun e he => by cases he⟩
  | a :: r => by
    obtain ⟨h1, h2⟩ := flatP_ge r
    obtain ⟨_, _, h3⟩ := encP_ge a
    simp only [flatP, List.length_append, List.length_cons]
    refine ⟨by omega, fun e he => ?_⟩
    rcases List.mem_cons.1 he with rfl | he
    · omega
    · have := h2 e he; omega
theorem encC_ge (e : Ch) : (flatP e.2.2).length ≤ (encC e).length ∧ 1 ≤ (encC e).length := by
  have h1 := digs_pos e.1.toNat
  unfold encC encPs
  simp only [List.length_append]
  omega
theorem flatC_ge : ∀ l : List Ch, l.length ≤ (flatC l).length ∧ ∀ e ∈ l, (encC e).length ≤ (flatC l).length
  | [] => ⟨Nat.le_refl _, fun e he => by cases he⟩
  | a :: r => by
    obtain ⟨h1, h2⟩ := flatC_ge r
    obtain ⟨_, h3⟩ := encC_ge a
    simp only [flatC, List.length_append, List.length_cons]
    refine ⟨by omega, fun e he => ?_⟩
    rcases List.mem_cons.1 he with rfl | he
    · omega
    · have := h2 e he; omega
theorem fitP_enc {l : List Pf} (h : (flatP l).length ≤ 100000000) : FitP l := fun e he => by
  have h1 := (flatP_ge l).2 e he
  obtain ⟨h2, h3, _⟩ := encP_ge e
  exact ⟨by omega, by omega⟩
theorem fit_enc {m : Ms} (h : (encM m).length ≤ 100000000) : Fit m := by
  have h1 := txt_ge m.b
  obtain ⟨h2, _⟩ := flatP_ge m.p
  obtain ⟨h3, h4⟩ := flatC_ge m.c
  unfold encM encPs at h
  simp only [List.length_append] at h
  exact ⟨by omega, by omega, fitP_enc (by omega), by omega, fun e he => by
    have k1 := h4 e he
    obtain ⟨k2, _⟩ := encC_ge e
    obtain ⟨k3, _⟩ := flatP_ge e.2.2
    exact ⟨by omega, fitP_enc (by omega)⟩⟩

/-- Whether bytes are a message's. -/
def GetOk (l : List UInt8) : Prop := (msgR l).2.2 = false ∧ l.length ≤ (msgR l).2.1 ∧ MsOk (msgR l).1
/-- What Get answers. -/
def Got (l : List UInt8) (w : World) (e : Ending) (w' : World) : Prop :=
  Below w.heap.size w w' ∧ ((GetOk l ∧ ∃ m : MZ, e = .returned (.tuple #[.agg (mzV m), .nilIface]) ∧ msOf m = (msgR l).1 ∧ MRow w.heap.size m w') ∨ (¬ GetOk l ∧ e = .returned (.tuple #[.agg zeroM, .iface 34 (.int .i64 2)])))

set_option maxHeartbeats 8000000 in
set_option maxRecDepth 100000 in
theorem get_any (a : Option Addr) (n cap : Nat) (l : List UInt8) (w : World) (hn : n = l.length) (hl : Go.Proofs.Ytbcemghkmmbmdaa.Lies w a l) (hm : n ≤ 100000000) (hc : n ≤ cap) (hcm : cap ≤ maxLen) (ho : l = [] ∨ ∀ y, a = some y → y.block < w.heap.size) :
    Calls Try.prog 15 #[.slice a n cap] w (Got l w) := by
  have hB1 : Below w.heap.size w (w.alloc (.cells zeroM 25)) := (Below.refl _ _).alloc (Nat.le_refl _) _
  have hB2 : Below w.heap.size w ((w.alloc (.cells zeroM 25)).alloc (.cells #[.slice a n cap, .int .i64 0, .bool false] 70)) := hB1.alloc hB1.size _
  have hz : (w.alloc (.cells zeroM 25)).heap.size = w.heap.size + 1 := by simp
  have hR : Rd 70 ((w.alloc (.cells zeroM 25)).alloc (.cells #[.slice a n cap, .int .i64 0, .bool false] 70)) (w.heap.size + 1) a n cap l 0 false :=
    ⟨by rw [← hz]; exact heap_alloc_new _ _, hn, Go.Proofs.Ytbcemghkmmbmdaa.Lies.below hl hB2 (Nat.le_refl _), hm, hc, hcm, Nat.zero_le _, ho.imp id fun h y hy => Nat.lt_succ_of_lt (h y hy)⟩
  have HRES : Hid ((w.alloc (.cells zeroM 25)).heap[w.heap.size]? = some (.cells zeroM 25 (0, 0))) := heap_alloc_new w _
  have HB2 : Hid (Below w.heap.size w _) := hB2
  have HN : Hid (n = l.length ∧ n ≤ 100000000) := ⟨hn, hm⟩
  have HC : Hid (Calls _ _ _ _ _) := message_any hR
  clear hn hl hm hc hcm ho hB1 hB2 hR
  go_enter Try.func15, Try.ntmps15
  go_wp2_with fail
  refine HC.out.mono ?_
  rintro e w1 ⟨⟨mk, mf, mv, ms, bd, pv, pl, cv, cl⟩, x', f', rfl, hr⟩
  have hr0 := hr.out
  obtain ⟨hrd, htn1, hrow, hal, htold⟩ := hr0
  obtain ⟨ma, mc, ma', mc', hpv, hcv, hin⟩ := hrow.sees
  simp only at hpv hcv
  subst hpv
  subst hcv
  have hres1 : w1.heap[w.heap.size]? = some (.cells zeroM 25 (0, 0)) := by
    rw [htn1.block w.heap.size (by first | (simp; done) | (simp; omega)) (by omega), Below.heap_alloc _ _ _ (by simp)]
    exact HRES.out
  have HBw1 : Hid (Below w.heap.size w w1) := HB2.out.trans (htn1.below (by omega) (by first | (simp; done) | (simp; omega)))
  have hba : Below w1.heap.size w1 (w1.alloc (.cells #[.int .i64 (mk : Int), .int .i64 (mf : Int), .int .i64 (mv : Int), .int .i64 (ms : Int), .string bd, .slice ma pl.length mc, .slice ma' cl.length mc'] 25)) := (Below.refl _ _).alloc (Nat.le_refl _) _
  have hbx2 : (w1.alloc (.cells #[.int .i64 (mk : Int), .int .i64 (mf : Int), .int .i64 (mv : Int), .int .i64 (ms : Int), .string bd, .slice ma pl.length mc, .slice ma' cl.length mc'] 25)).heap[w1.heap.size]? = _ := heap_alloc_new _ _
  have hres2 := box_stays hres1 hba (Nat.le_refl _)
  have HCD : Hid (Calls _ _ _ _ _) := done_any (hrd.below hba)
  have HBA : Hid (Below w1.heap.size w1 _) := hba
  have HRES2 : Hid (_ = _) := hres2
  have HBX2 : Hid (_ = _) := hbx2
  have HIN : Hid (MsIn w1 (msOf ⟨mk, mf, mv, ms, bd, .slice ma pl.length mc, pl, .slice ma' cl.length mc', cl⟩) ma pl.length ma' cl.length) := hin
  have HROW : Hid (MRow (w.heap.size + 2) ⟨mk, mf, mv, ms, bd, .slice ma pl.length mc, pl, .slice ma' cl.length mc', cl⟩ w1) := ⟨prf_down hrow.1 (by first | (simp; done) | (simp; omega)), hrow.2.any (by first | (simp; done) | (simp; omega))⟩
  have HAL : Hid (Al (msgR l).2 (x', f') ∧ (f' = false → (msgR l).1 = msOf ⟨mk, mf, mv, ms, bd, .slice ma pl.length mc, pl, .slice ma' cl.length mc', cl⟩)) := ⟨hal, htold⟩
  have HW1 : Hid (w.heap.size + 2 ≤ w1.heap.size) := by have := htn1.size; first | (simp at this; omega) | (simp at this; exact this)
  clear hr HC hres1 hres2 hba HB2 HRES hrd htn1 hrow hal htold hin hbx2
  go_wp2_with fail
  refine HCD.out.mono ?_
  rintro e w2 ⟨rfl, hb2⟩
  have hres3 := box_stays HRES2.out hb2 (Nat.le_refl _)
  have hbx3 := box_stays HBX2.out hb2 (Nat.le_refl _)
  have HBF : Hid (Below w.heap.size w w2) := (HBw1.out.trans (HBA.out.mono HBw1.out.size)).trans (hb2.mono (Nat.le_trans HBw1.out.size HBA.out.size))
  have HB12 : Hid (Below w1.heap.size w1 w2) := HBA.out.trans (hb2.mono HBA.out.size)
  have HR3 : Hid (_ = _) := hres3
  have HX3 : Hid (_ = _) := hbx3
  clear hb2 HCD HRES2 HBX2 hres3 hbx3
  have HBAD : Hid (∀ e W, ¬ GetOk l → Below w.heap.size w W → e = .returned (.tuple #[.agg zeroM, .iface 34 (.int .i64 2)]) → Got l w e W) := fun e W h1 h2 h3 => ⟨h2, .inr ⟨h1, h3⟩⟩
  cases hd : (!f' && decide (x' = n)) with
  | false =>
    have HNO : Hid (¬ GetOk l) := fun ⟨g1, g2, _⟩ => by
      obtain ⟨a1, a2⟩ := HAL.out.1
      rw [g1] at a1
      simp only at a1
      subst a1
      have a3 := a2 g1
      simp only at a3
      have a4 := msgR_le l
      simp at hd
      have := HN.out.1
      omega
    clear hd
    have hr3 := HR3.out
    obtain ⟨⟨v0, v1, v2, v3, v4, v5, v6⟩, hv⟩ := cells7 hr3
    have q0 := hv 0
    have q1 := hv 1
    have q2 := hv 2
    have q3 := hv 3
    have q4 := hv 4
    have q5 := hv 5
    have q6 := hv 6
    clear hv hr3
    go_wp2
    have hbox := put7_box HR3.out (.int .i64 0) (.int .i64 0) (.int .i64 0) (.int .i64 0) (.string ⟨#[]⟩) (.slice none 0 0) (.slice none 0 0)
    have htn := put7_tn w2 w.heap.size (.int .i64 0) (.int .i64 0) (.int .i64 0) (.int .i64 0) (.string ⟨#[]⟩) (.slice none 0 0) (.slice none 0 0)
    generalize hW : (((((((w2.setCell ⟨w.heap.size, 0, none⟩ (.int .i64 0)).setCell ⟨w.heap.size, 1, none⟩ (.int .i64 0)).setCell ⟨w.heap.size, 2, none⟩ (.int .i64 0)).setCell ⟨w.heap.size, 3, none⟩ (.int .i64 0)).setCell ⟨w.heap.size, 4, none⟩ (.string ⟨#[]⟩)).setCell ⟨w.heap.size, 5, none⟩ (.slice none 0 0)).setCell ⟨w.heap.size, 6, none⟩ (.slice none 0 0)) = W8 at hbox htn ⊢
    obtain ⟨⟨g0, g1, g2, g3, g4, g5, g6⟩, _⟩ := cells7 hbox
    refine bodyPost_ret (v := .tuple #[.agg zeroM, .iface 34 (.int .i64 2)]) (by simp [results, Try.results15, go_sem, g0, g1, g2, g3, g4, g5, g6]) rfl ?_
    exact HBAD.out _ _ HNO.out (HBF.out.trans (htn.below (Nat.le_refl _) HBF.out.size)) rfl
  | true =>
    obtain ⟨hf0, hx0⟩ : f' = false ∧ x' = n := by simpa using hd
    subst hf0
    subst hx0
    have e1 := HAL.out.1.good
    have e2 := HAL.out.2 rfl
    have hen : encM (msgR l).1 = l := msgR_sound (by rw [e1]) (by rw [e1]; have := HN.out.1; simp only; omega)
    rw [e2] at hen
    have HFIT : Hid (Fit (msOf ⟨mk, mf, mv, ms, bd, .slice ma pl.length mc, pl, .slice ma' cl.length mc', cl⟩)) := fit_enc (by rw [hen]; have := HN.out; omega)
    have HE : Hid ((msgR l).2 = (x', false) ∧ (msgR l).1 = msOf ⟨mk, mf, mv, ms, bd, .slice ma pl.length mc, pl, .slice ma' cl.length mc', cl⟩) := ⟨e1, e2⟩
    clear hd e1 e2 hen
    have HMB : Hid (Calls _ _ _ _ _) := mayBe_any (msOf ⟨mk, mf, mv, ms, bd, .slice ma pl.length mc, pl, .slice ma' cl.length mc', cl⟩) ma pl.length mc ma' cl.length mc' w2 (HIN.out.below HB12.out (Nat.le_refl _)) HFIT.out
    have hx3 := HX3.out
    obtain ⟨⟨y0, y1, y2, y3, y4, y5, y6⟩, _⟩ := cells7 hx3
    clear hx3
    go_wp2_with fail
    refine HMB.out.mono ?_
    rintro e w3 ⟨rfl, hb3⟩
    have HR4 : Hid (_ = _) := box_stays HR3.out hb3 (by have := HB12.out.size; have := HW1.out; omega)
    have HX4 : Hid (_ = _) := box_stays HX3.out hb3 (by have := HB12.out.size; have := HW1.out; omega)
    have HBG : Hid (Below w.heap.size w w3) := HBF.out.trans (hb3.mono HBF.out.size)
    have HB13 : Hid (Below w1.heap.size w1 w3) := HB12.out.trans (hb3.mono HB12.out.size)
    clear hb3 HMB y0 y1 y2 y3 y4 y5 y6 HR3 HX3
    cases hm : mayB (msOf ⟨mk, mf, mv, ms, bd, .slice ma pl.length mc, pl, .slice ma' cl.length mc', cl⟩) with
    | false =>
      have HNO : Hid (¬ GetOk l) := fun ⟨_, _, g3⟩ => by
        rw [HE.out.2, ← mayB_iff, hm] at g3
        cases g3
      clear hm
      have hr3 := HR4.out
      obtain ⟨⟨v0, v1, v2, v3, v4, v5, v6⟩, hv⟩ := cells7 hr3
      have q0 := hv 0
      have q1 := hv 1
      have q2 := hv 2
      have q3 := hv 3
      have q4 := hv 4
      have q5 := hv 5
      have q6 := hv 6
      clear hv hr3
      go_wp2
      have hbox := put7_box HR4.out (.int .i64 0) (.int .i64 0) (.int .i64 0) (.int .i64 0) (.string ⟨#[]⟩) (.slice none 0 0) (.slice none 0 0)
      have htn := put7_tn w3 w.heap.size (.int .i64 0) (.int .i64 0) (.int .i64 0) (.int .i64 0) (.string ⟨#[]⟩) (.slice none 0 0) (.slice none 0 0)
      generalize hW : (((((((w3.setCell ⟨w.heap.size, 0, none⟩ (.int .i64 0)).setCell ⟨w.heap.size, 1, none⟩ (.int .i64 0)).setCell ⟨w.heap.size, 2, none⟩ (.int .i64 0)).setCell ⟨w.heap.size, 3, none⟩ (.int .i64 0)).setCell ⟨w.heap.size, 4, none⟩ (.string ⟨#[]⟩)).setCell ⟨w.heap.size, 5, none⟩ (.slice none 0 0)).setCell ⟨w.heap.size, 6, none⟩ (.slice none 0 0)) = W8 at hbox htn ⊢
      obtain ⟨⟨g0, g1, g2, g3, g4, g5, g6⟩, _⟩ := cells7 hbox
      refine bodyPost_ret (v := .tuple #[.agg zeroM, .iface 34 (.int .i64 2)]) (by simp [results, Try.results15, go_sem, g0, g1, g2, g3, g4, g5, g6]) rfl ?_
      exact HBAD.out _ _ HNO.out (HBG.out.trans (htn.below (Nat.le_refl _) HBG.out.size)) rfl
    | true =>
      have HOK : Hid (GetOk l) := ⟨by rw [HE.out.1], by rw [HE.out.1]; have := HN.out.1; simp only; omega, by rw [HE.out.2]; exact mayB_iff.1 hm⟩
      clear hm
      have hx4 := HX4.out
      obtain ⟨⟨y0, y1, y2, y3, y4, y5, y6⟩, _⟩ := cells7 hx4
      have hr4 := HR4.out
      obtain ⟨⟨v0, v1, v2, v3, v4, v5, v6⟩, hv⟩ := cells7 hr4
      have q0 := hv 0
      have q1 := hv 1
      have q2 := hv 2
      have q3 := hv 3
      have q4 := hv 4
      have q5 := hv 5
      have q6 := hv 6
      clear hv hr4 hx4
      go_wp2
      have hbox := put7_box HR4.out (.int .i64 (mk : Int)) (.int .i64 (mf : Int)) (.int .i64 (mv : Int)) (.int .i64 (ms : Int)) (.string bd) (.slice ma pl.length mc) (.slice ma' cl.length mc')
      have htn := put7_tn w3 w.heap.size (.int .i64 (mk : Int)) (.int .i64 (mf : Int)) (.int .i64 (mv : Int)) (.int .i64 (ms : Int)) (.string bd) (.slice ma pl.length mc) (.slice ma' cl.length mc')
      generalize hW : (((((((w3.setCell ⟨w.heap.size, 0, none⟩ (.int .i64 (mk : Int))).setCell ⟨w.heap.size, 1, none⟩ (.int .i64 (mf : Int))).setCell ⟨w.heap.size, 2, none⟩ (.int .i64 (mv : Int))).setCell ⟨w.heap.size, 3, none⟩ (.int .i64 (ms : Int))).setCell ⟨w.heap.size, 4, none⟩ (.string bd)).setCell ⟨w.heap.size, 5, none⟩ (.slice ma pl.length mc)).setCell ⟨w.heap.size, 6, none⟩ (.slice ma' cl.length mc')) = W8 at hbox htn ⊢
      obtain ⟨⟨g0, g1, g2, g3, g4, g5, g6⟩, _⟩ := cells7 hbox
      refine bodyPost_ret (v := .tuple #[.agg #[.int .i64 (mk : Int), .int .i64 (mf : Int), .int .i64 (mv : Int), .int .i64 (ms : Int), .string bd, .slice ma pl.length mc, .slice ma' cl.length mc'], .nilIface]) (by simp [results, Try.results15, go_sem, g0, g1, g2, g3, g4, g5, g6]) rfl ?_
      refine ⟨HBG.out.trans (htn.below (Nat.le_refl _) HBG.out.size), .inl ⟨HOK.out, ⟨mk, mf, mv, ms, bd, .slice ma pl.length mc, pl, .slice ma' cl.length mc', cl⟩, rfl, HE.out.2.symm, ?_⟩⟩
      have hk := ((HROW.out.keep fun g h1 h2 => by exact HB13.out.block g h2).keep fun g h1 h2 => by exact htn.block g h2 (by omega))
      exact ⟨prf_down hk.1 (by omega), hk.2.any (by omega)⟩
end Go.Proofs.Ytbcemghkmmbmdaa.Msg
