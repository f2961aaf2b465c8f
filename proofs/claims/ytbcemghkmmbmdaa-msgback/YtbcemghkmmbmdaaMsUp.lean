/-
  Bytes that are none: Get of nothing; the document's example.
-/
import Derived.Test.YtbcemghkmmbmdaaMsRead2
namespace Go.Proofs.Ytbcemghkmmbmdaa.Msg
open Go.RowKit Route Order

theorem cells7 {w : World} {b : Nat} {x0 x1 x2 x3 x4 x5 x6 : Value} {T : TypeId} (h : w.heap[b]? = some (.cells #[x0, x1, x2, x3, x4, x5, x6] T (0, 0))) :
    (w.cell? ⟨b, 0, none⟩ = some x0 ∧ w.cell? ⟨b, 1, none⟩ = some x1 ∧ w.cell? ⟨b, 2, none⟩ = some x2 ∧ w.cell? ⟨b, 3, none⟩ = some x3 ∧ w.cell? ⟨b, 4, none⟩ = some x4 ∧ w.cell? ⟨b, 5, none⟩ = some x5 ∧ w.cell? ⟨b, 6, none⟩ = some x6) ∧ ∀ i, w.frozen? ⟨b, i, none⟩ = false := by
  simp [World.cell?, World.frozen?, h]
abbrev zeroM : Array Value := #[.int .i64 0, .int .i64 0, .int .i64 0, .int .i64 0, .string ⟨#[]⟩, .slice none 0 0, .slice none 0 0]
theorem put7_box {W : World} {b : Nat} {x0 x1 x2 x3 x4 x5 x6 : Value} {T : TypeId} (h : W.heap[b]? = some (.cells #[x0, x1, x2, x3, x4, x5, x6] T (0, 0))) (u0 u1 u2 u3 u4 u5 u6 : Value) :
    (((((((W.setCell ⟨b, 0, none⟩ u0).setCell ⟨b, 1, none⟩ u1).setCell ⟨b, 2, none⟩ u2).setCell ⟨b, 3, none⟩ u3).setCell ⟨b, 4, none⟩ u4).setCell ⟨b, 5, none⟩ u5).setCell ⟨b, 6, none⟩ u6).heap[b]? = some (.cells #[u0, u1, u2, u3, u4, u5, u6] T (0, 0)) := by
  simp [World.setCell, Array.getElem?_modify, h]
theorem put7_tn (W : World) (b : Nat) (u0 u1 u2 u3 u4 u5 u6 : Value) : Tn b W (((((((W.setCell ⟨b, 0, none⟩ u0).setCell ⟨b, 1, none⟩ u1).setCell ⟨b, 2, none⟩ u2).setCell ⟨b, 3, none⟩ u3).setCell ⟨b, 4, none⟩ u4).setCell ⟨b, 5, none⟩ u5).setCell ⟨b, 6, none⟩ u6) :=
  (((((((Tn.refl b W).setCell 0 u0).setCell 1 u1).setCell 2 u2).setCell 3 u3).setCell 4 u4).setCell 5 u5).setCell 6 u6

theorem listP_bad {w : World} {p : Nat} {a : Option Addr} {n cap : Nat} {l : List UInt8} {x : Nat} (h : Rd 70 w p a n cap l x true) (m : Nat) (hm : m ≤ 2147483647) (F : Value) :
    Calls Try.prog 68 #[.pointer (some ⟨p, 0, none⟩), .int .u64 (m : Int), F] w fun e w' => e = .returned (.slice none 0 0) ∧ Hid (Rd 70 w' p a n cap l x true ∧ Tn p w w') := by
  have HC : Hid (Calls _ _ _ _ _) := num_named h m hm (0, x, true) rfl
  clear h
  go_enter Try.func68, Try.ntmps68
  go_wp2_with fail
  refine HC.out.mono ?_
  rintro e w1 ⟨rfl, hr⟩
  clear HC
  go_wp2
  go_loopw [7, 11] (fun t7 t11 wr => t7 = .slice none 0 0 ∧ t11 = .int .i64 0 ∧ w1 = wr) (fun _ _ _ => 0)
  case atStart => exact ⟨rfl, rfl, rfl⟩
  case round =>
    obtain ⟨rfl, rfl, rfl⟩ := hrel
    go_wp2
    go_ret
    exact ⟨rfl, hr.out⟩

theorem listC_bad {w : World} {p : Nat} {a : Option Addr} {n cap : Nat} {l : List UInt8} {x : Nat} (h : Rd 70 w p a n cap l x true) (m : Nat) (hm : m ≤ 2147483647) (F : Value) :
    Calls Try.prog 70 #[.pointer (some ⟨p, 0, none⟩), .int .u64 (m : Int), F] w fun e w' => e = .returned (.slice none 0 0) ∧ Hid (Rd 70 w' p a n cap l x true ∧ Tn p w w') := by
  have HC : Hid (Calls _ _ _ _ _) := num_named h m hm (0, x, true) rfl
  clear h
  go_enter Try.func70, Try.ntmps70
  go_wp2_with fail
  refine HC.out.mono ?_
  rintro e w1 ⟨rfl, hr⟩
  clear HC
  go_wp2
  go_loopw [7, 11] (fun t7 t11 wr => t7 = .slice none 0 0 ∧ t11 = .int .i64 0 ∧ w1 = wr) (fun _ _ _ => 0)
  case atStart => exact ⟨rfl, rfl, rfl⟩
  case round =>
    obtain ⟨rfl, rfl, rfl⟩ := hrel
    go_wp2
    go_ret
    exact ⟨rfl, hr.out⟩

theorem num_bad {l : List UInt8} {m x : Nat} {f : Bool} (h : (num l m x f).2.2 = true) : num l m x f = (0, x, true) := by
  unfold num at h ⊢
  split at h
  · rfl
  · rfl
  · cases h

set_option maxHeartbeats 8000000 in
set_option maxRecDepth 100000 in
theorem message_bad {w : World} {p : Nat} {a : Option Addr} {n cap : Nat} {l : List UInt8} {x : Nat} {f : Bool} (h : Rd 70 w p a n cap l x f) (hb : (num l 7 x f).2.2 = true) :
    Calls Try.prog 33 #[.pointer (some ⟨p, 0, none⟩)] w fun e w' => e = .returned (.agg zeroM) ∧ Hid (Rd 70 w' p a n cap l x true ∧ Tn p w w') := by
  have e0 := num_bad hb
  have H0 : Hid (Sr 25 zeroM w ((w.alloc (.cells zeroM 25)).alloc (.cells zeroM 25)) p w.heap.size (w.heap.size + 1) (w.heap.size + 2) a n cap l x f zeroM) := Sr.start h
  have N0 : Hid (Calls _ _ _ _ _) := num_named H0.out.rd 7 (by omega) (0, x, true) e0
  clear h hb e0
  go_enter Try.func33, Try.ntmps33
  go_wp2_with fail
  refine N0.out.mono ?_
  rintro e w1 ⟨rfl, hr⟩
  have S0 := H0.out.step hr.out
  clear N0 hr H0 
  obtain ⟨⟨y0, y1, y2, y3, y4, y5, y6⟩, hf⟩ := cells7 S0.box
  have z := hf 0
  have T0 : Hid (Sr 25 zeroM w (w1.setCell ⟨w.heap.size + 1, 0, none⟩ (.int .i64 0)) p w.heap.size (w.heap.size + 1) (w.heap.size + 2) a n cap l x true zeroM) := S0.set 0 _ rfl
  
  clear S0 hf
  have N1 : Hid (Calls _ _ _ _ _) := node_named T0.out.rd (0, x, true) rfl
  go_wp2_with fail
  refine N1.out.mono ?_
  rintro e w2 ⟨rfl, hr⟩
  have S1 := T0.out.step hr.out
  clear N1 hr T0 y0 y1 y2 y3 y4 y5 y6 z
  obtain ⟨⟨y0, y1, y2, y3, y4, y5, y6⟩, hf⟩ := cells7 S1.box
  have z := hf 1
  have T1 : Hid (Sr 25 zeroM w (w2.setCell ⟨w.heap.size + 1, 1, none⟩ (.int .i64 0)) p w.heap.size (w.heap.size + 1) (w.heap.size + 2) a n cap l x true zeroM) := S1.set 1 _ rfl
  
  clear S1 hf
  have N2 : Hid (Calls _ _ _ _ _) := num_named T1.out.rd 64 (by omega) (0, x, true) rfl
  go_wp2_with fail
  refine N2.out.mono ?_
  rintro e w3 ⟨rfl, hr⟩
  have S2 := T1.out.step hr.out
  clear N2 hr T1 y0 y1 y2 y3 y4 y5 y6 z
  obtain ⟨⟨y0, y1, y2, y3, y4, y5, y6⟩, hf⟩ := cells7 S2.box
  have z := hf 2
  have T2 : Hid (Sr 25 zeroM w (w3.setCell ⟨w.heap.size + 1, 2, none⟩ (.int .i64 0)) p w.heap.size (w.heap.size + 1) (w.heap.size + 2) a n cap l x true zeroM) := S2.set 2 _ rfl
  
  clear S2 hf
  have N3 : Hid (Calls _ _ _ _ _) := num_named T2.out.rd 1000 (by omega) (0, x, true) rfl
  go_wp2_with fail
  refine N3.out.mono ?_
  rintro e w4 ⟨rfl, hr⟩
  have S3 := T2.out.step hr.out
  clear N3 hr T2 y0 y1 y2 y3 y4 y5 y6 z
  obtain ⟨⟨y0, y1, y2, y3, y4, y5, y6⟩, hf⟩ := cells7 S3.box
  have z := hf 3
  have T3 : Hid (Sr 25 zeroM w (w4.setCell ⟨w.heap.size + 1, 3, none⟩ (.int .i64 0)) p w.heap.size (w.heap.size + 1) (w.heap.size + 2) a n cap l x true zeroM) := S3.set 3 _ rfl
  
  clear S3 hf
  have N4 : Hid (Calls _ _ _ _ _) := text_named T3.out.rd (ByteArray.empty, x, true) rfl
  go_wp2_with fail
  refine N4.out.mono ?_
  rintro e w5 ⟨rfl, hr⟩
  have S4 := T3.out.step hr.out
  clear N4 hr T3 y0 y1 y2 y3 y4 y5 y6 z
  obtain ⟨⟨y0, y1, y2, y3, y4, y5, y6⟩, hf⟩ := cells7 S4.box
  have z := hf 4
  have T4 : Hid (Sr 25 zeroM w (w5.setCell ⟨w.heap.size + 1, 4, none⟩ (.string ⟨#[]⟩)) p w.heap.size (w.heap.size + 1) (w.heap.size + 2) a n cap l x true zeroM) := S4.set 4 _ rfl
  
  clear S4 hf
  have N5 : Hid (Calls _ _ _ _ _) := listP_bad T4.out.rd 64 (by omega) (.func (.func 69) #[.pointer (some ⟨p, 0, none⟩)] #[])
  go_wp2_with fail
  refine N5.out.mono ?_
  rintro e w6 ⟨rfl, hr⟩
  have S5 := T4.out.step hr.out
  clear N5 hr T4 y0 y1 y2 y3 y4 y5 y6 z
  obtain ⟨⟨y0, y1, y2, y3, y4, y5, y6⟩, hf⟩ := cells7 S5.box
  have z := hf 5
  have T5 : Hid (Sr 25 zeroM w (w6.setCell ⟨w.heap.size + 1, 5, none⟩ (.slice none 0 0)) p w.heap.size (w.heap.size + 1) (w.heap.size + 2) a n cap l x true zeroM) := S5.set 5 _ rfl
  
  clear S5 hf
  have N6 : Hid (Calls _ _ _ _ _) := listC_bad T5.out.rd 13 (by omega) (.func (.func 71) #[.pointer (some ⟨p, 0, none⟩)] #[])
  go_wp2_with fail
  refine N6.out.mono ?_
  rintro e w7 ⟨rfl, hr⟩
  have S6 := T5.out.step hr.out
  clear N6 hr T5 y0 y1 y2 y3 y4 y5 y6 z
  obtain ⟨⟨y0, y1, y2, y3, y4, y5, y6⟩, hf⟩ := cells7 S6.box
  have z := hf 6
  have T6 : Hid (Sr 25 zeroM w (w7.setCell ⟨w.heap.size + 1, 6, none⟩ (.slice none 0 0)) p w.heap.size (w.heap.size + 1) (w.heap.size + 2) a n cap l x true zeroM) := S6.set 6 _ rfl
  obtain ⟨⟨v0, v1, v2, v3, v4, v5, v6⟩, hv⟩ := cells7 S6.res
  clear S6 hf
  have q0 := hv 0
  have q1 := hv 1
  have q2 := hv 2
  have q3 := hv 3
  have q4 := hv 4
  have q5 := hv 5
  have q6 := hv 6
  clear hv
  go_wp2
  have hbox := put7_box T6.out.res (.int .i64 0) (.int .i64 0) (.int .i64 0) (.int .i64 0) (.string ⟨#[]⟩) (.slice none 0 0) (.slice none 0 0)
  have htn := put7_tn (w7.setCell ⟨w.heap.size + 1, 6, none⟩ (.slice none 0 0)) w.heap.size (.int .i64 0) (.int .i64 0) (.int .i64 0) (.int .i64 0) (.string ⟨#[]⟩) (.slice none 0 0) (.slice none 0 0)
  generalize hW : ((((((((w7.setCell ⟨w.heap.size + 1, 6, none⟩ (.slice none 0 0)).setCell ⟨w.heap.size, 0, none⟩ (.int .i64 0)).setCell ⟨w.heap.size, 1, none⟩ (.int .i64 0)).setCell ⟨w.heap.size, 2, none⟩ (.int .i64 0)).setCell ⟨w.heap.size, 3, none⟩ (.int .i64 0)).setCell ⟨w.heap.size, 4, none⟩ (.string ⟨#[]⟩)).setCell ⟨w.heap.size, 5, none⟩ (.slice none 0 0)).setCell ⟨w.heap.size, 6, none⟩ (.slice none 0 0)) = W8 at hbox htn ⊢
  obtain ⟨⟨g0, g1, g2, g3, g4, g5, g6⟩, _⟩ := cells7 hbox
  refine bodyPost_ret (v := .agg zeroM) (by simp [results, Try.results33, go_sem, g0, g1, g2, g3, g4, g5, g6]) rfl ?_
  obtain ⟨d1, d2, _⟩ := T6.out.tn_res htn
  exact ⟨rfl, d2, d1⟩

/-- 'done?' of a reader that has failed. -/
theorem done_bad {w : World} {p : Nat} {a : Option Addr} {n cap : Nat} {l : List UInt8} {x : Nat} (h : Rd 70 w p a n cap l x true) :
    Calls Try.prog 34 #[.pointer (some ⟨p, 0, none⟩)] w fun e w' => e = .returned (.bool false) ∧ Below w.heap.size w w' := by
  obtain ⟨c0, c1, c2, _, _, _⟩ := three h.box
  clear h
  go_enter Try.func34, Try.ntmps34
  go_wp2_with fail
  go_quiet (fail)
  go_wp2
  go_ret
  exact ⟨rfl, below_drewN (Below.refl _ _) _⟩

set_option maxHeartbeats 8000000 in
set_option maxRecDepth 100000 in
theorem get_bad (a : Option Addr) (n cap : Nat) (l : List UInt8) (w : World) (hn : n = l.length) (hl : Go.Proofs.Ytbcemghkmmbmdaa.Lies w a l) (hm : n ≤ 100000000) (hc : n ≤ cap) (hcm : cap ≤ maxLen) (ho : l = [] ∨ ∀ y, a = some y → y.block < w.heap.size) (hb : (num l 7 0 false).2.2 = true) :
    Calls Try.prog 15 #[.slice a n cap] w fun e w' => e = .returned (.tuple #[.agg zeroM, .iface 34 (.int .i64 2)]) ∧ Below w.heap.size w w' := by
  have hB1 : Below w.heap.size w (w.alloc (.cells zeroM 25)) := (Below.refl _ _).alloc (Nat.le_refl _) _
  have hB2 : Below w.heap.size w ((w.alloc (.cells zeroM 25)).alloc (.cells #[.slice a n cap, .int .i64 0, .bool false] 70)) := hB1.alloc hB1.size _
  have hz : (w.alloc (.cells zeroM 25)).heap.size = w.heap.size + 1 := by simp
  have hR : Rd 70 ((w.alloc (.cells zeroM 25)).alloc (.cells #[.slice a n cap, .int .i64 0, .bool false] 70)) (w.heap.size + 1) a n cap l 0 false :=
    ⟨by rw [← hz]; exact heap_alloc_new _ _, hn, Go.Proofs.Ytbcemghkmmbmdaa.Lies.below hl hB2 (Nat.le_refl _), hm, hc, hcm, Nat.zero_le _, ho.imp id fun h y hy => Nat.lt_succ_of_lt (h y hy)⟩
  have HRES : Hid ((w.alloc (.cells zeroM 25)).heap[w.heap.size]? = some (.cells zeroM 25 (0, 0))) := heap_alloc_new w _
  have HB2 : Hid (Below w.heap.size w _) := hB2
  have HC : Hid (Calls _ _ _ _ _) := message_bad hR hb
  clear hn hl hm hc hcm ho hb hB1 hB2 hR
  go_enter Try.func15, Try.ntmps15
  go_wp2_with fail
  refine HC.out.mono ?_
  rintro e w1 ⟨rfl, hr⟩
  have HT1 : Hid (Tn (w.heap.size + 1) _ w1) := hr.out.2
  have hres1 : w1.heap[w.heap.size]? = some (.cells zeroM 25 (0, 0)) := by
    rw [hr.out.2.block w.heap.size (by first | (simp; done) | (simp; omega)) (by omega), Below.heap_alloc _ _ _ (by simp)]
    exact HRES.out
  have HBw1 : Hid (Below w.heap.size w w1) := HB2.out.trans (hr.out.2.below (by omega) (by first | (simp; done) | (simp; omega)))
  have hba : Below w1.heap.size w1 (w1.alloc (.cells zeroM 25)) := (Below.refl _ _).alloc (Nat.le_refl _) _
  have hres2 := box_stays hres1 hba (Nat.le_refl _)
  have HCD : Hid (Calls _ _ _ _ _) := done_bad (hr.out.1.below hba)
  have HBA : Hid (Below w1.heap.size w1 _) := hba
  have HRES2 : Hid (_ = _) := hres2
  clear hr HC HT1 hres1 hres2 hba HB2 HRES
  go_wp2_with fail
  refine HCD.out.mono ?_
  rintro e w2 ⟨rfl, hb2⟩
  have hres3 := box_stays HRES2.out hb2 (Nat.le_refl _)
  have HBF : Hid (Below w.heap.size w w2) := (HBw1.out.trans (HBA.out.mono HBw1.out.size)).trans (hb2.mono (Nat.le_trans HBw1.out.size HBA.out.size))
  have HR3 : Hid (_ = _) := hres3
  obtain ⟨⟨v0, v1, v2, v3, v4, v5, v6⟩, hv⟩ := cells7 hres3
  have q0 := hv 0
  have q1 := hv 1
  have q2 := hv 2
  have q3 := hv 3
  have q4 := hv 4
  have q5 := hv 5
  have q6 := hv 6
  clear hv hres3 HCD hb2
  go_wp2
  have hbox := put7_box HR3.out (.int .i64 0) (.int .i64 0) (.int .i64 0) (.int .i64 0) (.string ⟨#[]⟩) (.slice none 0 0) (.slice none 0 0)
  have htn := put7_tn w2 w.heap.size (.int .i64 0) (.int .i64 0) (.int .i64 0) (.int .i64 0) (.string ⟨#[]⟩) (.slice none 0 0) (.slice none 0 0)
  generalize hW : (((((((w2.setCell ⟨w.heap.size, 0, none⟩ (.int .i64 0)).setCell ⟨w.heap.size, 1, none⟩ (.int .i64 0)).setCell ⟨w.heap.size, 2, none⟩ (.int .i64 0)).setCell ⟨w.heap.size, 3, none⟩ (.int .i64 0)).setCell ⟨w.heap.size, 4, none⟩ (.string ⟨#[]⟩)).setCell ⟨w.heap.size, 5, none⟩ (.slice none 0 0)).setCell ⟨w.heap.size, 6, none⟩ (.slice none 0 0)) = W8 at hbox htn ⊢
  obtain ⟨⟨g0, g1, g2, g3, g4, g5, g6⟩, _⟩ := cells7 hbox
  refine bodyPost_ret (v := .tuple #[.agg zeroM, .iface 34 (.int .i64 2)]) (by simp [results, Try.results15, go_sem, g0, g1, g2, g3, g4, g5, g6]) rfl ?_
  exact ⟨rfl, HBF.out.trans (htn.below (Nat.le_refl _) HBF.out.size)⟩

theorem conv_buf {B n : Nat} {v : Value} {l : List UInt8} {W0 w : World} (h : Buf B v l W0 w) (hn : n = l.length) :
    ∃ a c, v = .slice a n c ∧ Hid ((∀ W, Below w.heap.size w W → (convert 31 9 (.slice a n c)).run Try.prog W = .ok (.string ⟨l.toArray⟩) W) ∧ Go.Proofs.Ytbcemghkmmbmdaa.Lies w a l ∧ n ≤ c ∧ c ≤ maxLen ∧ ∀ y, a = some y → y.block < w.heap.size) := by
  subst hn
  obtain ⟨a, c, rfl, h1, h2, h3, _, h5⟩ := h.form
  exact ⟨a, c, rfl, fun W hb => conv_lies (Go.Proofs.Ytbcemghkmmbmdaa.Lies.below h3 hb (Nat.le_refl _)), h3, h1, h2, fun y hy => (h5 y hy).2⟩
theorem ee1 (w : World) : (binOp .eql 29 (.iface 34 (.int .i64 1)) (.iface 34 (.int .i64 1))).run Try.prog w = .ok (.bool true) w := by kernel_rfl
theorem ee2 (w : World) : (binOp .eql 29 (.iface 34 (.int .i64 2)) (.iface 34 (.int .i64 2))).run Try.prog w = .ok (.bool true) w := by kernel_rfl
theorem ee0 (w : World) : (binOp .eql 29 .nilIface .nilIface).run Try.prog w = .ok (.bool true) w := by kernel_rfl

/-- The document's example. -/
def upM : Ms := ⟨3, 2, 1, 3, ⟨#[97]⟩, [], []⟩
theorem upM_ok : MsOk upM := mayB_iff.1 (by decide)
theorem upM_enc : encM upM = [3, 2, 1, 3, 1, 97, 0, 0] := by decide
theorem none_bad : (num [] 7 0 false).2.2 = true := by decide

set_option maxHeartbeats 4000000 in
set_option maxRecDepth 100000 in
theorem up_any (w : World) : Calls Try.prog 9 #[] w fun e w' => e = .returned (.bool true) ∧ Below w.heap.size w w' := by
  have q1 := ee0
  have q2 := ee2
  have HP : Hid (Calls _ _ _ _ _) := put_ok upM none 0 0 none 0 0 w ⟨rfl, .inl rfl, rfl, .inl rfl⟩ upM_ok
  go_enter Try.func9, Try.ntmps9
  go_wp2_with fail
  refine HP.out.mono ?_
  rintro e w1 ⟨v, rfl, hv⟩
  rw [upM_enc] at hv
  obtain ⟨a1, c1, rfl, HV⟩ := conv_buf (n := 8) hv rfl
  have HB1 : Hid (Below w.heap.size w w1) := hv.2.1
  have HG : Hid (Calls _ _ _ _ _) := get_bad none 0 0 [] w1 rfl (.inl rfl) (by omega) (Nat.le_refl _) (by unfold maxLen; omega) (.inl rfl) none_bad
  clear hv HP
  go_wp2_with fail
  refine HG.out.mono ?_
  rintro e w2 ⟨rfl, hb2⟩
  have hba : Below w2.heap.size w2 (w2.alloc (.cells zeroM 25)) := (Below.refl _ _).alloc (Nat.le_refl _) _
  have hcv := HV.out.1 _ (hb2.trans (hba.mono hb2.size))
  have HB2 : Hid (Below w.heap.size w (w2.alloc (.cells zeroM 25))) := (HB1.out.trans (hb2.mono HB1.out.size)).trans (hba.mono (Nat.le_trans HB1.out.size hb2.size))
  clear hb2 HG HV hba
  go_wp2
  go_ret
  exact ⟨by first | rfl | decide, HB2.out⟩
end Go.Proofs.Ytbcemghkmmbmdaa.Msg
