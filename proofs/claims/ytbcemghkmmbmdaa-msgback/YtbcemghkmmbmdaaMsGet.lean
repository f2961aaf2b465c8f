/-
  A message read; Get.
-/
import Derived.Test.YtbcemghkmmbmdaaMsRow4
namespace Go.Proofs.Ytbcemghkmmbmdaa.Msg
open Go.RowKit Route Order

/-- A message with its rows' values. -/
structure MZ where
  k : Nat
  f : Nat
  v : Nat
  s : Nat
  b : ByteArray
  pv : Value
  p : List PZ
  cv : Value
  c : List CZ
def msOf (m : MZ) : Ms := ⟨(m.k : Int), (m.f : Int), (m.v : Int), (m.s : Int), m.b, m.p.map (·.1), m.c.map chOf⟩
abbrev mzV (m : MZ) : Array Value := #[.int .i64 (m.k : Int), .int .i64 (m.f : Int), .int .i64 (m.v : Int), .int .i64 (m.s : Int), .string m.b, m.pv, m.cv]
/-- The rows of a message that was read. -/
def MRow (B : Nat) (m : MZ) (w : World) : Prop := PRow B m.pv m.p w ∧ CRow B m.cv m.c w
theorem MRow.keep {B : Nat} {m : MZ} {w w' : World} (h : MRow B m w) (hk : ∀ g, B ≤ g → g < w.heap.size → w'.heap[g]? = w.heap[g]?) : MRow B m w' := ⟨h.1.keep hk, h.2.keep hk⟩
theorem told_two {l : List UInt8} {s : St} {x5 x6 : Nat} {f5 f6 : Bool} {Lc : List Ch} (h5 : Al s (x5, f5)) (hs : s.1 ≤ l.length) (hx : x5 ≤ l.length) (h6 : Told (listC l (x5, f5)) Lc x6 f6) : Al (listC l s).2 (x6, f6) ∧ (f6 = false → f5 = false ∧ (listC l s).1 = Lc) := by
  cases f5 with
  | false =>
    have e := h5.good
    subst e
    exact ⟨h6.al, fun e => ⟨rfl, h6.row e⟩⟩
  | true =>
    have b1 : (listC l (x5, true)).2.2 = true := Rds.bad (listC_rds l (x5, true)) hx rfl
    have b2 : (listC l s).2.2 = true := Rds.bad (listC_rds l s) hs h5.1.symm
    have b3 : f6 = true := by have := h6.al.1; rw [b1] at this; exact this
    subst b3
    exact ⟨⟨b2.symm, fun e => by rw [b2] at e; cases e⟩, fun e => by cases e⟩
theorem crw_form {B : Nat} {v : Value} {L : List CZ} {w : World} (h : CRow B v L w) : ∃ a m c, v = .slice a m c := own_form h.1

set_option maxHeartbeats 8000000 in
set_option maxRecDepth 100000 in
theorem message_any {w : World} {p : Nat} {a : Option Addr} {n cap : Nat} {l : List UInt8} (h : Rd 70 w p a n cap l 0 false) :
    Calls Try.prog 33 #[.pointer (some ⟨p, 0, none⟩)] w fun e w' => ∃ (m : MZ) (x' : Nat) (f' : Bool), e = .returned (.agg (mzV m)) ∧ Hid (Rd 70 w' p a n cap l x' f' ∧ Tn p w w' ∧ MRow w.heap.size m w' ∧ Al (msgR l).2 (x', f') ∧ (f' = false → (msgR l).1 = msOf m)) := by
  have HPR : Hid (∀ A C D E G, num l 7 0 false = A → num l 12 A.2.1 A.2.2 = C → num l 64 C.2.1 C.2.2 = D → num l 1000 D.2.1 D.2.2 = E → tex l 4096 E.2.1 E.2.2 = G → msgR l = (⟨(A.1 : Int), (C.1 : Int), (D.1 : Int), (E.1 : Int), G.1, (listP l G.2).1, (listC l (listP l G.2).2).1⟩, (listC l (listP l G.2).2).2)) := fun A C D E G h1 h2 h3 h4 h5 => by subst h1; subst h2; subst h3; subst h4; subst h5; rfl
  generalize eA : num l 7 0 false = A
  generalize eC' : num l 12 A.2.1 A.2.2 = C
  generalize eD' : num l 64 C.2.1 C.2.2 = D
  generalize eE' : num l 1000 D.2.1 D.2.2 = E
  generalize eG' : tex l 4096 E.2.1 E.2.2 = G
  have HPQ : Hid (_ = _) := HPR.out A C D E G eA eC' eD' eE' eG'
  have eC : Hid (num l 12 A.2.1 A.2.2 = C) := eC'
  have eD : Hid (num l 64 C.2.1 C.2.2 = D) := eD'
  have eE : Hid (num l 1000 D.2.1 D.2.2 = E) := eE'
  have eG : Hid (tex l 4096 E.2.1 E.2.2 = G) := eG'
  clear eC' eD' eE' eG' HPR
  have H0 : Hid (Sr 25 zeroM w ((w.alloc (.cells zeroM 25)).alloc (.cells zeroM 25)) p w.heap.size (w.heap.size + 1) (w.heap.size + 2) a n cap l 0 false zeroM) := Sr.start h
  clear h
  have N0 : Hid (Calls _ _ _ _ _) := num_named H0.out.rd 7 (by omega) A eA
  go_enter Try.func33, Try.ntmps33
  go_wp2_with fail
  refine N0.out.mono ?_
  rintro e w1 ⟨rfl, hr⟩
  have S0 := H0.out.step hr.out
  clear N0 hr H0  
  obtain ⟨⟨y0, y1, y2, y3, y4, y5, y6⟩, hf⟩ := cells7 S0.box
  have z := hf 0
  have T0 : Hid (Sr 25 zeroM w (w1.setCell ⟨w.heap.size + 1, 0, none⟩ (.int .i64 (A.1 : Int))) p w.heap.size (w.heap.size + 1) (w.heap.size + 2) a n cap l A.2.1 A.2.2 #[.int .i64 (A.1 : Int), .int .i64 0, .int .i64 0, .int .i64 0, .string ⟨#[]⟩, .slice none 0 0, .slice none 0 0]) := S0.set 0 _ rfl
  clear S0 hf
  have N1 : Hid (Calls _ _ _ _ _) := node_named T0.out.rd C eC.out
  go_wp2_with fail
  refine N1.out.mono ?_
  rintro e w2 ⟨rfl, hr⟩
  have S1 := T0.out.step hr.out
  clear N1 hr T0 y0 y1 y2 y3 y4 y5 y6 z 
  obtain ⟨⟨y0, y1, y2, y3, y4, y5, y6⟩, hf⟩ := cells7 S1.box
  have z := hf 1
  have T1 : Hid (Sr 25 zeroM w (w2.setCell ⟨w.heap.size + 1, 1, none⟩ (.int .i64 (C.1 : Int))) p w.heap.size (w.heap.size + 1) (w.heap.size + 2) a n cap l C.2.1 C.2.2 #[.int .i64 (A.1 : Int), .int .i64 (C.1 : Int), .int .i64 0, .int .i64 0, .string ⟨#[]⟩, .slice none 0 0, .slice none 0 0]) := S1.set 1 _ rfl
  clear S1 hf
  have N2 : Hid (Calls _ _ _ _ _) := num_named T1.out.rd 64 (by omega) D eD.out
  go_wp2_with fail
  refine N2.out.mono ?_
  rintro e w3 ⟨rfl, hr⟩
  have S2 := T1.out.step hr.out
  clear N2 hr T1 y0 y1 y2 y3 y4 y5 y6 z 
  obtain ⟨⟨y0, y1, y2, y3, y4, y5, y6⟩, hf⟩ := cells7 S2.box
  have z := hf 2
  have T2 : Hid (Sr 25 zeroM w (w3.setCell ⟨w.heap.size + 1, 2, none⟩ (.int .i64 (D.1 : Int))) p w.heap.size (w.heap.size + 1) (w.heap.size + 2) a n cap l D.2.1 D.2.2 #[.int .i64 (A.1 : Int), .int .i64 (C.1 : Int), .int .i64 (D.1 : Int), .int .i64 0, .string ⟨#[]⟩, .slice none 0 0, .slice none 0 0]) := S2.set 2 _ rfl
  clear S2 hf
  have N3 : Hid (Calls _ _ _ _ _) := num_named T2.out.rd 1000 (by omega) E eE.out
  go_wp2_with fail
  refine N3.out.mono ?_
  rintro e w4 ⟨rfl, hr⟩
  have S3 := T2.out.step hr.out
  clear N3 hr T2 y0 y1 y2 y3 y4 y5 y6 z 
  obtain ⟨⟨y0, y1, y2, y3, y4, y5, y6⟩, hf⟩ := cells7 S3.box
  have z := hf 3
  have T3 : Hid (Sr 25 zeroM w (w4.setCell ⟨w.heap.size + 1, 3, none⟩ (.int .i64 (E.1 : Int))) p w.heap.size (w.heap.size + 1) (w.heap.size + 2) a n cap l E.2.1 E.2.2 #[.int .i64 (A.1 : Int), .int .i64 (C.1 : Int), .int .i64 (D.1 : Int), .int .i64 (E.1 : Int), .string ⟨#[]⟩, .slice none 0 0, .slice none 0 0]) := S3.set 3 _ rfl
  clear S3 hf
  have N4 : Hid (Calls _ _ _ _ _) := text_named T3.out.rd G eG.out
  go_wp2_with fail
  refine N4.out.mono ?_
  rintro e w5 ⟨rfl, hr⟩
  have S4 := T3.out.step hr.out
  clear N4 hr T3 y0 y1 y2 y3 y4 y5 y6 z 
  obtain ⟨⟨y0, y1, y2, y3, y4, y5, y6⟩, hf⟩ := cells7 S4.box
  have z := hf 4
  have T4 : Hid (Sr 25 zeroM w (w5.setCell ⟨w.heap.size + 1, 4, none⟩ (.string G.1)) p w.heap.size (w.heap.size + 1) (w.heap.size + 2) a n cap l G.2.1 G.2.2 #[.int .i64 (A.1 : Int), .int .i64 (C.1 : Int), .int .i64 (D.1 : Int), .int .i64 (E.1 : Int), .string G.1, .slice none 0 0, .slice none 0 0]) := S4.set 4 _ rfl
  clear S4 hf
  have N5 : Hid (Calls _ _ _ _ _) := listP_any T4.out.rd
  go_wp2_with fail
  refine N5.out.mono ?_
  rintro e w6 ⟨vv5, L5, x5, f5, rfl, hr⟩
  obtain ⟨a5, m5, c5, rfl⟩ := prf_form hr.out.1.row
  have HT5 : Hid (Told _ _ x5 f5) := hr.out.2
  have HG2 : Hid (G.2.1 ≤ l.length) := Rd.le T4.out.rd
  have HX5 : Hid (x5 ≤ l.length) := Rd.le hr.out.1.rd
  have HR5 : Hid (PRow (w.heap.size + 2) (.slice a5 m5 c5) L5 w6) := prf_down hr.out.1.row T4.out.big
  have S5 := T4.out.step ⟨hr.out.1.rd, hr.out.1.tn⟩
  clear N5 hr T4 y0 y1 y2 y3 y4 y5 y6 z 
  obtain ⟨⟨y0, y1, y2, y3, y4, y5, y6⟩, hf⟩ := cells7 S5.box
  have z := hf 5
  have T5 : Hid (Sr 25 zeroM w (w6.setCell ⟨w.heap.size + 1, 5, none⟩ (.slice a5 m5 c5)) p w.heap.size (w.heap.size + 1) (w.heap.size + 2) a n cap l x5 f5 #[.int .i64 (A.1 : Int), .int .i64 (C.1 : Int), .int .i64 (D.1 : Int), .int .i64 (E.1 : Int), .string G.1, .slice a5 m5 c5, .slice none 0 0]) := S5.set 5 _ rfl
  have HR5b : Hid (PRow (w.heap.size + 2) (.slice a5 m5 c5) L5 (w6.setCell ⟨w.heap.size + 1, 5, none⟩ (.slice a5 m5 c5))) := HR5.out.keep fun g h1 _ => S5.setRows 5 _ g h1
  clear HR5
  clear S5 hf
  have N6 : Hid (Calls _ _ _ _ _) := listC_any T5.out.rd
  go_wp2_with fail
  refine N6.out.mono ?_
  rintro e w7 ⟨vv6, L6, x6, f6, rfl, hr⟩
  obtain ⟨a6, m6, c6, rfl⟩ := crw_form hr.out.1.row
  have HT6 : Hid (Told _ _ x6 f6) := hr.out.2
  have HR5c : Hid (PRow (w.heap.size + 2) (.slice a5 m5 c5) L5 w7) := HR5b.out.keep (T5.out.rows hr.out.1.tn)
  have HR6 : Hid (CRow (w.heap.size + 2) (.slice a6 m6 c6) L6 w7) := hr.out.1.row.any T5.out.big
  have S6 := T5.out.step ⟨hr.out.1.rd, hr.out.1.tn⟩
  clear N6 hr T5 y0 y1 y2 y3 y4 y5 y6 z HR5b
  obtain ⟨⟨y0, y1, y2, y3, y4, y5, y6⟩, hf⟩ := cells7 S6.box
  have z := hf 6
  have T6 : Hid (Sr 25 zeroM w (w7.setCell ⟨w.heap.size + 1, 6, none⟩ (.slice a6 m6 c6)) p w.heap.size (w.heap.size + 1) (w.heap.size + 2) a n cap l x6 f6 #[.int .i64 (A.1 : Int), .int .i64 (C.1 : Int), .int .i64 (D.1 : Int), .int .i64 (E.1 : Int), .string G.1, .slice a5 m5 c5, .slice a6 m6 c6]) := S6.set 6 _ rfl
  obtain ⟨⟨v0, v1, v2, v3, v4, v5, v6⟩, hv⟩ := cells7 S6.res
  have HRW : Hid (PRow (w.heap.size + 2) (.slice a5 m5 c5) L5 (w7.setCell ⟨w.heap.size + 1, 6, none⟩ (.slice a6 m6 c6)) ∧ CRow (w.heap.size + 2) (.slice a6 m6 c6) L6 (w7.setCell ⟨w.heap.size + 1, 6, none⟩ (.slice a6 m6 c6))) := ⟨HR5c.out.keep fun g h1 _ => S6.setRows 6 _ g h1, HR6.out.keep fun g h1 _ => S6.setRows 6 _ g h1⟩
  clear HR5c HR6
  clear S6 hf
  have q0 := hv 0
  have q1 := hv 1
  have q2 := hv 2
  have q3 := hv 3
  have q4 := hv 4
  have q5 := hv 5
  have q6 := hv 6
  clear hv
  go_wp2
  have hbox := put7_box T6.out.res (.int .i64 (A.1 : Int)) (.int .i64 (C.1 : Int)) (.int .i64 (D.1 : Int)) (.int .i64 (E.1 : Int)) (.string G.1) (.slice a5 m5 c5) (.slice a6 m6 c6)
  have htn := put7_tn (w7.setCell ⟨w.heap.size + 1, 6, none⟩ (.slice a6 m6 c6)) w.heap.size (.int .i64 (A.1 : Int)) (.int .i64 (C.1 : Int)) (.int .i64 (D.1 : Int)) (.int .i64 (E.1 : Int)) (.string G.1) (.slice a5 m5 c5) (.slice a6 m6 c6)
  generalize hW : (((((((w7.setCell ⟨w.heap.size + 1, 6, none⟩ (.slice a6 m6 c6)).setCell ⟨w.heap.size, 0, none⟩ (.int .i64 (A.1 : Int))).setCell ⟨w.heap.size, 1, none⟩ (.int .i64 (C.1 : Int))).setCell ⟨w.heap.size, 2, none⟩ (.int .i64 (D.1 : Int))).setCell ⟨w.heap.size, 3, none⟩ (.int .i64 (E.1 : Int))).setCell ⟨w.heap.size, 4, none⟩ (.string G.1)).setCell ⟨w.heap.size, 5, none⟩ (.slice a5 m5 c5)).setCell ⟨w.heap.size, 6, none⟩ (.slice a6 m6 c6) = W8 at hbox htn ⊢
  obtain ⟨⟨g0, g1, g2, g3, g4, g5, g6⟩, _⟩ := cells7 hbox
  refine bodyPost_ret (v := .agg #[.int .i64 (A.1 : Int), .int .i64 (C.1 : Int), .int .i64 (D.1 : Int), .int .i64 (E.1 : Int), .string G.1, .slice a5 m5 c5, .slice a6 m6 c6]) (by simp [results, Try.results33, go_sem, g0, g1, g2, g3, g4, g5, g6]) rfl ?_
  obtain ⟨d1, d2, d3⟩ := T6.out.tn_res htn
  have hal := told_two HT5.out.al ((listP_rds l G.2) HG2.out).1 HX5.out HT6.out
  exact ⟨⟨A.1, C.1, D.1, E.1, G.1, .slice a5 m5 c5, L5, .slice a6 m6 c6, L6⟩, x6, f6, rfl, d2, d1, ⟨prf_down (HRW.out.1.keep d3) (Nat.le_add_right w.heap.size 2), (HRW.out.2.keep d3).any (Nat.le_add_right w.heap.size 2)⟩, by rw [HPQ.out]; exact hal.1, fun e => by rw [HPQ.out]; obtain ⟨k1, k2⟩ := hal.2 e; have k3 := HT5.out.row k1; unfold msOf; simp only; rw [← k3, k2]⟩
end Go.Proofs.Ytbcemghkmmbmdaa.Msg
