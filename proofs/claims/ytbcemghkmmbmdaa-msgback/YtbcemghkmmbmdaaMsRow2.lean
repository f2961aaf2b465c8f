/-
  Proofs read, and rows of them.
-/
import Derived.Test.YtbcemghkmmbmdaaMsRow
namespace Go.Proofs.Ytbcemghkmmbmdaa.Msg
open Go.RowKit Route Order

theorem cells4 {w : World} {b : Nat} {x y z u : Value} {T : TypeId} (h : w.heap[b]? = some (.cells #[x, y, z, u] T (0, 0))) :
    (w.cell? ⟨b, 0, none⟩ = some x ∧ w.cell? ⟨b, 1, none⟩ = some y ∧ w.cell? ⟨b, 2, none⟩ = some z ∧ w.cell? ⟨b, 3, none⟩ = some u) ∧ ∀ i, w.frozen? ⟨b, i, none⟩ = false := by
  simp [World.cell?, World.frozen?, h]
theorem int_form {B : Nat} {v : Value} {L : List Int} {w : World} (h : IRow B v L w) : ∃ a m c, v = .slice a m c := own_form h
theorem int_down {B B' : Nat} {v : Value} {L : List Int} {w : World} (h : IRow B v L w) (hB : B' ≤ B) : IRow B' v L w := own_any h hB
abbrev zeroP : Array Value := #[.int .i64 0, .int .i64 0, .string ⟨#[]⟩, .slice none 0 0]

set_option maxHeartbeats 8000000 in
set_option maxRecDepth 100000 in
theorem proof_any {w : World} {p : Nat} {a : Option Addr} {n cap : Nat} {l : List UInt8} {x : Nat} {f : Bool} (h : Rd 70 w p a n cap l x f) (hx : x ≤ l.length) :
    Calls Try.prog 69 #[.pointer (some ⟨p, 0, none⟩)] w fun e w' => ∃ (z : Pf) (kv : Value) (x' : Nat) (f' : Bool), e = .returned (.agg #[.int .i64 z.1, .int .i64 z.2.1, .string z.2.2.1, kv]) ∧ Hid (Rd 70 w' p a n cap l x' f' ∧ Tn p w w' ∧ IRow w.heap.size kv z.2.2.2 w' ∧ Al (proofR l (x, f)).2 (x', f') ∧ (f' = false → (proofR l (x, f)).1 = z)) := by
  have HPR : Hid (∀ A C D, num l 64 x f = A → num l 64 A.2.1 A.2.2 = C → tex l 4096 C.2.1 C.2.2 = D → proofR l (x, f) = (((A.1 : Int), (C.1 : Int), D.1, (numsR l (num l 13 D.2.1 D.2.2).1 (num l 13 D.2.1 D.2.2).2).1), (numsR l (num l 13 D.2.1 D.2.2).1 (num l 13 D.2.1 D.2.2).2).2)) := fun A C D h1 h2 h3 => by subst h1; subst h2; subst h3; rfl
  generalize eA : num l 64 x f = A
  generalize eC' : num l 64 A.2.1 A.2.2 = C
  generalize eD' : tex l 4096 C.2.1 C.2.2 = D
  have hA : A.2.1 ≤ l.length := by rw [← eA]; exact (num_le hx).2
  have hC : C.2.1 ≤ l.length := by rw [← eC']; exact (num_le hA).2
  have HD2 : Hid (D.2.1 ≤ l.length) := by show _ ≤ _; rw [← eD']; exact (tex_le hC).2
  have HPQ : Hid (_ = _) := HPR.out A C D eA eC' eD'
  have eC : Hid (num l 64 A.2.1 A.2.2 = C) := eC'
  have eD : Hid (tex l 4096 C.2.1 C.2.2 = D) := eD'
  clear eC' eD' hA hC HPR
  have H0 : Hid (Sr 89 zeroP w ((w.alloc (.cells zeroP 89)).alloc (.cells zeroP 89)) p w.heap.size (w.heap.size + 1) (w.heap.size + 2) a n cap l x f zeroP) := Sr.start h
  clear h hx
  have N0 : Hid (Calls _ _ _ _ _) := num_named H0.out.rd 64 (by omega) A eA
  go_enter Try.func69, Try.ntmps69
  go_wp2_with fail
  refine N0.out.mono ?_
  rintro e w1 ⟨rfl, hr⟩
  have S0 := H0.out.step hr.out
  clear N0 hr H0 
  obtain ⟨⟨y0, y1, y2, y3⟩, hf⟩ := cells4 S0.box
  have z := hf 0
  have T0 : Hid (Sr 89 zeroP w (w1.setCell ⟨w.heap.size + 1, 0, none⟩ (.int .i64 (A.1 : Int))) p w.heap.size (w.heap.size + 1) (w.heap.size + 2) a n cap l A.2.1 A.2.2 #[.int .i64 (A.1 : Int), .int .i64 0, .string ⟨#[]⟩, .slice none 0 0]) := S0.set 0 _ rfl
  clear S0 hf
  have N1 : Hid (Calls _ _ _ _ _) := num_named T0.out.rd 64 (by omega) C eC.out
  go_wp2_with fail
  refine N1.out.mono ?_
  rintro e w2 ⟨rfl, hr⟩
  have S1 := T0.out.step hr.out
  clear N1 hr T0 y0 y1 y2 y3 z
  obtain ⟨⟨y0, y1, y2, y3⟩, hf⟩ := cells4 S1.box
  have z := hf 1
  have T1 : Hid (Sr 89 zeroP w (w2.setCell ⟨w.heap.size + 1, 1, none⟩ (.int .i64 (C.1 : Int))) p w.heap.size (w.heap.size + 1) (w.heap.size + 2) a n cap l C.2.1 C.2.2 #[.int .i64 (A.1 : Int), .int .i64 (C.1 : Int), .string ⟨#[]⟩, .slice none 0 0]) := S1.set 1 _ rfl
  clear S1 hf
  have N2 : Hid (Calls _ _ _ _ _) := text_named T1.out.rd D eD.out
  go_wp2_with fail
  refine N2.out.mono ?_
  rintro e w3 ⟨rfl, hr⟩
  have S2 := T1.out.step hr.out
  clear N2 hr T1 y0 y1 y2 y3 z
  obtain ⟨⟨y0, y1, y2, y3⟩, hf⟩ := cells4 S2.box
  have z := hf 2
  have T2 : Hid (Sr 89 zeroP w (w3.setCell ⟨w.heap.size + 1, 2, none⟩ (.string D.1)) p w.heap.size (w.heap.size + 1) (w.heap.size + 2) a n cap l D.2.1 D.2.2 #[.int .i64 (A.1 : Int), .int .i64 (C.1 : Int), .string D.1, .slice none 0 0]) := S2.set 2 _ rfl
  clear S2 hf
  have N3 : Hid (Calls _ _ _ _ _) := listI_any T2.out.rd HD2.out
  go_wp2_with fail
  refine N3.out.mono ?_
  rintro e w4 ⟨v9, L, x9, f9, rfl, hr⟩
  obtain ⟨a9, m9, c9, rfl⟩ := int_form hr.out.1.row
  have HT9 : Hid (Told _ L x9 f9) := hr.out.2
  have HRow : Hid (IRow (w.heap.size + 2) (.slice a9 m9 c9) L w4) := int_down hr.out.1.row T2.out.big
  have S3 := T2.out.step ⟨hr.out.1.rd, hr.out.1.tn⟩
  clear N3 hr T2 y0 y1 y2 y3 z
  obtain ⟨⟨y0, y1, y2, y3⟩, hf⟩ := cells4 S3.box
  have z := hf 3
  have T3 : Hid (Sr 89 zeroP w (w4.setCell ⟨w.heap.size + 1, 3, none⟩ (.slice a9 m9 c9)) p w.heap.size (w.heap.size + 1) (w.heap.size + 2) a n cap l x9 f9 #[.int .i64 (A.1 : Int), .int .i64 (C.1 : Int), .string D.1, .slice a9 m9 c9]) := S3.set 3 _ rfl
  obtain ⟨⟨v0, v1, v2, v3⟩, hv⟩ := cells4 S3.res
  have HRow2 : Hid (IRow (w.heap.size + 2) (.slice a9 m9 c9) L (w4.setCell ⟨w.heap.size + 1, 3, none⟩ (.slice a9 m9 c9))) := HRow.out.keep fun g h1 _ => S3.setRows 3 _ g h1
  clear S3 hf
  have q0 := hv 0
  have q1 := hv 1
  have q2 := hv 2
  have q3 := hv 3
  clear hv HRow
  go_wp2
  have hbox := put4_box T3.out.res (.int .i64 (A.1 : Int)) (.int .i64 (C.1 : Int)) (.string D.1) (.slice a9 m9 c9)
  have htn := put4_tn (w4.setCell ⟨w.heap.size + 1, 3, none⟩ (.slice a9 m9 c9)) w.heap.size (.int .i64 (A.1 : Int)) (.int .i64 (C.1 : Int)) (.string D.1) (.slice a9 m9 c9)
  generalize hW : ((((w4.setCell ⟨w.heap.size + 1, 3, none⟩ (.slice a9 m9 c9)).setCell ⟨w.heap.size, 0, none⟩ (.int .i64 (A.1 : Int))).setCell ⟨w.heap.size, 1, none⟩ (.int .i64 (C.1 : Int))).setCell ⟨w.heap.size, 2, none⟩ (.string D.1)).setCell ⟨w.heap.size, 3, none⟩ (.slice a9 m9 c9) = W8 at hbox htn ⊢
  obtain ⟨⟨g0, g1, g2, g3⟩, _⟩ := cells4 hbox
  refine bodyPost_ret (v := .agg #[.int .i64 (A.1 : Int), .int .i64 (C.1 : Int), .string D.1, .slice a9 m9 c9]) (by simp [results, Try.results69, go_sem, g0, g1, g2, g3]) rfl ?_
  obtain ⟨d1, d2, d3⟩ := T3.out.tn_res htn
  exact ⟨((A.1 : Int), (C.1 : Int), D.1, L), .slice a9 m9 c9, x9, f9, rfl, d2, d1, int_down (HRow2.out.keep d3) (Nat.le_add_right w.heap.size 2), by rw [HPQ.out]; exact HT9.out.al, fun e => by rw [HPQ.out, HT9.out.row e]⟩

end Go.Proofs.Ytbcemghkmmbmdaa.Msg
