/-
  The contract of the reader's req.
-/
import Derived.Test.YtanlanolblbckaaOrSq
namespace Go.Proofs.Ytanlanolblbckaa.Order
open Go.RowKit Route

theorem Sq.drew {T : TypeId} {w W : World} {p rb qb B : Nat} {a : Option Addr} {n cap : Nat} {l : List UInt8} {x : Nat} {f : Bool} {cs : Array Value} {kv : Value} {ks : List ByteArray} (h : Sq T w W p rb qb B a n cap l x f cs kv ks) : Sq T w W.drew p rb qb B a n cap l x f cs kv ks :=
  h.step ⟨h.rd.keep fun _ _ => rfl, ⟨rfl, rfl, rfl, Nat.le_refl _, fun _ _ _ => rfl⟩⟩

/-- A text is read in a drawn region, and appended to the keys. -/
theorem text_push {T : TypeId} {w W : World} {p rb qb B : Nat} {a : Option Addr} {n cap : Nat} {l : List UInt8} {x : Nat} {f : Bool} {x0 x1 x2 x3 x4 x6 : Value} {ka : Option Addr} {kn kc m F : Nat} {ks : List ByteArray} {args : Array Value}
    (h : Sq T w W p rb qb B a n cap l x f #[x0, x1, x2, x3, x4, .slice ka kn kc, x6] (.slice ka kn kc) ks) (hlen : ks.length + 1 ≤ 1000000000000)
    (hcall : ∀ W', Rd T W' p a n cap l x f → Calls Try.prog F args W' fun e w' => e = .returned (.string (tex l m x f).1) ∧ Hid (Rd T w' p a n cap l (tex l m x f).2.1 (tex l m x f).2.2 ∧ Tn p W' w')) :
    Calls Try.prog F args W fun e w' => ∃ s, e = .returned (.string s) ∧ w'.cell? ⟨qb, 5, none⟩ = some (.slice ka kn kc) ∧ (w'.alloc (.cells #[.string s] 9)).cell? ⟨qb, 5, none⟩ = some (.slice ka kn kc) ∧
      ∃ a5 k5 c5 w5, (Builtin.append_ #[22, 22] 22 #[.slice ka kn kc, .slice (some ⟨w'.heap.size, 0, none⟩) 1 1]).run Try.prog (w'.alloc (.cells #[.string s] 9)) = .ok (.slice a5 k5 c5) w5 ∧ w5.cell? ⟨qb, 5, none⟩ = some (.slice ka kn kc) ∧ w5.frozen? ⟨qb, 5, none⟩ = false ∧
        Hid (Sq T w (w5.setCell ⟨qb, 5, none⟩ (.slice a5 k5 c5)) p rb qb B a n cap l (tex l m x f).2.1 (tex l m x f).2.2 #[x0, x1, x2, x3, x4, .slice a5 k5 c5, x6] (.slice a5 k5 c5) (ks ++ [(tex l m x f).1])) := by
  refine (hcall _ h.rd).mono ?_
  rintro e w' ⟨rfl, hr⟩
  have h1 := h.step hr.out
  have g1 := (seven' h1.box).1.2.2.2.2.2.1
  have hlt : qb < w'.heap.size := (Array.getElem?_eq_some_iff.1 h1.box).1
  obtain ⟨a5, k5, c5, w5, hrun, hq, h5⟩ := h1.push (tex l m x f).1 hlen 22
  have g5 := seven' h5.out.box
  exact ⟨_, rfl, g1, by rw [World.cell?_alloc_lt _ _ _ hlt]; exact g1, a5, k5, c5, w5, hrun, g5.1.2.2.2.2.2.1, g5.2 5, h5.out.set 5 _ (by simp)⟩

theorem num_named {w : World} {p : Nat} {a : Option Addr} {n cap : Nat} {l : List UInt8} {x : Nat} {f : Bool} (h : Rd 53 w p a n cap l x f) (m : Nat) (hm : m ≤ 65536) (A : Nat × Nat × Bool) (e : num l m x f = A) :
    Calls Try.prog 33 #[.pointer (some ⟨p, 0, none⟩), .int .u64 (m : Int)] w fun e w' => e = .returned (.int .i64 (A.1 : Int)) ∧ Hid (Rd 53 w' p a n cap l A.2.1 A.2.2 ∧ Tn p w w') := by
  subst e; exact num_call h m hm
theorem text_named {w : World} {p : Nat} {a : Option Addr} {n cap : Nat} {l : List UInt8} {x : Nat} {f : Bool} (h : Rd 53 w p a n cap l x f) (m : Nat) (hm : m ≤ 4096) (A : ByteArray × Nat × Bool) (e : tex l m x f = A) :
    Calls Try.prog 34 #[.pointer (some ⟨p, 0, none⟩), .int .i64 (m : Int)] w fun e w' => e = .returned (.string A.1) ∧ Hid (Rd 53 w' p a n cap l A.2.1 A.2.2 ∧ Tn p w w') := by
  subst e; exact text_call h m hm

set_option maxHeartbeats 8000000 in
set_option maxRecDepth 100000 in
theorem req_call {w : World} {p : Nat} {a : Option Addr} {n cap : Nat} {l : List UInt8} (h : Rd 53 w p a n cap l 0 false) :
    Calls Try.prog 23 #[.pointer (some ⟨p, 0, none⟩)] w fun e w' => ∃ ka kn kc, e = .returned (.agg (rv (reqOf l 7 1000 9 100 16 64).1 ka kn kc)) ∧
      Hid (Rd 53 w' p a n cap l (reqOf l 7 1000 9 100 16 64).2.1 (reqOf l 7 1000 9 100 16 64).2.2 ∧ Tn p w w' ∧ KeysAt w' ka kn kc (reqOf l 7 1000 9 100 16 64).1.ks ∧ ∀ y, ka = some y → w.heap.size ≤ y.block) := by
  unfold reqOf
  simp only
  generalize ea : num l 7 0 false = A
  generalize eb : num l 1000 A.2.1 A.2.2 = B
  generalize ec : num l 9 B.2.1 B.2.2 = C
  generalize ed : num l 100 C.2.1 C.2.2 = D
  generalize ee : tex l 4096 D.2.1 D.2.2 = E
  generalize eg : tex l 4096 E.2.1 E.2.2 = G
  generalize eh : num l 16 G.2.1 G.2.2 = J
  have hp := h.lt
  have hJ : J.1 ≤ 16 := by rw [← eh]; exact (num_le (by rw [← eg]; exact (tex_le (by rw [← ee]; exact (tex_le (by rw [← ed]; exact (num_le (by rw [← ec]; exact (num_le (by rw [← eb]; exact (num_le (by rw [← ea]; exact (num_le (Nat.zero_le _)).2)).2)).2)).2)).2)).2)).1
  have HA : Hid (num l 7 0 false = A) := ea
  have HB : Hid (num l 1000 A.2.1 A.2.2 = B) := eb
  have HC : Hid (num l 9 B.2.1 B.2.2 = C) := ec
  have HD : Hid (num l 100 C.2.1 C.2.2 = D) := ed
  have HE : Hid (tex l 4096 D.2.1 D.2.2 = E) := ee
  have HG : Hid (tex l 4096 E.2.1 E.2.2 = G) := eg
  have HJ : Hid (num l 16 G.2.1 G.2.2 = J) := eh
  have H0 : Hid (Sq 53 w ((w.alloc (.cells zero7 26)).alloc (.cells zero7 26)) p w.heap.size (w.heap.size + 1) (w.heap.size + 2) a n cap l 0 false zero7 (.slice none 0 0) []) := by
    have hb1 : Below w.heap.size w (w.alloc (.cells zero7 26)) := (Below.refl _ _).alloc (Nat.le_refl _) _
    have hb2 : Below w.heap.size w ((w.alloc (.cells zero7 26)).alloc (.cells zero7 26)) := hb1.alloc hb1.size _
    have hz : (w.alloc (.cells zero7 26)).heap.size = w.heap.size + 1 := by simp
    refine ⟨⟨by omega, by omega, by omega, by omega, by omega, by omega, by omega, by omega, by omega⟩, h.below hb2, Tn.of hb2, ?_, ?_, World.ownsRow_nil _ _ _ _, by simp⟩
    · exact (Below.heap_alloc _ _ _ (by rw [hz]; omega)).trans (heap_alloc_new w _)
    · rw [← hz]; exact heap_alloc_new _ _
  clear ea eb ec ed ee eg eh h
  have N0 : Hid (Calls _ _ _ _ _) := num_named H0.out.rd 7 (by omega) A HA.out
  go_enter Try.func23, Try.ntmps23
  go_wp2_with fail
  refine N0.out.mono ?_
  rintro e w1 ⟨rfl, hr⟩
  have S1 := H0.out.step hr.out
  clear N0 hr H0
  obtain ⟨⟨y0, y1, y2, y3, y4, y5, y6⟩, hf⟩ := seven' S1.box
  have z0 := hf 0
  have T1 : Hid (Sq 53 w (w1.setCell ⟨w.heap.size + 1, 0, none⟩ (.int .i64 (A.1 : Int))) p w.heap.size (w.heap.size + 1) (w.heap.size + 2) a n cap l A.2.1 A.2.2 #[.int .i64 (A.1 : Int), .int .i64 0, .int .i64 0, .string ⟨#[]⟩, .string ⟨#[]⟩, .slice none 0 0, .int .i64 0] (.slice none 0 0) []) := S1.set 0 _ (by simp)
  have N1 : Hid (Calls _ _ _ _ _) := num_named T1.out.rd 1000 (by omega) B HB.out
  clear S1 hf
  go_wp2_with fail
  refine N1.out.mono ?_
  rintro e w2 ⟨rfl, hr⟩
  have S2 := T1.out.step hr.out
  clear N1 hr T1 y0 y1 y2 y3 y4 y5 y6 z0
  obtain ⟨⟨y0, y1, y2, y3, y4, y5, y6⟩, hf⟩ := seven' S2.box
  have z1 := hf 1
  have T2 : Hid (Sq 53 w (w2.setCell ⟨w.heap.size + 1, 1, none⟩ (.int .i64 (B.1 : Int))) p w.heap.size (w.heap.size + 1) (w.heap.size + 2) a n cap l B.2.1 B.2.2 #[.int .i64 (A.1 : Int), .int .i64 (B.1 : Int), .int .i64 0, .string ⟨#[]⟩, .string ⟨#[]⟩, .slice none 0 0, .int .i64 0] (.slice none 0 0) []) := S2.set 1 _ (by simp)
  have N2 : Hid (Calls _ _ _ _ _) := num_named T2.out.rd 9 (by omega) C HC.out
  clear S2 hf
  go_wp2_with fail
  refine N2.out.mono ?_
  rintro e w3 ⟨rfl, hr⟩
  have S3 := T2.out.step hr.out
  clear N2 hr T2 y0 y1 y2 y3 y4 y5 y6 z1
  obtain ⟨⟨y0, y1, y2, y3, y4, y5, y6⟩, hf⟩ := seven' S3.box
  have z2 := hf 2
  have T3 : Hid (Sq 53 w (w3.setCell ⟨w.heap.size + 1, 2, none⟩ (.int .i64 (C.1 : Int))) p w.heap.size (w.heap.size + 1) (w.heap.size + 2) a n cap l C.2.1 C.2.2 #[.int .i64 (A.1 : Int), .int .i64 (B.1 : Int), .int .i64 (C.1 : Int), .string ⟨#[]⟩, .string ⟨#[]⟩, .slice none 0 0, .int .i64 0] (.slice none 0 0) []) := S3.set 2 _ (by simp)
  have N3 : Hid (Calls _ _ _ _ _) := num_named T3.out.rd 100 (by omega) D HD.out
  clear S3 hf
  go_wp2_with fail
  refine N3.out.mono ?_
  rintro e w4 ⟨rfl, hr⟩
  have S4 := T3.out.step hr.out
  clear N3 hr T3 y0 y1 y2 y3 y4 y5 y6 z2
  obtain ⟨⟨y0, y1, y2, y3, y4, y5, y6⟩, hf⟩ := seven' S4.box
  have z6 := hf 6
  have T4 : Hid (Sq 53 w (w4.setCell ⟨w.heap.size + 1, 6, none⟩ (.int .i64 (D.1 : Int))) p w.heap.size (w.heap.size + 1) (w.heap.size + 2) a n cap l D.2.1 D.2.2 #[.int .i64 (A.1 : Int), .int .i64 (B.1 : Int), .int .i64 (C.1 : Int), .string ⟨#[]⟩, .string ⟨#[]⟩, .slice none 0 0, .int .i64 (D.1 : Int)] (.slice none 0 0) []) := S4.set 6 _ (by simp)
  have N4 : Hid (Calls _ _ _ _ _) := text_named T4.out.rd 4096 (by omega) E HE.out
  clear S4 hf
  go_wp2_with fail
  refine N4.out.mono ?_
  rintro e w5 ⟨rfl, hr⟩
  have S5 := T4.out.step hr.out
  clear N4 hr T4 y0 y1 y2 y3 y4 y5 y6 z6
  obtain ⟨⟨y0, y1, y2, y3, y4, y5, y6⟩, hf⟩ := seven' S5.box
  have z3 := hf 3
  have T5 : Hid (Sq 53 w (w5.setCell ⟨w.heap.size + 1, 3, none⟩ (.string E.1)) p w.heap.size (w.heap.size + 1) (w.heap.size + 2) a n cap l E.2.1 E.2.2 #[.int .i64 (A.1 : Int), .int .i64 (B.1 : Int), .int .i64 (C.1 : Int), .string E.1, .string ⟨#[]⟩, .slice none 0 0, .int .i64 (D.1 : Int)] (.slice none 0 0) []) := S5.set 3 _ (by simp)
  have N5 : Hid (Calls _ _ _ _ _) := text_named T5.out.rd 4096 (by omega) G HG.out
  clear S5 hf
  go_wp2_with fail
  refine N5.out.mono ?_
  rintro e w6 ⟨rfl, hr⟩
  have S6 := T5.out.step hr.out
  clear N5 hr T5 y0 y1 y2 y3 y4 y5 y6 z3
  obtain ⟨⟨y0, y1, y2, y3, y4, y5, y6⟩, hf⟩ := seven' S6.box
  have z4 := hf 4
  have T6 : Hid (Sq 53 w (w6.setCell ⟨w.heap.size + 1, 4, none⟩ (.string G.1)) p w.heap.size (w.heap.size + 1) (w.heap.size + 2) a n cap l G.2.1 G.2.2 #[.int .i64 (A.1 : Int), .int .i64 (B.1 : Int), .int .i64 (C.1 : Int), .string E.1, .string G.1, .slice none 0 0, .int .i64 (D.1 : Int)] (.slice none 0 0) []) := S6.set 4 _ (by simp)
  have N6 : Hid (Calls _ _ _ _ _) := num_named T6.out.rd 16 (by omega) J HJ.out
  clear S6 hf
  go_wp2_with fail
  refine N6.out.mono ?_
  rintro e w7 ⟨rfl, hr⟩
  have S7 := T6.out.step hr.out
  clear N6 hr T6 y0 y1 y2 y3 y4 y5 y6 z4
  have HI : Hid (∃ (ka : Option Addr) (kn kc : Nat) (ks : List ByteArray) (x : Nat) (f : Bool), Value.slice none 0 0 = .slice ka kn kc ∧ ks.length = 0 ∧ Sq 53 w w7 p w.heap.size (w.heap.size + 1) (w.heap.size + 2) a n cap l x f #[.int .i64 (A.1 : Int), .int .i64 (B.1 : Int), .int .i64 (C.1 : Int), .string E.1, .string G.1, .slice ka kn kc, .int .i64 (D.1 : Int)] (.slice ka kn kc) ks ∧ texs l 64 J.1 J.2.1 J.2.2 = (ks ++ (texs l 64 (J.1 - 0) x f).1, (texs l 64 (J.1 - 0) x f).2)) :=
    ⟨none, 0, 0, [], _, _, rfl, rfl, S7, rfl⟩
  clear S7 HA HB HC HD HE HG HJ
  go_wp2
  go_loopw [28] (fun t28 wr => ∃ (j : Nat), t28 = .int .i64 (j : Int) ∧ j ≤ J.1 ∧ Hid (∃ (ka : Option Addr) (kn kc : Nat) (ks : List ByteArray) (x : Nat) (f : Bool), ks.length = j ∧ Sq 53 w wr p w.heap.size (w.heap.size + 1) (w.heap.size + 2) a n cap l x f #[.int .i64 (A.1 : Int), .int .i64 (B.1 : Int), .int .i64 (C.1 : Int), .string E.1, .string G.1, .slice ka kn kc, .int .i64 (D.1 : Int)] (.slice ka kn kc) ks ∧ texs l 64 J.1 J.2.1 J.2.2 = (ks ++ (texs l 64 (J.1 - j) x f).1, (texs l 64 (J.1 - j) x f).2))) (fun t28 _ => J.1 - (intOf t28).toNat)
  case atStart =>
    obtain ⟨ka, kn, kc, ks, x, f, _, h1, h2, h3⟩ := HI.out
    exact ⟨0, rfl, Nat.zero_le _, ka, kn, kc, ks, x, f, h1, h2, h3⟩
  case round =>
    obtain ⟨j, rfl, hj, HR⟩ := hrel
    clear HI
    obtain ⟨ka, kn, kc, ks, x, f, hks, hS, htx⟩ := HR.out
    have HS : Hid (Sq _ _ _ _ _ _ _ _ _ _ _ _ _ _ _ _) := hS
    have HT : Hid (_ = _) := htx
    have HK : Hid (ks.length = j) := hks
    obtain ⟨⟨y0, y1, y2, y3, y4, y5, y6⟩, hf⟩ := seven' hS.box
    by_cases hlt : j < J.1
    · have HCL : Hid (∀ W', Sq 53 w W' p w.heap.size (w.heap.size + 1) (w.heap.size + 2) a n cap l x f #[.int .i64 (A.1 : Int), .int .i64 (B.1 : Int), .int .i64 (C.1 : Int), .string E.1, .string G.1, .slice ka kn kc, .int .i64 (D.1 : Int)] (.slice ka kn kc) ks → Calls Try.prog 34 #[.pointer (some ⟨p, 0, none⟩), .int .i64 ((64 : Nat) : Int)] W' _) := fun W' h => text_push (m := 64) h (by have := HK.out; omega) fun W'' hr => text_call hr 64 (by omega)
      clear hS htx hks hf HR y0 y1 y2 y3 y4 y6
      go_wp2_with fail
      go_region_law
        (first
          | (go_simp; go_at_call 34; refine (HCL.out _ ?_).mono ?_; first | exact HS.out | exact HS.out.drew; rintro e w4 ⟨s4, rfl, c4, c4', a5, k5, c5, w5, hrun5, c5', f5, hF5⟩)
          | (refine step_run (by rfl) _ _ _ (by rfl) _ _ _ (by rfl) (by rfl) hrun5 ?_))
      all_goals
        go_wp2
        go_roundw
        case rel =>
          refine ⟨j + 1, by go_num, by omega, a5, k5, c5, _, _, _, by rw [List.length_append, HK.out]; rfl, hF5.out, ?_⟩
          have e1 : J.1 - j = (J.1 - (j + 1)) + 1 := by omega
          rw [HT.out, e1, texs_step]
          simp
        case measure => simp [intOf]; omega
    · have ej : J.1 - j = 0 := by omega
      have htx2 : texs l 64 J.1 J.2.1 J.2.2 = (ks, x, f) := by rw [HT.out, ej]; simp [texs]
      have HT2 : Hid (texs l 64 J.1 J.2.1 J.2.2 = (ks, x, f)) := htx2
      obtain ⟨⟨v0, v1, v2, v3, v4, v5, v6⟩, hv⟩ := seven' HS.out.res
      have q0 := hv 0
      have q1 := hv 1
      have q2 := hv 2
      have q3 := hv 3
      have q4 := hv 4
      have q5 := hv 5
      have q6 := hv 6
      clear HT htx2 ej hS htx hks HR hf hv
      go_wp2
      have hbox := put7_box HS.out.res (.int .i64 (A.1 : Int)) (.int .i64 (B.1 : Int)) (.int .i64 (C.1 : Int)) (.string E.1) (.string G.1) (.slice ka kn kc) (.int .i64 (D.1 : Int))
      have htn := put7_tn wr w.heap.size (.int .i64 (A.1 : Int)) (.int .i64 (B.1 : Int)) (.int .i64 (C.1 : Int)) (.string E.1) (.string G.1) (.slice ka kn kc) (.int .i64 (D.1 : Int))
      generalize (((((((wr.setCell ⟨w.heap.size, 0, none⟩ (.int .i64 (A.1 : Int))).setCell ⟨w.heap.size, 1, none⟩ (.int .i64 (B.1 : Int))).setCell ⟨w.heap.size, 2, none⟩ (.int .i64 (C.1 : Int))).setCell ⟨w.heap.size, 3, none⟩ (.string E.1)).setCell ⟨w.heap.size, 4, none⟩ (.string G.1)).setCell ⟨w.heap.size, 5, none⟩ (.slice ka kn kc)).setCell ⟨w.heap.size, 6, none⟩ (.int .i64 (D.1 : Int))) = W5 at hbox htn ⊢
      obtain ⟨g0, g1, g2, g3, g4, g5, g6⟩ := seven hbox
      refine bodyPost_ret (v := .agg #[.int .i64 (A.1 : Int), .int .i64 (B.1 : Int), .int .i64 (C.1 : Int), .string E.1, .string G.1, .slice ka kn kc, .int .i64 (D.1 : Int)]) (by simp [results, Try.results23, go_sem, g0, g1, g2, g3, g4, g5, g6]) rfl ?_
      have hd := HS.out.tn_res htn (by have := HK.out; omega)
      rw [HT2.out]
      have hr := HS.out.rd
      have hl := HS.out.big
      exact ⟨ka, kn, kc, rfl, hr.keep fun k hk => htn.block k (by omega) (by omega), hd.1, hd.2, fun y hy => Nat.le_trans (Nat.le_add_right _ 2) (row_new HS.out.row y hy)⟩
end Go.Proofs.Ytanlanolblbckaa.Order
