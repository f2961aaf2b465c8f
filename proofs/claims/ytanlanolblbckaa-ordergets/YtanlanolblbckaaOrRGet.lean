/-
  The contract of the answer's Get.
-/
import Derived.Test.YtanlanolblbckaaOrRMath
import Derived.Test.YtanlanolblbckaaOrRef
namespace Go.Proofs.Ytanlanolblbckaa.Order
open Go.RowKit Route

/-- A text is read in a drawn region, and appended to the keys: whatever the reading comes to. -/
theorem text_push2 {T : TypeId} {w W : World} {p rb qb B : Nat} {a : Option Addr} {n cap : Nat} {l : List UInt8} {x : Nat} {f : Bool} {x0 x1 x2 x3 x4 x6 : Value} {ka : Option Addr} {kn kc F : Nat} {ks : List ByteArray} {args : Array Value} {X : ByteArray × Nat × Bool}
    (h : Sq T w W p rb qb B a n cap l x f #[x0, x1, x2, x3, x4, .slice ka kn kc, x6] (.slice ka kn kc) ks) (hlen : ks.length + 1 ≤ 1000000000000)
    (hcall : ∀ W', Rd T W' p a n cap l x f → Calls Try.prog F args W' fun e w' => e = .returned (.string X.1) ∧ Hid (Rd T w' p a n cap l X.2.1 X.2.2 ∧ Tn p W' w')) :
    Calls Try.prog F args W fun e w' => ∃ s, e = .returned (.string s) ∧ w'.cell? ⟨qb, 5, none⟩ = some (.slice ka kn kc) ∧ (w'.alloc (.cells #[.string s] 9)).cell? ⟨qb, 5, none⟩ = some (.slice ka kn kc) ∧
      ∃ a5 k5 c5 w5, (Builtin.append_ #[22, 22] 22 #[.slice ka kn kc, .slice (some ⟨w'.heap.size, 0, none⟩) 1 1]).run Try.prog (w'.alloc (.cells #[.string s] 9)) = .ok (.slice a5 k5 c5) w5 ∧ w5.cell? ⟨qb, 5, none⟩ = some (.slice ka kn kc) ∧ w5.frozen? ⟨qb, 5, none⟩ = false ∧
        Hid (Sq T w (w5.setCell ⟨qb, 5, none⟩ (.slice a5 k5 c5)) p rb qb B a n cap l X.2.1 X.2.2 #[x0, x1, x2, x3, x4, .slice a5 k5 c5, x6] (.slice a5 k5 c5) (ks ++ [X.1])) := by
  refine (hcall _ h.rd).mono ?_
  rintro e w' ⟨rfl, hr⟩
  have h1 := h.step hr.out
  have g1 := (seven' h1.box).1.2.2.2.2.2.1
  have hlt : qb < w'.heap.size := (Array.getElem?_eq_some_iff.1 h1.box).1
  obtain ⟨a5, k5, c5, w5, hrun, hq, h5⟩ := h1.push X.1 hlen 22
  have g5 := seven' h5.out.box
  exact ⟨_, rfl, g1, by rw [World.cell?_alloc_lt _ _ _ hlt]; exact g1, a5, k5, c5, w5, hrun, g5.1.2.2.2.2.2.1, g5.2 5, h5.out.set 5 _ (by simp)⟩

theorem refNum_named {w : World} {p : Nat} {a : Option Addr} {n cap : Nat} {l : List UInt8} {x : Nat} {f : Bool} (h : Rd 57 w p a n cap l x f) (A : Nat × Nat × Bool) (e : num l 65536 x f = A) :
    Calls Try.prog 24 #[.pointer (some ⟨p, 0, none⟩), .int .u64 ((65536 : Nat) : Int)] w fun e w' => e = .returned (.int .i64 (A.1 : Int)) ∧ Hid (Rd 57 w' p a n cap l A.2.1 A.2.2 ∧ Tn p w w') := by
  subst e; exact refNum_call h 65536 (by omega)
theorem refText_named {w : World} {p : Nat} {a : Option Addr} {n cap : Nat} {l : List UInt8} {x : Nat} {f : Bool} (h : Rd 57 w p a n cap l x f) (A : ByteArray × Nat × Bool) (e : tex2 l x f = A) :
    Calls Try.prog 25 #[.pointer (some ⟨p, 0, none⟩)] w fun e w' => e = .returned (.string A.1) ∧ Hid (Rd 57 w' p a n cap l A.2.1 A.2.2 ∧ Tn p w w') := by
  subst e; exact refText_call h

set_option maxHeartbeats 4000000 in
set_option maxRecDepth 100000 in
theorem refGet_core {w : World} {a : Option Addr} {n cap : Nat} {l : List UInt8} (hn : n = l.length) (hl : Lies w a l) (hlim : n ≤ 100000) (hnc : n ≤ cap) (hcm : cap ≤ maxLen) (Q : Ending → World → Prop)
    (hyes : (reqOf3 l).2.2 = false → n ≤ (reqOf3 l).2.1 → may (reqOf3 l).1 = true → ∀ ka kn kc w', KeysAt w' ka kn kc (reqOf3 l).1.ks → Below w.heap.size w w' → Q (.returned (.tuple #[.agg (rv (reqOf3 l).1 ka kn kc), .bool true])) w')
    (hno : ((reqOf3 l).2.2 = false → n ≤ (reqOf3 l).2.1 → may (reqOf3 l).1 = false) → ∀ w', Below w.heap.size w w' → Q (.returned (.tuple #[.agg zero7, .bool false])) w') :
    Calls Try.prog 15 #[.slice a n cap] w Q := by
  obtain ⟨h1, h2, h3, h4⟩ := get_start hn hl hlim hnc hcm 57
  have hsz := reqOf3_sizes l
  have H0 : Hid (Sq 57 w (((w.alloc (.cells zero7 26)).alloc (.cells #[.slice a n cap, .int .i64 0, .bool false] 57)).alloc (.cells zero7 26)) (w.heap.size + 1) w.heap.size (w.heap.size + 2) (w.heap.size + 3) a n cap l 0 false zero7 (.slice none 0 0) []) := by
    have hbA : Below ((w.alloc (.cells zero7 26)).alloc (.cells #[.slice a n cap, .int .i64 0, .bool false] 57)).heap.size ((w.alloc (.cells zero7 26)).alloc (.cells #[.slice a n cap, .int .i64 0, .bool false] 57)) (((w.alloc (.cells zero7 26)).alloc (.cells #[.slice a n cap, .int .i64 0, .bool false] 57)).alloc (.cells zero7 26)) := (Below.refl _ _).alloc (Nat.le_refl _) _
    have hb : Below w.heap.size w (((w.alloc (.cells zero7 26)).alloc (.cells #[.slice a n cap, .int .i64 0, .bool false] 57)).alloc (.cells zero7 26)) := h3.trans (hbA.mono h3.size)
    refine ⟨⟨by omega, by omega, by omega, by omega, by omega, by omega, by omega, by omega, by omega⟩, h1.below hbA, Tn.of hb, bcells h2 hbA, ?_, World.ownsRow_nil _ _ _ _, by simp⟩
    rw [← h4]; exact heap_alloc_new _ _
  clear h1 h2 h3 h4 hl hcm
  revert hyes hno hsz
  unfold reqOf3
  simp only
  generalize ea : num l 65536 0 false = A
  generalize eb : num l 65536 A.2.1 A.2.2 = B
  generalize ec : num l 65536 B.2.1 B.2.2 = C
  generalize ed : num l 65536 C.2.1 C.2.2 = D
  generalize ee : tex2 l D.2.1 D.2.2 = E
  generalize eg : tex2 l E.2.1 E.2.2 = G
  generalize eh : num l 65536 G.2.1 G.2.2 = J
  intro hyes hno hsz
  have HYES : Hid (_ → _) := hyes
  have HNO : Hid (_ → _) := hno
  have HSZ : Hid (_ → _) := hsz
  have HJ0 : Hid (num l 65536 G.2.1 G.2.2 = J) := eh
  have HA : Hid (num l 65536 0 false = A) := ea
  have HB : Hid (num l 65536 A.2.1 A.2.2 = B) := eb
  have HC : Hid (num l 65536 B.2.1 B.2.2 = C) := ec
  have HD : Hid (num l 65536 C.2.1 C.2.2 = D) := ed
  have HE : Hid (tex2 l D.2.1 D.2.2 = E) := ee
  have HG : Hid (tex2 l E.2.1 E.2.2 = G) := eg
  clear ea eb ec ed ee eg eh hyes hno hsz hn
  have N0 : Hid (Calls _ _ _ _ _) := refNum_named H0.out.rd A HA.out
  go_enter Try.func15, Try.ntmps15
  go_wp2_with fail
  refine N0.out.mono ?_
  rintro e w1 ⟨rfl, hr⟩
  have S1 := H0.out.step hr.out
  clear N0 hr H0
  obtain ⟨⟨y0, y1, y2, y3, y4, y5, y6⟩, hf⟩ := seven' S1.box
  have z0 := hf 0
  have T1 : Hid (Sq 57 w (w1.setCell ⟨w.heap.size + 2, 0, none⟩ (.int .i64 (A.1 : Int))) (w.heap.size + 1) w.heap.size (w.heap.size + 2) (w.heap.size + 3) a n cap l A.2.1 A.2.2 #[.int .i64 (A.1 : Int), .int .i64 0, .int .i64 0, .string ⟨#[]⟩, .string ⟨#[]⟩, .slice none 0 0, .int .i64 0] (.slice none 0 0) []) := S1.set 0 _ (by simp)
  have N1 : Hid (Calls _ _ _ _ _) := refNum_named T1.out.rd B HB.out
  clear S1 hf
  go_wp2_with fail
  refine N1.out.mono ?_
  rintro e w2 ⟨rfl, hr⟩
  have S2 := T1.out.step hr.out
  clear N1 hr T1 y0 y1 y2 y3 y4 y5 y6 z0
  obtain ⟨⟨y0, y1, y2, y3, y4, y5, y6⟩, hf⟩ := seven' S2.box
  have z1 := hf 1
  have T2 : Hid (Sq 57 w (w2.setCell ⟨w.heap.size + 2, 1, none⟩ (.int .i64 (B.1 : Int))) (w.heap.size + 1) w.heap.size (w.heap.size + 2) (w.heap.size + 3) a n cap l B.2.1 B.2.2 #[.int .i64 (A.1 : Int), .int .i64 (B.1 : Int), .int .i64 0, .string ⟨#[]⟩, .string ⟨#[]⟩, .slice none 0 0, .int .i64 0] (.slice none 0 0) []) := S2.set 1 _ (by simp)
  have N2 : Hid (Calls _ _ _ _ _) := refNum_named T2.out.rd C HC.out
  clear S2 hf
  go_wp2_with fail
  refine N2.out.mono ?_
  rintro e w3 ⟨rfl, hr⟩
  have S3 := T2.out.step hr.out
  clear N2 hr T2 y0 y1 y2 y3 y4 y5 y6 z1
  obtain ⟨⟨y0, y1, y2, y3, y4, y5, y6⟩, hf⟩ := seven' S3.box
  have z2 := hf 2
  have T3 : Hid (Sq 57 w (w3.setCell ⟨w.heap.size + 2, 2, none⟩ (.int .i64 (C.1 : Int))) (w.heap.size + 1) w.heap.size (w.heap.size + 2) (w.heap.size + 3) a n cap l C.2.1 C.2.2 #[.int .i64 (A.1 : Int), .int .i64 (B.1 : Int), .int .i64 (C.1 : Int), .string ⟨#[]⟩, .string ⟨#[]⟩, .slice none 0 0, .int .i64 0] (.slice none 0 0) []) := S3.set 2 _ (by simp)
  have N3 : Hid (Calls _ _ _ _ _) := refNum_named T3.out.rd D HD.out
  clear S3 hf
  go_wp2_with fail
  refine N3.out.mono ?_
  rintro e w4 ⟨rfl, hr⟩
  have S4 := T3.out.step hr.out
  clear N3 hr T3 y0 y1 y2 y3 y4 y5 y6 z2
  obtain ⟨⟨y0, y1, y2, y3, y4, y5, y6⟩, hf⟩ := seven' S4.box
  have z6 := hf 6
  have T4 : Hid (Sq 57 w (w4.setCell ⟨w.heap.size + 2, 6, none⟩ (.int .i64 (D.1 : Int))) (w.heap.size + 1) w.heap.size (w.heap.size + 2) (w.heap.size + 3) a n cap l D.2.1 D.2.2 #[.int .i64 (A.1 : Int), .int .i64 (B.1 : Int), .int .i64 (C.1 : Int), .string ⟨#[]⟩, .string ⟨#[]⟩, .slice none 0 0, .int .i64 (D.1 : Int)] (.slice none 0 0) []) := S4.set 6 _ (by simp)
  have N4 : Hid (Calls _ _ _ _ _) := refText_named T4.out.rd E HE.out
  clear S4 hf
  go_wp2_with fail
  refine N4.out.mono ?_
  rintro e w5 ⟨rfl, hr⟩
  have S5 := T4.out.step hr.out
  clear N4 hr T4 y0 y1 y2 y3 y4 y5 y6 z6
  obtain ⟨⟨y0, y1, y2, y3, y4, y5, y6⟩, hf⟩ := seven' S5.box
  have z3 := hf 3
  have T5 : Hid (Sq 57 w (w5.setCell ⟨w.heap.size + 2, 3, none⟩ (.string E.1)) (w.heap.size + 1) w.heap.size (w.heap.size + 2) (w.heap.size + 3) a n cap l E.2.1 E.2.2 #[.int .i64 (A.1 : Int), .int .i64 (B.1 : Int), .int .i64 (C.1 : Int), .string E.1, .string ⟨#[]⟩, .slice none 0 0, .int .i64 (D.1 : Int)] (.slice none 0 0) []) := S5.set 3 _ (by simp)
  have N5 : Hid (Calls _ _ _ _ _) := refText_named T5.out.rd G HG.out
  clear S5 hf
  go_wp2_with fail
  refine N5.out.mono ?_
  rintro e w6 ⟨rfl, hr⟩
  have S6 := T5.out.step hr.out
  clear N5 hr T5 y0 y1 y2 y3 y4 y5 y6 z3
  obtain ⟨⟨y0, y1, y2, y3, y4, y5, y6⟩, hf⟩ := seven' S6.box
  have z4 := hf 4
  have T6 : Hid (Sq 57 w (w6.setCell ⟨w.heap.size + 2, 4, none⟩ (.string G.1)) (w.heap.size + 1) w.heap.size (w.heap.size + 2) (w.heap.size + 3) a n cap l G.2.1 G.2.2 #[.int .i64 (A.1 : Int), .int .i64 (B.1 : Int), .int .i64 (C.1 : Int), .string E.1, .string G.1, .slice none 0 0, .int .i64 (D.1 : Int)] (.slice none 0 0) []) := S6.set 4 _ (by simp)
  have N6 : Hid (Calls _ _ _ _ _) := refNum_named T6.out.rd J HJ0.out
  have hJ : J.1 ≤ 65536 := by rw [← HJ0.out]; exact (num_le (by have := T6.out.rd.at'; rw [T6.out.rd.len] at this; exact this)).1
  clear S6 hf
  go_wp2_with fail
  refine N6.out.mono ?_
  rintro e w7 ⟨rfl, hr⟩
  have S7 := T6.out.step hr.out
  clear N6 hr T6 y0 y1 y2 y3 y4 y5 y6 z4
  have HI : Hid (∃ (ka : Option Addr) (kn kc : Nat) (ks : List ByteArray) (x : Nat) (f : Bool), Value.slice none 0 0 = .slice ka kn kc ∧ ks.length ≤ 0 ∧ Sq 57 w w7 (w.heap.size + 1) w.heap.size (w.heap.size + 2) (w.heap.size + 3) a n cap l x f #[.int .i64 (A.1 : Int), .int .i64 (B.1 : Int), .int .i64 (C.1 : Int), .string E.1, .string G.1, .slice ka kn kc, .int .i64 (D.1 : Int)] (.slice ka kn kc) ks ∧ texs3 l J.1 J.2.1 J.2.2 = (ks ++ (texs3 l (J.1 - 0) x f).1, (texs3 l (J.1 - 0) x f).2)) :=
    ⟨none, 0, 0, [], _, _, rfl, Nat.le_refl _, S7, rfl⟩
  clear S7 HA HB HC HD HE HG HJ0
  go_wp2
  go_loopw [7] (fun t7 wr => ∃ (j : Nat), t7 = .int .i64 (j : Int) ∧ j ≤ J.1 ∧ Hid (∃ (ka : Option Addr) (kn kc : Nat) (ks : List ByteArray) (x : Nat) (f : Bool), ks.length ≤ j ∧ Sq 57 w wr (w.heap.size + 1) w.heap.size (w.heap.size + 2) (w.heap.size + 3) a n cap l x f #[.int .i64 (A.1 : Int), .int .i64 (B.1 : Int), .int .i64 (C.1 : Int), .string E.1, .string G.1, .slice ka kn kc, .int .i64 (D.1 : Int)] (.slice ka kn kc) ks ∧ texs3 l J.1 J.2.1 J.2.2 = (ks ++ (texs3 l (J.1 - j) x f).1, (texs3 l (J.1 - j) x f).2))) (fun t7 _ => J.1 - (intOf t7).toNat)
  case atStart =>
    obtain ⟨ka, kn, kc, ks, x, f, _, h1, h2, h3⟩ := HI.out
    exact ⟨0, rfl, Nat.zero_le _, ka, kn, kc, ks, x, f, h1, h2, h3⟩
  case round =>
    obtain ⟨j, rfl, hj, HR⟩ := hrel
    clear HI
    obtain ⟨ka, kn, kc, ks, x, f, hks, hS, htx⟩ := HR.out
    have HS : Hid (Sq _ _ _ _ _ _ _ _ _ _ _ _ _ _ _ _) := hS
    have HT : Hid (_ = _) := htx
    have HK : Hid (ks.length ≤ j) := hks
    obtain ⟨⟨y0, y1, y2, y3, y4, y5, y6⟩, hf⟩ := seven' hS.box
    obtain ⟨r0, r1, r2, _, _, _⟩ := three hS.rd.box
    have hxn : x ≤ n := hS.rd.at'
    by_cases hlt : j < J.1
    · cases f with
      | false =>
        have HCL : Hid (∀ W', Sq 57 w W' (w.heap.size + 1) w.heap.size (w.heap.size + 2) (w.heap.size + 3) a n cap l x false #[.int .i64 (A.1 : Int), .int .i64 (B.1 : Int), .int .i64 (C.1 : Int), .string E.1, .string G.1, .slice ka kn kc, .int .i64 (D.1 : Int)] (.slice ka kn kc) ks → Calls Try.prog 25 #[.pointer (some ⟨w.heap.size + 1, 0, none⟩)] W' _) := fun W' h => text_push2 (X := tex2 l x false) h (by have := HK.out; omega) fun W'' hr => refText_call hr
        clear hS htx hks hf HR y0 y1 y2 y3 y4 y6 HYES HNO HSZ
        go_wp2_with fail
        clear r0 r1 r2
        go_region_law
          (first
            | (go_simp; go_at_call 25; refine (HCL.out _ ?_).mono ?_; first | exact HS.out | exact HS.out.drew; rintro e w4 ⟨s4, rfl, c4, c4', a5, k5, c5, w5, hrun5, c5', f5, hF5⟩)
            | (refine step_run (by rfl) _ _ _ (by rfl) _ _ _ (by rfl) (by rfl) hrun5 ?_))
        all_goals
          go_wp2
          go_roundw
          case rel =>
            refine ⟨j + 1, by go_num, by omega, a5, k5, c5, _, _, _, by rw [List.length_append]; have := HK.out; simp only [List.length_cons, List.length_nil]; omega, hF5.out, ?_⟩
            have e1 : J.1 - j = (J.1 - (j + 1)) + 1 := by omega
            rw [HT.out, e1]
            simp [texs3]
          case measure => simp [intOf]; omega
      | true =>
        have e1 : J.1 - j = (J.1 - (j + 1)) + 1 := by omega
        have ht2 : texs3 l J.1 J.2.1 J.2.2 = (ks, x, true) := by rw [HT.out, e1]; simp [texs3]
        have HT2 : Hid (texs3 l J.1 J.2.1 J.2.2 = (ks, x, true)) := ht2
        clear ht2
        clear HT e1 hS htx hks HR hf
        have HQ : Hid (∀ w', Below w.heap.size w w' → Q (.returned (.tuple #[.agg zero7, .bool false])) w') := HNO.out (by rw [HT2.out]; exact fun h => by cases h)
        have HBW : Hid (Below w.heap.size w wr) := HS.out.tn.below (Nat.le_succ _) (Nat.le_refl _)
        obtain ⟨⟨v0, v1, v2, v3, v4, v5, v6⟩, hv⟩ := seven' HS.out.res
        have q0 := hv 0
        have q1 := hv 1
        have q2 := hv 2
        have q3 := hv 3
        have q4 := hv 4
        have q5 := hv 5
        have q6 := hv 6
        clear hv
        clear HNO HYES
        go_wp2
        have hbox := put7_box HS.out.res (.int .i64 0) (.int .i64 0) (.int .i64 0) (.string ⟨#[]⟩) (.string ⟨#[]⟩) (.slice none 0 0) (.int .i64 0)
        have htn := put7_tn wr w.heap.size (.int .i64 0) (.int .i64 0) (.int .i64 0) (.string ⟨#[]⟩) (.string ⟨#[]⟩) (.slice none 0 0) (.int .i64 0)
        generalize (((((((wr.setCell ⟨w.heap.size, 0, none⟩ (.int .i64 0)).setCell ⟨w.heap.size, 1, none⟩ (.int .i64 0)).setCell ⟨w.heap.size, 2, none⟩ (.int .i64 0)).setCell ⟨w.heap.size, 3, none⟩ (.string ⟨#[]⟩)).setCell ⟨w.heap.size, 4, none⟩ (.string ⟨#[]⟩)).setCell ⟨w.heap.size, 5, none⟩ (.slice none 0 0)).setCell ⟨w.heap.size, 6, none⟩ (.int .i64 0)) = W5 at hbox htn ⊢
        obtain ⟨g0, g1, g2, g3, g4, g5, g6⟩ := seven hbox
        refine bodyPost_ret (v := .tuple #[.agg zero7, .bool false]) (by simp [results, Try.results15, go_sem, g0, g1, g2, g3, g4, g5, g6]) rfl ?_
        exact HQ.out _ (HBW.out.trans (htn.below (Nat.le_refl _) HBW.out.size))
    · have ej : J.1 - j = 0 := by omega
      have ht2 : texs3 l J.1 J.2.1 J.2.2 = (ks, x, f) := by rw [HT.out, ej]; simp [texs3]
      have HT2 : Hid (texs3 l J.1 J.2.1 J.2.2 = (ks, x, f)) := ht2
      clear ht2
      clear HT ej hS htx hks HR hf
      cases f with
      | true =>
        have HQ : Hid (∀ w', Below w.heap.size w w' → Q (.returned (.tuple #[.agg zero7, .bool false])) w') := HNO.out (by rw [HT2.out]; exact fun h => by cases h)
        have HBW : Hid (Below w.heap.size w wr) := HS.out.tn.below (Nat.le_succ _) (Nat.le_refl _)
        obtain ⟨⟨v0, v1, v2, v3, v4, v5, v6⟩, hv⟩ := seven' HS.out.res
        have q0 := hv 0
        have q1 := hv 1
        have q2 := hv 2
        have q3 := hv 3
        have q4 := hv 4
        have q5 := hv 5
        have q6 := hv 6
        clear hv
        clear HNO HYES
        go_wp2
        have hbox := put7_box HS.out.res (.int .i64 0) (.int .i64 0) (.int .i64 0) (.string ⟨#[]⟩) (.string ⟨#[]⟩) (.slice none 0 0) (.int .i64 0)
        have htn := put7_tn wr w.heap.size (.int .i64 0) (.int .i64 0) (.int .i64 0) (.string ⟨#[]⟩) (.string ⟨#[]⟩) (.slice none 0 0) (.int .i64 0)
        generalize (((((((wr.setCell ⟨w.heap.size, 0, none⟩ (.int .i64 0)).setCell ⟨w.heap.size, 1, none⟩ (.int .i64 0)).setCell ⟨w.heap.size, 2, none⟩ (.int .i64 0)).setCell ⟨w.heap.size, 3, none⟩ (.string ⟨#[]⟩)).setCell ⟨w.heap.size, 4, none⟩ (.string ⟨#[]⟩)).setCell ⟨w.heap.size, 5, none⟩ (.slice none 0 0)).setCell ⟨w.heap.size, 6, none⟩ (.int .i64 0)) = W5 at hbox htn ⊢
        obtain ⟨g0, g1, g2, g3, g4, g5, g6⟩ := seven hbox
        refine bodyPost_ret (v := .tuple #[.agg zero7, .bool false]) (by simp [results, Try.results15, go_sem, g0, g1, g2, g3, g4, g5, g6]) rfl ?_
        exact HQ.out _ (HBW.out.trans (htn.below (Nat.le_refl _) HBW.out.size))
      | false =>
        by_cases hx2 : x < n
        ·
          have HQ : Hid (∀ w', Below w.heap.size w w' → Q (.returned (.tuple #[.agg zero7, .bool false])) w') := HNO.out (by rw [HT2.out]; exact fun _ h => absurd (show n ≤ x from h) (by omega))
          have HBW : Hid (Below w.heap.size w wr) := HS.out.tn.below (Nat.le_succ _) (Nat.le_refl _)
          obtain ⟨⟨v0, v1, v2, v3, v4, v5, v6⟩, hv⟩ := seven' HS.out.res
          have q0 := hv 0
          have q1 := hv 1
          have q2 := hv 2
          have q3 := hv 3
          have q4 := hv 4
          have q5 := hv 5
          have q6 := hv 6
          clear hv
          clear HNO HYES
          go_wp2
          have hbox := put7_box HS.out.res (.int .i64 0) (.int .i64 0) (.int .i64 0) (.string ⟨#[]⟩) (.string ⟨#[]⟩) (.slice none 0 0) (.int .i64 0)
          have htn := put7_tn wr w.heap.size (.int .i64 0) (.int .i64 0) (.int .i64 0) (.string ⟨#[]⟩) (.string ⟨#[]⟩) (.slice none 0 0) (.int .i64 0)
          generalize (((((((wr.setCell ⟨w.heap.size, 0, none⟩ (.int .i64 0)).setCell ⟨w.heap.size, 1, none⟩ (.int .i64 0)).setCell ⟨w.heap.size, 2, none⟩ (.int .i64 0)).setCell ⟨w.heap.size, 3, none⟩ (.string ⟨#[]⟩)).setCell ⟨w.heap.size, 4, none⟩ (.string ⟨#[]⟩)).setCell ⟨w.heap.size, 5, none⟩ (.slice none 0 0)).setCell ⟨w.heap.size, 6, none⟩ (.int .i64 0)) = W5 at hbox htn ⊢
          obtain ⟨g0, g1, g2, g3, g4, g5, g6⟩ := seven hbox
          refine bodyPost_ret (v := .tuple #[.agg zero7, .bool false]) (by simp [results, Try.results15, go_sem, g0, g1, g2, g3, g4, g5, g6]) rfl ?_
          exact HQ.out _ (HBW.out.trans (htn.below (Nat.le_refl _) HBW.out.size))
        · have hx3 : n ≤ x := by omega
          have hK := row_keys HS.out.row HS.out.big (by have := HK.out; omega)
          have hsz := HSZ.out (by rw [HT2.out])
          have HM : Hid (Calls Try.prog 12 #[.agg (rv ⟨(A.1 : Int), (B.1 : Int), (C.1 : Int), (D.1 : Int), E.1, G.1, ks⟩ ka kn kc)] wr _) := refMay_any ⟨(A.1 : Int), (B.1 : Int), (C.1 : Int), (D.1 : Int), E.1, G.1, ks⟩ ka kn kc wr (by have := hsz.1; show E.1.size ≤ _; omega) (by have := hsz.2; show G.1.size ≤ _; omega) hK
          have HBR : Hid (Below w.heap.size w wr) := HS.out.tn.below (Nat.le_succ _) (Nat.le_refl _)
          clear hsz hK
          cases hm : may ⟨(A.1 : Int), (B.1 : Int), (C.1 : Int), (D.1 : Int), E.1, G.1, ks⟩ with
          | false =>
            have HQ : Hid (∀ w', Below w.heap.size w w' → Q (.returned (.tuple #[.agg zero7, .bool false])) w') := HNO.out (by rw [HT2.out]; exact fun _ _ => hm)
            rw [hm] at HM
            clear HNO HYES
            go_wp2_with fail
            refine HM.out.mono ?_
            rintro e w8 ⟨rfl, hb8⟩
            have HRS : Hid (w8.heap[w.heap.size]? = some (.cells zero7 26 (0, 0))) := bcells HS.out.res hb8
            have HBW : Hid (Below w.heap.size w w8) := HBR.out.trans (hb8.mono HBR.out.size)
            obtain ⟨⟨v0, v1, v2, v3, v4, v5, v6⟩, hv⟩ := seven' HRS.out
            have q0 := hv 0
            have q1 := hv 1
            have q2 := hv 2
            have q3 := hv 3
            have q4 := hv 4
            have q5 := hv 5
            have q6 := hv 6
            clear hv
            clear hb8 HM
            go_wp2
            have hbox := put7_box HRS.out (.int .i64 0) (.int .i64 0) (.int .i64 0) (.string ⟨#[]⟩) (.string ⟨#[]⟩) (.slice none 0 0) (.int .i64 0)
            have htn := put7_tn w8 w.heap.size (.int .i64 0) (.int .i64 0) (.int .i64 0) (.string ⟨#[]⟩) (.string ⟨#[]⟩) (.slice none 0 0) (.int .i64 0)
            generalize (((((((w8.setCell ⟨w.heap.size, 0, none⟩ (.int .i64 0)).setCell ⟨w.heap.size, 1, none⟩ (.int .i64 0)).setCell ⟨w.heap.size, 2, none⟩ (.int .i64 0)).setCell ⟨w.heap.size, 3, none⟩ (.string ⟨#[]⟩)).setCell ⟨w.heap.size, 4, none⟩ (.string ⟨#[]⟩)).setCell ⟨w.heap.size, 5, none⟩ (.slice none 0 0)).setCell ⟨w.heap.size, 6, none⟩ (.int .i64 0)) = W5 at hbox htn ⊢
            obtain ⟨g0, g1, g2, g3, g4, g5, g6⟩ := seven hbox
            refine bodyPost_ret (v := .tuple #[.agg zero7, .bool false]) (by simp [results, Try.results15, go_sem, g0, g1, g2, g3, g4, g5, g6]) rfl ?_
            exact HQ.out _ (HBW.out.trans (htn.below (Nat.le_refl _) HBW.out.size))
          | true =>
            have HQ : Hid (∀ ka kn kc w', KeysAt w' ka kn kc ks → Below w.heap.size w w' → Q (.returned (.tuple #[.agg (rv ⟨(A.1 : Int), (B.1 : Int), (C.1 : Int), (D.1 : Int), E.1, G.1, ks⟩ ka kn kc), .bool true])) w') := by
              have h9 := HYES.out
              rw [HT2.out] at h9
              exact h9 rfl hx3 hm
            rw [hm] at HM
            clear HNO HYES
            go_wp2_with fail
            refine HM.out.mono ?_
            rintro e w8 ⟨rfl, hb8⟩
            have HRS : Hid (w8.heap[w.heap.size]? = some (.cells zero7 26 (0, 0))) := bcells HS.out.res hb8
            have HBX := bcells HS.out.box hb8
            have HBW : Hid (Below w.heap.size w w8) := HBR.out.trans (hb8.mono HBR.out.size)
            have HROW : Hid (w8.ownsRow (w.heap.size + 3) 9 1 (.slice ka kn kc) ks.length (sv ks) ∧ w.heap.size + 3 ≤ w8.heap.size) := ⟨own_later HS.out.row hb8, Nat.le_trans HS.out.big hb8.size⟩
            clear y0 y1 y2 y3 y4 y5 y6 r0 r1 r2
            obtain ⟨y0, y1, y2, y3, y4, y5, y6⟩ := seven HBX
            obtain ⟨⟨v0, v1, v2, v3, v4, v5, v6⟩, hv⟩ := seven' HRS.out
            have q0 := hv 0
            have q1 := hv 1
            have q2 := hv 2
            have q3 := hv 3
            have q4 := hv 4
            have q5 := hv 5
            have q6 := hv 6
            clear hv
            clear hb8 HM HBX
            go_wp2
            have hbox := put7_box HRS.out (.int .i64 (A.1 : Int)) (.int .i64 (B.1 : Int)) (.int .i64 (C.1 : Int)) (.string E.1) (.string G.1) (.slice ka kn kc) (.int .i64 (D.1 : Int))
            have htn := put7_tn w8 w.heap.size (.int .i64 (A.1 : Int)) (.int .i64 (B.1 : Int)) (.int .i64 (C.1 : Int)) (.string E.1) (.string G.1) (.slice ka kn kc) (.int .i64 (D.1 : Int))
            generalize (((((((w8.setCell ⟨w.heap.size, 0, none⟩ (.int .i64 (A.1 : Int))).setCell ⟨w.heap.size, 1, none⟩ (.int .i64 (B.1 : Int))).setCell ⟨w.heap.size, 2, none⟩ (.int .i64 (C.1 : Int))).setCell ⟨w.heap.size, 3, none⟩ (.string E.1)).setCell ⟨w.heap.size, 4, none⟩ (.string G.1)).setCell ⟨w.heap.size, 5, none⟩ (.slice ka kn kc)).setCell ⟨w.heap.size, 6, none⟩ (.int .i64 (D.1 : Int))) = W5 at hbox htn ⊢
            obtain ⟨g0, g1, g2, g3, g4, g5, g6⟩ := seven hbox
            refine bodyPost_ret (v := .tuple #[.agg #[.int .i64 (A.1 : Int), .int .i64 (B.1 : Int), .int .i64 (C.1 : Int), .string E.1, .string G.1, .slice ka kn kc, .int .i64 (D.1 : Int)], .bool true]) (by simp [results, Try.results15, go_sem, g0, g1, g2, g3, g4, g5, g6]) rfl ?_
            refine HQ.out ka kn kc _ ?_ (HBW.out.trans (htn.below (Nat.le_refl _) HBW.out.size))
            exact row_keys (row_keep HROW.out.1 fun g h1 h2 => htn.block g h2 (by omega)) (Nat.le_trans HROW.out.2 htn.size) (by have := HK.out; omega)

/-- The bytes of a request that may be. -/
theorem refget_ok {w : World} {a : Option Addr} {n cap : Nat} {l : List UInt8} (r : Rq) (hm : may r = true) (he : l = enc r) (hn : n = l.length) (hl : Lies w a l) (hlim : n ≤ 100000) (hnc : n ≤ cap) (hcm : cap ≤ maxLen) :
    Calls Try.prog 15 #[.slice a n cap] w fun e w' => ∃ ka kn kc, e = .returned (.tuple #[.agg (rv r ka kn kc), .bool true]) ∧ Hid (KeysAt w' ka kn kc r.ks ∧ Below w.heap.size w w') := by
  have hR := reqOf_read (l := l) (rest := []) (fits_ref hm) (by rw [he, List.append_nil])
  have h3 := reqOf3_alike l
  rw [hR] at h3
  have h4 := h3.2 h3.1
  refine refGet_core hn hl hlim hnc hcm _ (fun _ _ _ ka kn kc w' h1 h2 => ?_) fun h => ?_
  · rw [h4] at h1 ⊢
    exact ⟨ka, kn, kc, rfl, h1, h2⟩
  · rw [h4] at h
    have := h rfl (by rw [hn, he]; exact Nat.le_refl _)
    rw [hm] at this; cases this
/-- Others. -/
theorem refget_no {w : World} {a : Option Addr} {n cap : Nat} {l : List UInt8} (hno : ¬ IsReq l) (hn : n = l.length) (hl : Lies w a l) (hlim : n ≤ 100000) (hnc : n ≤ cap) (hcm : cap ≤ maxLen) :
    Calls Try.prog 15 #[.slice a n cap] w fun e w' => e = .returned (.tuple #[.agg zero7, .bool false]) ∧ Below w.heap.size w w' := by
  refine refGet_core hn hl hlim hnc hcm _ (fun h1 h2 h3 => ?_) fun _ w' hb => ⟨rfl, hb⟩
  have h4 := (reqOf3_alike l).2 h1
  rw [h4] at h1 h2 h3
  exact absurd ⟨_, h3, told_is h1 (by rw [← hn]; exact h2)⟩ hno
end Go.Proofs.Ytanlanolblbckaa.Order
