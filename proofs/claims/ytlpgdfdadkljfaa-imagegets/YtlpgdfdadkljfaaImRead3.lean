/-
  Snapshots read.
-/
import Derived.Test.YtlpgdfdadkljfaaImRead2
namespace Go.Proofs.Ytlpgdfdadkljfaa.Img
open Go.RowKit Route Tree Order Cat

/-- A row of entries that is owned. -/
def ERw (B : Nat) (v : Value) (Y : List (Ent × Value)) (w : World) : Prop := w.ownsRow B 57 3 v Y.length (cellsOf Y) ∧ ∀ y ∈ Y, KeyRow B w y
theorem ERw.nil (B : Nat) (w : World) : ERw B (.slice none 0 0) [] w := ⟨World.ownsRow_nil _ _ _ _, fun y hy => by simp at hy⟩
theorem ERw.keep {B : Nat} {v : Value} {Y : List (Ent × Value)} {w w' : World} (h : ERw B v Y w) (hk : ∀ g, B ≤ g → g < w.heap.size → w'.heap[g]? = w.heap[g]?) : ERw B v Y w' :=
  ⟨row_keep h.1 hk, fun y hy => row_keep (h.2 y hy) hk⟩
theorem ERw.any {B B' : Nat} {v : Value} {Y : List (Ent × Value)} {w : World} (h : ERw B v Y w) (hB : B' ≤ B) : ERw B' v Y w := ⟨own_any h.1 hB, fun y hy => own_any (h.2 y hy) hB⟩
theorem ERw.form {B : Nat} {v : Value} {Y : List (Ent × Value)} {w : World} (h : ERw B v Y w) : ∃ a m c, v = .slice a m c := by
  rcases h.1.2 with ⟨e, _⟩ | ⟨g, cap, cur, e, _⟩
  · exact ⟨_, _, _, e⟩
  · exact ⟨_, _, _, e⟩

/-- 'append(l, e)': its run. -/
theorem run_ent {B : Nat} {v : Value} {Y : List (Ent × Value)} {w0 : World} {z : Ent × Value} {ty : TypeId} (h : ERw B v Y w0) (hB : B ≤ w0.heap.size) (hz : KeyRow B w0 z) (hlen : Y.length + 1 ≤ 1000000) :
    ∃ a5 m5 c5 w', (Builtin.append_ #[50, 50] ty #[v, .slice (some ⟨w0.heap.size, 0, none⟩) 1 1]).run Try.prog (w0.alloc (.cells #[.string z.1.1, .int .i64 z.1.2.1, z.2] 57)) = .ok (.slice a5 m5 c5) w' ∧
      ERw B (.slice a5 m5 c5) (Y ++ [z]) w' ∧ w'.os = w0.os ∧ w'.tape = w0.tape ∧ w'.output = w0.output ∧ w0.heap.size ≤ w'.heap.size ∧ ∀ k, k < B → w'.heap[k]? = w0.heap[k]? := by
  obtain ⟨i0, hi, hz0, hz1, hz2⟩ := info_parts info30
  have hb : Below w0.heap.size w0 (w0.alloc (.cells #[.string z.1.1, .int .i64 z.1.2.1, z.2] 57)) := (Below.refl _ _).alloc (Nat.le_refl _) _
  have h' := own30_later h.1 hb
  have hz' : KeyRow B _ z := own30_later hz hb
  have hone := key_one hz
  obtain ⟨v', w', hr, h2, h3, _, _⟩ := run_append_own_at (P := Try.prog) (w0.alloc (.cells #[.string z.1.1, .int .i64 z.1.2.1, z.2] 57)) B 50 ty 57 i0 (.agg #[.string ByteArray.empty, .int .i64 0, .slice none 0 0]) 3 48 Try.underlying50 hi hz0 hz1 hz2 rfl (by decide) v Y.length (cellsOf Y) h' ⟨w0.heap.size, 0, none⟩ 1 1 [.string z.1.1, .int .i64 z.1.2.1, z.2] rfl
    (by
      intro j u hj
      match j, hj with
      | 0, hj => simp at hj; subst hj; simp [Addr.add]
      | 1, hj => simp at hj; subst hj; simp [Addr.add]
      | 2, hj => simp at hj; subst hj; simp [Addr.add]
      | (j + 3), hj => simp at hj)
    (by
      intro u hu
      simp at hu
      rcases hu with rfl | rfl | rfl
      · rfl
      · rfl
      · exact hone)
    (by unfold maxLen; omega) (by omega) (Nat.le_trans hB hb.size)
  have hE : ERw B v' (Y ++ [z]) w' := by
    refine ⟨?_, fun y hy => ?_⟩
    · rw [cellsOf_app, List.length_append]
      have e : cellsOf [z] = [.string z.1.1, .int .i64 z.1.2.1, z.2] := by simp [cellsOf, enc_key hz]
      rw [e]
      exact h2
    · rcases List.mem_append.1 hy with hy | hy
      · exact World.ownsRow.kept (own30_later (h.2 y hy) hb) h3 (kinds h' (own30_later (h.2 y hy) hb) (by decide))
      · rw [List.mem_singleton.1 hy]; exact World.ownsRow.kept hz' h3 (kinds h' hz' (by decide))
  obtain ⟨a5, m5, c5, rfl⟩ := hE.form
  refine ⟨a5, m5, c5, w', hr, hE, h3.os, h3.tape, h3.output, Nat.le_trans hb.size h3.size, fun k hk => ?_⟩
  refine (h3.block k (by simp; omega) fun e => ?_).trans (Below.heap_alloc _ _ _ (by omega))
  have := (h'.lt k e.symm).1
  omega

theorem cells4 {w : World} {b : Nat} {x y z u : Value} {T : TypeId} (h : w.heap[b]? = some (.cells #[x, y, z, u] T (0, 0))) :
    (w.cell? ⟨b, 0, none⟩ = some x ∧ w.cell? ⟨b, 1, none⟩ = some y ∧ w.cell? ⟨b, 2, none⟩ = some z ∧ w.cell? ⟨b, 3, none⟩ = some u) ∧ ∀ i, w.frozen? ⟨b, i, none⟩ = false := by
  simp [World.cell?, World.frozen?, h]

/-- An entry is read in a drawn region, and appended. -/
theorem ent_push {w W : World} {p rb qb B : Nat} {a : Option Addr} {n cap : Nat} {l : List UInt8} {x : Nat} {f : Bool} {x0 x1 x2 : Value} {ea : Option Addr} {en ec : Nat} {Y : List (Ent × Value)} {zs : Array Value}
    (h : Sr 52 zs w W p rb qb B a n cap l x f #[x0, x1, x2, .slice ea en ec]) (hrow : ERw B (.slice ea en ec) Y W) (hlen : Y.length + 1 ≤ 1000000) (hx : x ≤ l.length) :
    Calls Try.prog 66 #[.pointer (some ⟨p, 0, none⟩)] W fun e w' => ∃ s i kv, e = .returned (.agg #[.string s, .int .i64 i, kv]) ∧ w'.cell? ⟨qb, 3, none⟩ = some (.slice ea en ec) ∧ (w'.alloc (.cells #[.string s, .int .i64 i, kv] 57)).cell? ⟨qb, 3, none⟩ = some (.slice ea en ec) ∧
      ∃ a5 k5 c5 w5, (Builtin.append_ #[50, 50] 50 #[.slice ea en ec, .slice (some ⟨w'.heap.size, 0, none⟩) 1 1]).run Try.prog (w'.alloc (.cells #[.string s, .int .i64 i, kv] 57)) = .ok (.slice a5 k5 c5) w5 ∧ w5.cell? ⟨qb, 3, none⟩ = some (.slice ea en ec) ∧ w5.frozen? ⟨qb, 3, none⟩ = false ∧
        Hid (Sr 52 zs w (w5.setCell ⟨qb, 3, none⟩ (.slice a5 k5 c5)) p rb qb B a n cap l (entR l (x, f)).2.1 (entR l (x, f)).2.2 #[x0, x1, x2, .slice a5 k5 c5] ∧ ∃ z : Ent × Value, z.1 = (entR l (x, f)).1 ∧ ERw B (.slice a5 k5 c5) (Y ++ [z]) (w5.setCell ⟨qb, 3, none⟩ (.slice a5 k5 c5))) := by
  refine (entry_call h.rd hx).mono ?_
  rintro e w' ⟨kv, rfl, hr⟩
  have h1 := h.step ⟨hr.out.1, hr.out.2.1⟩
  have hrow1 := hrow.keep (h.rows hr.out.2.1)
  have g1 := (cells4 h1.box).1.2.2.2
  have hlt : qb < w'.heap.size := (Array.getElem?_eq_some_iff.1 h1.box).1
  have hkey : KeyRow B w' ((entR l (x, f)).1, kv) := own_any hr.out.2.2 h.big
  obtain ⟨a5, k5, c5, w5, hrun, hE, o1, o2, o3, o4, hk⟩ := run_ent (ty := 50) hrow1 h1.big hkey hlen
  have h5 := h1.grow o1 o2 o3 o4 hk
  have g5 := cells4 h5.box
  have h6 := h5.set 3 (.slice a5 k5 c5) rfl
  exact ⟨_, _, _, rfl, g1, by rw [World.cell?_alloc_lt _ _ _ hlt]; exact g1, a5, k5, c5, w5, hrun, g5.1.2.2.2, g5.2 3, h6, _, rfl, hE.keep fun g hg' _ => h5.setRows 3 _ g hg'⟩

abbrev zeroN : Array Value := #[.int .i64 0, .string ⟨#[]⟩, .bool false, .slice none 0 0]
theorem entsR_step (l : List UInt8) (k : Nat) (s : St) : entsR l (k + 1) s = ((entR l s).1 :: (entsR l k (entR l s).2).1, (entsR l k (entR l s).2).2) := rfl

set_option maxHeartbeats 8000000 in
set_option maxRecDepth 100000 in
theorem snap_call {w : World} {p : Nat} {a : Option Addr} {n cap : Nat} {l : List UInt8} {x : Nat} {f : Bool} (h : Rd 67 w p a n cap l x f) (hx : x ≤ l.length) :
    Calls Try.prog 47 #[.pointer (some ⟨p, 0, none⟩)] w fun e w' => ∃ z : SZ, e = .returned (.agg #[.int .i64 z.1, .string z.2.1, .bool z.2.2.1, z.2.2.2.1]) ∧
      Hid (snapOf z = (snapR l (x, f)).1 ∧ Rd 67 w' p a n cap l (snapR l (x, f)).2.1 (snapR l (x, f)).2.2 ∧ Tn p w w' ∧ ERow w.heap.size w' z) := by
  unfold snapR
  simp only
  generalize ea : num l 7 x f = A
  generalize eb : tex l 4096 A.2.1 A.2.2 = C
  generalize ed : num l 1 C.2.1 C.2.2 = D
  generalize eg : num l 32 D.2.1 D.2.2 = J
  have hA : A.2.1 ≤ l.length := by rw [← ea]; exact (num_le hx).2
  have hC : C.2.1 ≤ l.length := by rw [← eb]; exact (tex_le hA).2
  have hD : D.2.1 ≤ l.length := by rw [← ed]; exact (num_le hC).2
  have hJ : J.1 ≤ 32 ∧ J.2.1 ≤ l.length := by rw [← eg]; exact num_le hD
  have hD1 : D.1 ≤ 1 := by rw [← ed]; exact (num_le hC).1
  have HA : Hid (num l 7 x f = A) := ea
  have HC : Hid (tex l 4096 A.2.1 A.2.2 = C) := eb
  have HD : Hid (num l 1 C.2.1 C.2.2 = D) := ed
  have HJ : Hid (num l 32 D.2.1 D.2.2 = J) := eg
  have H0 : Hid (Sr 52 zeroN w ((w.alloc (.cells zeroN 52)).alloc (.cells zeroN 52)) p w.heap.size (w.heap.size + 1) (w.heap.size + 2) a n cap l x f zeroN) := Sr.start h
  have hJ1 := hJ.1
  have HJ2 : Hid (J.2.1 ≤ l.length) := hJ.2
  have HFl : Hid (((D.1 : Int) == 1) = decide (D.1 = 1)) := by show _ = _; rw [Bool.beq_eq_decide_eq]; exact decide_eq_decide.2 (by omega)
  clear ea eb ed eg h hA hC hD hx hJ
  have N0 : Hid (Calls _ _ _ _ _) := num_named H0.out.rd 7 (by omega) A HA.out
  go_enter Try.func47, Try.ntmps47
  go_wp2_with fail
  refine N0.out.mono ?_
  rintro e w1 ⟨rfl, hr⟩
  have S1 := H0.out.step hr.out
  clear N0 hr H0
  obtain ⟨⟨y0, y1, y2, y3⟩, hf⟩ := cells4 S1.box
  have z0 := hf 0
  have T1 : Hid (Sr 52 zeroN w (w1.setCell ⟨w.heap.size + 1, 0, none⟩ (.int .i64 (A.1 : Int))) p w.heap.size (w.heap.size + 1) (w.heap.size + 2) a n cap l A.2.1 A.2.2 #[.int .i64 (A.1 : Int), .string ⟨#[]⟩, .bool false, .slice none 0 0]) := S1.set 0 _ rfl
  have N1 : Hid (Calls _ _ _ _ _) := text_named T1.out.rd 4096 (by omega) C HC.out
  clear S1 hf
  go_wp2_with fail
  refine N1.out.mono ?_
  rintro e w2 ⟨rfl, hr⟩
  have S2 := T1.out.step hr.out
  clear N1 hr T1 y0 y1 y2 y3 z0
  obtain ⟨⟨y0, y1, y2, y3⟩, hf⟩ := cells4 S2.box
  have z1 := hf 1
  have T2 : Hid (Sr 52 zeroN w (w2.setCell ⟨w.heap.size + 1, 1, none⟩ (.string C.1)) p w.heap.size (w.heap.size + 1) (w.heap.size + 2) a n cap l C.2.1 C.2.2 #[.int .i64 (A.1 : Int), .string C.1, .bool false, .slice none 0 0]) := S2.set 1 _ rfl
  have N2 : Hid (Calls _ _ _ _ _) := num_named T2.out.rd 1 (by omega) D HD.out
  clear S2 hf
  go_wp2_with fail
  refine N2.out.mono ?_
  rintro e w3 ⟨rfl, hr⟩
  have S3 := T2.out.step hr.out
  clear N2 hr T2 y0 y1 y2 y3 z1
  obtain ⟨⟨y0, y1, y2, y3⟩, hf⟩ := cells4 S3.box
  have z2 := hf 2
  have T3 : Hid (Sr 52 zeroN w (w3.setCell ⟨w.heap.size + 1, 2, none⟩ (.bool (decide (D.1 = 1)))) p w.heap.size (w.heap.size + 1) (w.heap.size + 2) a n cap l D.2.1 D.2.2 #[.int .i64 (A.1 : Int), .string C.1, .bool (decide (D.1 = 1)), .slice none 0 0]) := S3.set 2 _ rfl
  have N3 : Hid (Calls _ _ _ _ _) := num_named T3.out.rd 32 (by omega) J HJ.out
  clear S3 hf
  go_wp2_with fail
  rw [HFl.out]
  generalize hdn : decide (D.1 = 1) = dn at *
  have HDn : Hid (decide (D.1 = 1) = dn) := hdn
  clear hdn
  refine N3.out.mono ?_
  rintro e w4 ⟨rfl, hr⟩
  have S4 := T3.out.step hr.out
  clear N3 hr T3 y0 y1 y2 y3 z2
  have HI : Hid (Sr 52 zeroN w w4 p w.heap.size (w.heap.size + 1) (w.heap.size + 2) a n cap l J.2.1 J.2.2 #[.int .i64 (A.1 : Int), .string C.1, .bool dn, .slice none 0 0]) := S4
  clear S4 HA HC HD HJ
  go_wp2
  go_loopw [16] (fun t16 wr => ∃ (j : Nat), t16 = .int .i64 (j : Int) ∧ j ≤ J.1 ∧ Hid (∃ (ea : Option Addr) (en ec : Nat) (Y : List (Ent × Value)) (x : Nat) (f : Bool), Y.length = j ∧ x ≤ l.length ∧ Sr 52 zeroN w wr p w.heap.size (w.heap.size + 1) (w.heap.size + 2) a n cap l x f #[.int .i64 (A.1 : Int), .string C.1, .bool dn, .slice ea en ec] ∧ ERw (w.heap.size + 2) (.slice ea en ec) Y wr ∧ entsR l J.1 J.2 = (Y.map (·.1) ++ (entsR l (J.1 - j) (x, f)).1, (entsR l (J.1 - j) (x, f)).2))) (fun t16 _ => J.1 - (intOf t16).toNat)
  case atStart => exact ⟨0, rfl, Nat.zero_le _, none, 0, 0, [], J.2.1, J.2.2, rfl, HJ2.out, HI.out, ERw.nil _ _, rfl⟩
  case round =>
    obtain ⟨j, rfl, hj, HR⟩ := hrel
    clear HI
    obtain ⟨ea, en, ec, Y, x, f, hks, hxl, hS, hrow, htx⟩ := HR.out
    have HS : Hid (Sr _ _ _ _ _ _ _ _ _ _ _ _ _ _ _) := hS
    have HT : Hid (_ = _) := htx
    have HK : Hid (Y.length = j) := hks
    have HXL : Hid (x ≤ l.length) := hxl
    have HRow : Hid (ERw (w.heap.size + 2) (.slice ea en ec) Y wr) := hrow
    obtain ⟨⟨y0, y1, y2, y3⟩, hf⟩ := cells4 hS.box
    by_cases hlt : j < J.1
    · have HCL : Hid (∀ W', Sr 52 zeroN w W' p w.heap.size (w.heap.size + 1) (w.heap.size + 2) a n cap l x f #[.int .i64 (A.1 : Int), .string C.1, .bool dn, .slice ea en ec] ∧ ERw (w.heap.size + 2) (.slice ea en ec) Y W' → Calls Try.prog 66 #[.pointer (some ⟨p, 0, none⟩)] W' _) := fun W' h => ent_push h.1 h.2 (by have := HK.out; omega) HXL.out
      clear hS htx hks hf HR y0 y1 y2 hrow hxl
      go_wp2_with fail
      go_region_law
        (first
          | (go_simp; go_at_call 66; refine (HCL.out _ ?_).mono ?_; first | exact ⟨HS.out, HRow.out⟩ | exact ⟨HS.out.drew, HRow.out⟩; rintro e w5 ⟨s5, i5, kv5, rfl, c4, c4', a5, k5, c5, w6, hrun5, c5', f5, hF5⟩)
          | (refine step_run (by rfl) _ _ _ (by rfl) _ _ _ (by rfl) (by rfl) hrun5 ?_))
      all_goals
        go_wp2
        go_roundw
        case rel =>
          obtain ⟨hS6, z6, hz6, hE6⟩ := hF5.out
          refine ⟨j + 1, by go_num, by omega, a5, k5, c5, _, _, _, by rw [List.length_append, HK.out]; rfl, (entR_rds l (x, f) HXL.out).1, hS6, hE6, ?_⟩
          have e1 : J.1 - j = (J.1 - (j + 1)) + 1 := by omega
          rw [HT.out, e1, entsR_step, List.map_append, ← hz6]
          simp
        case measure => simp [intOf]; omega
    · have ej : J.1 - j = 0 := by omega
      have htx2 : entsR l J.1 J.2 = (Y.map (·.1), x, f) := by rw [HT.out, ej]; simp [entsR]
      have HT2 : Hid (entsR l J.1 J.2 = (Y.map (·.1), x, f)) := htx2
      obtain ⟨⟨v0, v1, v2, v3⟩, hv⟩ := cells4 HS.out.res
      have q0 := hv 0
      have q1 := hv 1
      have q2 := hv 2
      have q3 := hv 3
      clear htx2 ej HR hS htx hks hrow hf hv hxl
      go_wp2
      have hbox := put4_box HS.out.res (.int .i64 (A.1 : Int)) (.string C.1) (.bool dn) (.slice ea en ec)
      have htn := put4_tn wr w.heap.size (.int .i64 (A.1 : Int)) (.string C.1) (.bool dn) (.slice ea en ec)
      generalize ((((wr.setCell ⟨w.heap.size, 0, none⟩ (.int .i64 (A.1 : Int))).setCell ⟨w.heap.size, 1, none⟩ (.string C.1)).setCell ⟨w.heap.size, 2, none⟩ (.bool dn)).setCell ⟨w.heap.size, 3, none⟩ (.slice ea en ec)) = W5 at hbox htn ⊢
      obtain ⟨⟨g0, g1, g2, g3⟩, _⟩ := cells4 hbox
      refine bodyPost_ret (v := .agg #[.int .i64 (A.1 : Int), .string C.1, .bool dn, .slice ea en ec]) (by simp [results, Try.results47, go_sem, g0, g1, g2, g3]) rfl ?_
      obtain ⟨d1, d2, d3⟩ := HS.out.tn_res htn
      have hE := (HRow.out.keep d3).any (Nat.le_add_right w.heap.size 2)
      rw [HT2.out]
      exact ⟨((A.1 : Int), C.1, dn, .slice ea en ec, Y), rfl, (by rw [HDn.out]; rfl), d2, d1, hE.1, hE.2⟩
end Go.Proofs.Ytlpgdfdadkljfaa.Img
