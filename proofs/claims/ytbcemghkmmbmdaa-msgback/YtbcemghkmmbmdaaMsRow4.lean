/-
  Changes read, and rows of them.
-/
import Derived.Test.YtbcemghkmmbmdaaMsRow3
namespace Go.Proofs.Ytbcemghkmmbmdaa.Msg
open Go.RowKit Route Order

theorem prf_form {B : Nat} {v : Value} {L : List PZ} {w : World} (h : PRow B v L w) : ∃ a m c, v = .slice a m c := own_form h.1
theorem prf_down {B B' : Nat} {v : Value} {L : List PZ} {w : World} (h : PRow B v L w) (hB : B' ≤ B) : PRow B' v L w := h.any hB
abbrev zeroC : Array Value := #[.int .i64 0, .int .i64 0, .slice none 0 0]
/-- A change with its row's value, and that row's. -/
abbrev CZ := Int × Int × Value × List PZ
def chOf (c : CZ) : Ch := (c.1, c.2.1, c.2.2.2.map (·.1))

set_option maxHeartbeats 8000000 in
set_option maxRecDepth 100000 in
theorem change_any {w : World} {p : Nat} {a : Option Addr} {n cap : Nat} {l : List UInt8} {x : Nat} {f : Bool} (h : Rd 70 w p a n cap l x f) :
    Calls Try.prog 71 #[.pointer (some ⟨p, 0, none⟩)] w fun e w' => ∃ (z : CZ) (x' : Nat) (f' : Bool), e = .returned (.agg #[.int .i64 z.1, .int .i64 z.2.1, z.2.2.1]) ∧ Hid (Rd 70 w' p a n cap l x' f' ∧ Tn p w w' ∧ PRow w.heap.size z.2.2.1 z.2.2.2 w' ∧ Al (changeR l (x, f)).2 (x', f') ∧ (f' = false → (changeR l (x, f)).1 = chOf z)) := by
  have HPR : Hid (∀ A C, num l 12 x f = A → num l 64 A.2.1 A.2.2 = C → changeR l (x, f) = (((A.1 : Int), (C.1 : Int), (listP l C.2).1), (listP l C.2).2)) := fun A C h1 h2 => by subst h1; subst h2; rfl
  generalize eA : num l 12 x f = A
  generalize eC' : num l 64 A.2.1 A.2.2 = C
  have HPQ : Hid (_ = _) := HPR.out A C eA eC'
  have eC : Hid (num l 64 A.2.1 A.2.2 = C) := eC'
  clear eC' HPR
  have H0 : Hid (Sr 61 zeroC w ((w.alloc (.cells zeroC 61)).alloc (.cells zeroC 61)) p w.heap.size (w.heap.size + 1) (w.heap.size + 2) a n cap l x f zeroC) := Sr.start h
  clear h
  have N0 : Hid (Calls _ _ _ _ _) := node_named H0.out.rd A eA
  go_enter Try.func71, Try.ntmps71
  go_wp2_with fail
  refine N0.out.mono ?_
  rintro e w1 ⟨rfl, hr⟩
  have S0 := H0.out.step hr.out
  clear N0 hr H0 
  obtain ⟨⟨y0, y1, y2⟩, hf⟩ := cells3 S0.box
  have z := hf 0
  have T0 : Hid (Sr 61 zeroC w (w1.setCell ⟨w.heap.size + 1, 0, none⟩ (.int .i64 (A.1 : Int))) p w.heap.size (w.heap.size + 1) (w.heap.size + 2) a n cap l A.2.1 A.2.2 #[.int .i64 (A.1 : Int), .int .i64 0, .slice none 0 0]) := S0.set 0 _ rfl
  clear S0 hf
  have N1 : Hid (Calls _ _ _ _ _) := num_named T0.out.rd 64 (by omega) C eC.out
  go_wp2_with fail
  refine N1.out.mono ?_
  rintro e w2 ⟨rfl, hr⟩
  have S1 := T0.out.step hr.out
  clear N1 hr T0 y0 y1 y2 z
  obtain ⟨⟨y0, y1, y2⟩, hf⟩ := cells3 S1.box
  have z := hf 1
  have T1 : Hid (Sr 61 zeroC w (w2.setCell ⟨w.heap.size + 1, 1, none⟩ (.int .i64 (C.1 : Int))) p w.heap.size (w.heap.size + 1) (w.heap.size + 2) a n cap l C.2.1 C.2.2 #[.int .i64 (A.1 : Int), .int .i64 (C.1 : Int), .slice none 0 0]) := S1.set 1 _ rfl
  clear S1 hf
  have N2 : Hid (Calls _ _ _ _ _) := listP_any T1.out.rd
  go_wp2_with fail
  refine N2.out.mono ?_
  rintro e w3 ⟨v9, L, x9, f9, rfl, hr⟩
  obtain ⟨a9, m9, c9, rfl⟩ := prf_form hr.out.1.row
  have HT9 : Hid (Told _ _ x9 f9) := hr.out.2
  have HRow : Hid (PRow (w.heap.size + 2) (.slice a9 m9 c9) L w3) := prf_down hr.out.1.row T1.out.big
  have S2 := T1.out.step ⟨hr.out.1.rd, hr.out.1.tn⟩
  clear N2 hr T1 y0 y1 y2 z
  obtain ⟨⟨y0, y1, y2⟩, hf⟩ := cells3 S2.box
  have z := hf 2
  have T2 : Hid (Sr 61 zeroC w (w3.setCell ⟨w.heap.size + 1, 2, none⟩ (.slice a9 m9 c9)) p w.heap.size (w.heap.size + 1) (w.heap.size + 2) a n cap l x9 f9 #[.int .i64 (A.1 : Int), .int .i64 (C.1 : Int), .slice a9 m9 c9]) := S2.set 2 _ rfl
  obtain ⟨⟨v0, v1, v2⟩, hv⟩ := cells3 S2.res
  have HRow2 : Hid (PRow (w.heap.size + 2) (.slice a9 m9 c9) L (w3.setCell ⟨w.heap.size + 1, 2, none⟩ (.slice a9 m9 c9))) := HRow.out.keep fun g h1 _ => S2.setRows 2 _ g h1
  clear S2 hf
  have q0 := hv 0
  have q1 := hv 1
  have q2 := hv 2
  clear hv HRow
  go_wp2
  have hbox := put3_box T2.out.res (.int .i64 (A.1 : Int)) (.int .i64 (C.1 : Int)) (.slice a9 m9 c9)
  have htn := put3_tn (w3.setCell ⟨w.heap.size + 1, 2, none⟩ (.slice a9 m9 c9)) w.heap.size (.int .i64 (A.1 : Int)) (.int .i64 (C.1 : Int)) (.slice a9 m9 c9)
  generalize hW : (((w3.setCell ⟨w.heap.size + 1, 2, none⟩ (.slice a9 m9 c9)).setCell ⟨w.heap.size, 0, none⟩ (.int .i64 (A.1 : Int))).setCell ⟨w.heap.size, 1, none⟩ (.int .i64 (C.1 : Int))).setCell ⟨w.heap.size, 2, none⟩ (.slice a9 m9 c9) = W8 at hbox htn ⊢
  obtain ⟨⟨g0, g1, g2⟩, _⟩ := cells3 hbox
  refine bodyPost_ret (v := .agg #[.int .i64 (A.1 : Int), .int .i64 (C.1 : Int), .slice a9 m9 c9]) (by simp [results, Try.results71, go_sem, g0, g1, g2]) rfl ?_
  obtain ⟨d1, d2, d3⟩ := T2.out.tn_res htn
  exact ⟨((A.1 : Int), (C.1 : Int), .slice a9 m9 c9, L), x9, f9, rfl, d2, d1, prf_down (HRow2.out.keep d3) (Nat.le_add_right w.heap.size 2), by rw [HPQ.out]; exact HT9.out.al, fun e => by rw [HPQ.out]; have := HT9.out.row e; unfold chOf; simp only; rw [← this]⟩


def ccells (Z : List CZ) : List Value := Z.flatMap fun z => [.int .i64 z.1, .int .i64 z.2.1, z.2.2.1]
theorem ccells_app (Y Z : List CZ) : ccells (Y ++ Z) = ccells Y ++ ccells Z := by simp [ccells]
/-- A row of changes that is owned, the rows of their proofs too. -/
def CRow (B : Nat) (v : Value) (Z : List CZ) (w : World) : Prop := w.ownsRow B 61 3 v Z.length (ccells Z) ∧ ∀ z ∈ Z, PRow B z.2.2.1 z.2.2.2 w
theorem CRow.nil (B : Nat) (w : World) : CRow B (.slice none 0 0) [] w := ⟨World.ownsRow_nil _ _ _ _, fun z hz => by simp at hz⟩
theorem CRow.keep {B : Nat} {v : Value} {Z : List CZ} {w w' : World} (h : CRow B v Z w) (hk : ∀ g, B ≤ g → g < w.heap.size → w'.heap[g]? = w.heap[g]?) : CRow B v Z w' := ⟨row_keep h.1 hk, fun z hz => (h.2 z hz).keep hk⟩
theorem CRow.any {B B' : Nat} {v : Value} {Z : List CZ} {w : World} (h : CRow B v Z w) (hB : B' ≤ B) : CRow B' v Z w := ⟨own_any h.1 hB, fun z hz => (h.2 z hz).any hB⟩
theorem PRow.later {B : Nat} {v : Value} {Z : List PZ} {w w' : World} (h : PRow B v Z w) (hb : Below w.heap.size w w') : PRow B v Z w' := ⟨own_later h.1 hb, fun z hz => own_later (h.2 z hz) hb⟩
theorem infoCh : (Try.prog.info? 61).map (fun i => (i.zero, i.size, i.bytes)) = some (some (.agg #[.int .i64 0, .int .i64 0, .slice none 0 0]), 3, 40) := by kernel_rfl

/-- 'append(l, e)': its run. -/
theorem run_ch {B : Nat} {v : Value} {Z : List CZ} {w0 : World} {z : CZ} (ty : TypeId) (h : CRow B v Z w0) (hB : B ≤ w0.heap.size) (hz : PRow B z.2.2.1 z.2.2.2 w0) (hlen : Z.length + 1 ≤ 1000000) :
    ∃ a5 m5 c5 w', (Builtin.append_ #[23, 23] ty #[v, .slice (some ⟨w0.heap.size, 0, none⟩) 1 1]).run Try.prog (w0.alloc (.cells #[.int .i64 z.1, .int .i64 z.2.1, z.2.2.1] 61)) = .ok (.slice a5 m5 c5) w' ∧
      CRow B (.slice a5 m5 c5) (Z ++ [z]) w' ∧ w'.os = w0.os ∧ w'.tape = w0.tape ∧ w'.output = w0.output ∧ w0.heap.size ≤ w'.heap.size ∧ ∀ k, k < B → w'.heap[k]? = w0.heap[k]? := by
  obtain ⟨i0, hi, hz0, hz1, hz2⟩ := info_parts infoCh
  have hb : Below w0.heap.size w0 (w0.alloc (.cells #[.int .i64 z.1, .int .i64 z.2.1, z.2.2.1] 61)) := (Below.refl _ _).alloc (Nat.le_refl _) _
  have h' := own_later h.1 hb
  have hz' := hz.later hb
  have hone := own_one hz.1
  obtain ⟨v', w', hr, h2, h3, _, _⟩ := run_append_own_at (P := Try.prog) (w0.alloc (.cells #[.int .i64 z.1, .int .i64 z.2.1, z.2.2.1] 61)) B 23 ty 61 i0 (.agg #[.int .i64 0, .int .i64 0, .slice none 0 0]) 3 40 Try.underlying23 hi hz0 hz1 hz2 rfl (by decide) v Z.length (ccells Z) h' ⟨w0.heap.size, 0, none⟩ 1 1 [.int .i64 z.1, .int .i64 z.2.1, z.2.2.1] rfl
    (by
      intro j u hj
      match j, hj with
      | 0, hj => simp at hj; subst hj; simp [Addr.add]
      | 1, hj => simp at hj; subst hj; simp [Addr.add]
      | 2, hj => simp at hj; subst hj; simp [Addr.add]
      | (j + 3), hj => simp at hj)
    (by
      intro u hu
      simp at hu
      rcases hu with rfl | rfl | rfl
      · rfl
      · rfl
      · exact hone)
    (by unfold maxLen; omega) (by omega) (Nat.le_trans hB hb.size)
  have hkeep : ∀ {v0 : Value} {L : List PZ}, PRow B v0 L (w0.alloc (.cells #[.int .i64 z.1, .int .i64 z.2.1, z.2.2.1] 61)) → PRow B v0 L w' := fun hp =>
    ⟨World.ownsRow.kept hp.1 h3 (kinds h' hp.1 (by decide)), fun y hy => World.ownsRow.kept (hp.2 y hy) h3 (kinds h' (hp.2 y hy) (by decide))⟩
  have hE : CRow B v' (Z ++ [z]) w' := by
    refine ⟨?_, fun y hy => ?_⟩
    · rw [ccells_app, List.length_append]
      have e : ccells [z] = [.int .i64 z.1, .int .i64 z.2.1, z.2.2.1] := by simp [ccells]
      rw [e]
      exact h2
    · rcases List.mem_append.1 hy with hy | hy
      · exact hkeep ((h.2 y hy).later hb)
      · rw [List.mem_singleton.1 hy]; exact hkeep hz'
  obtain ⟨a5, m5, c5, rfl⟩ := own_form hE.1
  refine ⟨a5, m5, c5, w', hr, hE, h3.os, h3.tape, h3.output, Nat.le_trans hb.size h3.size, fun k hk => ?_⟩
  refine (h3.block k (by simp; omega) fun e => ?_).trans (Below.heap_alloc _ _ _ (by omega))
  have := (h'.lt k e.symm).1
  omega

theorem changesR_step (l : List UInt8) (k : Nat) (s : St) : changesR l (k + 1) s = ((changeR l s).1 :: (changesR l k (changeR l s).2).1, (changesR l k (changeR l s).2).2) := rfl
theorem Far.nextC {l : List UInt8} {K j : Nat} {q s : St} {Y : List Ch} {x x' : Nat} {f' : Bool} {z : Ch} (h : Far l (changesR l K q) Y (changesR l (K - j) s) s x false) (hj : j < K) (h1 : Al (changeR l (x, false)).2 (x', f')) (hz : f' = false → (changeR l (x, false)).1 = z) :
    Far l (changesR l K q) (Y ++ [z]) (changesR l (K - (j + 1)) (changeR l (x, false)).2) (changeR l (x, false)).2 x' f' := by
  have hs := h.al.good
  have h0 := h.le
  have h2 := h.st
  have h3 := h.row rfl
  subst hs
  have e1 : K - j = (K - (j + 1)) + 1 := by omega
  rw [e1, changesR_step] at h2 h3
  exact ⟨(changeR_rds l (x, false) h0).1, h1, h2, fun e => by rw [h3, hz e]; simp⟩
set_option maxHeartbeats 8000000 in
set_option maxRecDepth 100000 in
theorem listC_any {w : World} {p : Nat} {a : Option Addr} {n cap : Nat} {l : List UInt8} {x : Nat} {f : Bool} (h : Rd 70 w p a n cap l x f) :
    Calls Try.prog 70 #[.pointer (some ⟨p, 0, none⟩), .int .u64 ((13 : Nat) : Int), .func (.func 71) #[.pointer (some ⟨p, 0, none⟩)] #[]] w fun e w' =>
      ∃ v L x' f', e = .returned v ∧ Hid (Lr (CRow w.heap.size v L) w w' p a n cap l x' f' ∧ Told (listC l (x, f)) (L.map chOf) x' f') := by
  have hx := Rd.le h
  have HLP : Hid (∀ J, num l 13 x f = J → listC l (x, f) = changesR l J.1 J.2) := fun J e => by subst e; rfl
  generalize eJ : num l 13 x f = J
  have hJ : J.1 ≤ 13 ∧ J.2.1 ≤ l.length := by rw [← eJ]; exact num_le hx
  have hJ1 := hJ.1
  have HJ2 : Hid (J.2.1 ≤ l.length) := hJ.2
  have hp := h.lt
  have N0 : Hid (Calls _ _ _ _ _) := num_named h 13 (by omega) J eJ
  rw [HLP.out J eJ]
  clear h eJ hJ hx HLP
  go_enter Try.func70, Try.ntmps70
  go_wp2_with fail
  refine N0.out.mono ?_
  rintro e w1 ⟨rfl, hr⟩
  have HI : Hid (Lr (CRow w.heap.size (.slice none 0 0) []) w w1 p a n cap l J.2.1 J.2.2) := ⟨hr.out.1, hr.out.2, CRow.nil _ _, hp⟩
  clear N0 hr
  go_wp2
  go_loopw [7, 11] (fun t7 t11 wr => ∃ (i : Nat) (v7 : Value), v7 = t7 ∧ t11 = .int .i64 (i : Int) ∧ i ≤ J.1 ∧ Hid (∃ (L : List CZ) (x : Nat) (f : Bool) (s : St), L.length = i ∧ Lr (CRow w.heap.size v7 L) w wr p a n cap l x f ∧ Far l (changesR l J.1 J.2) (L.map chOf) (changesR l (J.1 - i) s) s x f)) (fun _ t11 _ => J.1 - (intOf t11).toNat)
  case atStart => exact ⟨0, _, rfl, rfl, Nat.zero_le _, [], J.2.1, J.2.2, J.2, rfl, HI.out, ⟨HJ2.out, Al.refl _, rfl, fun _ => rfl⟩⟩
  case round =>
    obtain ⟨i, v7, rfl, rfl, hi, HR⟩ := hrel
    clear HI
    obtain ⟨L, x, f, s, hL, hS, hF⟩ := HR.out
    have HS : Hid (Lr _ _ _ _ _ _ _ _ _ _) := hS
    have HF : Hid (Far _ _ _ _ _ _ _) := hF
    have HK : Hid (L.length = i) := hL
    obtain ⟨⟨b0, b1, b2⟩, -⟩ := cells3 hS.rd.box
    by_cases hlt : i < J.1
    · cases f with
      | true =>
        have HT : Hid (Told (changesR l J.1 J.2) (([] : List CZ).map chOf) x true) := hF.stop (fun hb => Rds.bad (changesR_rds l _ s) hF.le hb) x
        have HS2 : Hid (Lr (CRow w.heap.size (.slice none 0 0) []) w wr p a n cap l x true) := ⟨hS.rd, hS.tn, CRow.nil _ _, hS.old⟩
        clear hS hF hL HR b0 b1
        go_wp2
        go_ret
        exact ⟨_, [], x, true, rfl, HS2.out, HT.out⟩
      | false =>
        have HCN : Hid (Calls _ _ _ _ _) := change_any hS.rd
        clear hS hF hL HR b0 b1
        go_wp2_with (first
          | (go_at_call 71; refine HCN.out.mono ?_; rintro e w5 ⟨z, x5, f5, rfl, hr⟩; obtain ⟨hr1, hr2, hr3, hr4, hr5⟩ := hr.out; obtain ⟨a5, m5, c5, w6, hrun5, hown5, o1, o2, o3, o4, hk5⟩ := run_ch (z := z) 23 (HS.out.row.keep (HS.out.rows hr2)) (Nat.le_trans HS.out.tn.size hr2.size) (prf_down hr3 HS.out.tn.size) (by have := HK.out; omega))
          | (at_builtin; refine wpList_known rfl (.tmp 17) (.tmp 20) _ rfl _ _ _ rfl rfl hrun5 ?_))
        have HN : Hid (Lr (CRow w.heap.size (.slice a5 m5 c5) (L ++ [z])) w w6 p a n cap l x5 f5) := HS.out.next ⟨hr1, hr2⟩ o1 o2 o3 o4 hk5 hown5
        have HFN : Hid (Far _ _ _ _ _ _ _) := HF.out.nextC hlt hr4 hr5
        clear hr hr1 hr2 hr3 hr4 hr5 hown5 o1 o2 o3 o4 hk5 hrun5
        go_roundw
        case rel => exact ⟨i + 1, _, rfl, by go_num, by omega, _, _, _, _, by rw [List.length_append, HK.out]; rfl, HN.out, by rw [List.map_append]; exact HFN.out⟩
        case measure => simp [intOf]; omega
    · have ej : J.1 - i = 0 := by omega
      have HT : Hid (Told (changesR l J.1 J.2) (L.map chOf) x f) := hF.told (by rw [ej]; rfl)
      clear hS hF hL HR ej
      go_wp2
      go_ret
      exact ⟨_, L, x, f, rfl, HS.out, HT.out⟩
end Go.Proofs.Ytbcemghkmmbmdaa.Msg
