/-
  May a snapshot stand behind those that are there: isName, areEntries, mayTake.
-/
import Derived.Test.YtlpgdfdadkljfaaCtSame
namespace Go.Proofs.Ytlpgdfdadkljfaa.Cat
open Go.RowKit Route Tree Order

/-- The catalog's 'isName'. -/
theorem cname_any (s : ByteArray) (w : World) (hs : s.size ≤ 100000) : Calls Try.prog 38 #[.string s] w fun e w' => e = .returned (.bool (isPart s)) ∧ Below w.heap.size w w' := by
  have q1 := eqNil
  have q2 := eqFormNil
  rw [← name_iff]
  cases hp : isPath s with
  | false =>
    rw [Bool.false_and]
    go_enter Try.func38, Try.ntmps38
    go_wp2_with (go_at_call 52; refine (parts_no s w hs hp).mono ?_; rintro e w1 ⟨rfl, hb⟩)
    go_ret
    exact ⟨rfl, hb⟩
  | true =>
    rw [Bool.true_and]
    have HC : Hid (Calls _ _ _ _ _) := parts_ok s w hs hp
    obtain ⟨n, hn⟩ : ∃ n, n = (parts s).length := ⟨_, rfl⟩
    have HN : Hid (n = (parts s).length) := hn
    rw [← hn]
    clear hn
    have hn8 : n ≤ 8 := by rw [HN.out]; exact (path_len hp).2
    by_cases h1 : n = 1
    · rw [decide_eq_true h1]
      subst h1
      go_enter Try.func38, Try.ntmps38
      go_wp2_with fail
      refine HC.out.mono ?_
      rintro e w1 ⟨v, rfl, hb⟩
      obtain ⟨a, cap, rfl, _, _, _⟩ := hb.liesN HN.out
      go_wp2
      go_ret
      exact ⟨rfl, hb.2.1⟩
    · rw [decide_eq_false h1]
      have h1' : ((n : Int) == 1) = false := by simp; omega
      go_enter Try.func38, Try.ntmps38
      go_wp2_with fail
      refine HC.out.mono ?_
      rintro e w1 ⟨v, rfl, hb⟩
      obtain ⟨a, cap, rfl, _, _, _⟩ := hb.liesN HN.out
      go_wp2
      go_ret
      exact ⟨rfl, hb.2.1⟩

/-- Has an entry more chunks than may be? -/
def fat (e : Ent) : Bool := decide (16 < e.2.2.length)
/-- May a snapshot have these entries? -/
def entsB (E : List Ent) : Bool := decide ((checkAns E).1 = 0) && !(E.any fat)
theorem entsB_iff {E : List Ent} : entsB E = true ↔ isTree E ∧ ∀ e ∈ E, e.2.2.length ≤ 16 := by
  simp only [entsB, Bool.and_eq_true, decide_eq_true_eq, checkAns_tree, Bool.not_eq_true', List.any_eq_false, fat]
  constructor
  · exact fun h => ⟨h.1, fun e he => by have := h.2 e he; omega⟩
  · exact fun h => ⟨h.1, fun e he => by have := h.2 e he; omega⟩

set_option maxHeartbeats 1000000 in
theorem predE_any (p : ByteArray) (sz : Int) (ka : Option Addr) (kn kc : Nat) (ks : List ByteArray) (w : World) (hkn : kn = ks.length) :
    Calls Try.prog 57 #[.agg #[.string p, .int .i64 sz, .slice ka kn kc]] w fun e w' => e = .returned (.bool (fat (p, sz, ks))) ∧ Below w.heap.size w w' := by
  have HB : Hid (Below w.heap.size w (w.alloc (.cells #[.string p, .int .i64 sz, .slice ka kn kc] 57))) := (Below.refl _ _).alloc (Nat.le_refl _) _
  have HE : Hid (fat (p, sz, ks) = decide (16 < kn)) := by show decide (16 < ks.length) = _; rw [hkn]
  rw [HE.out]
  clear hkn
  by_cases h : 16 < kn
  · rw [decide_eq_true h]
    go_enter Try.func57, Try.ntmps57
    go_wp2
    go_ret
    exact ⟨by first | rfl | (simp; omega), HB.out⟩
  · rw [decide_eq_false h]
    go_enter Try.func57, Try.ntmps57
    go_wp2
    go_ret
    exact ⟨by first | rfl | (simp; omega), HB.out⟩

set_option maxHeartbeats 4000000 in
set_option maxRecDepth 100000 in
theorem indexE_any (a : Option Addr) (n cap : Nat) (E : List Ent) (w : World) (hnl : n = E.length) (hl : LiesE w a E) (hm : n ≤ 9223372036854775807) :
    Calls Try.prog 70 #[.slice a n cap, .func (.func 57) #[] #[]] w fun e w' => (∃ i : Int, e = .returned (.int .i64 i) ∧ decide (0 ≤ i) = E.any fat) ∧ Below w.heap.size w w' := by
  have HN : Hid (n = E.length) := hnl
  have HL : Hid (LiesE w a E) := hl
  clear hnl hl
  go_enter Try.func70, Try.ntmps70
  go_wp2
  go_loopw [5, 8] (fun _ t8 wr => ∃ i : Nat, t8 = .int .i64 (i : Int) ∧ i ≤ n ∧ Hid (Below w.heap.size w wr) ∧ Hid (∀ j, j < i → fat (entOf E j) = false)) (fun _ t8 _ => n - (intOf t8).toNat)
  case atStart => exact ⟨0, rfl, Nat.zero_le _, Below.refl _ _, fun j hj => by omega⟩
  case round =>
    obtain ⟨i, rfl, hi, HB, HI⟩ := hrel
    by_cases hin : i < n
    · obtain ⟨x, hx, g0, g1, ka, kc, g2, _⟩ := (HL.out.below HB.out (Nat.le_refl _)).at (j := i) (by rw [← HN.out]; exact hin)
      subst hx
      have HMEM : Hid (entOf E i ∈ E) := by show entOf E i ∈ E; simp [entOf, List.getD_eq_getElem?_getD, show i < E.length by rw [← HN.out]; exact hin]
      generalize he : entOf E i = en at g0 g1 g2 HMEM
      have HE : Hid (entOf E i = en) := he
      obtain ⟨p, sz, ks⟩ := en
      simp only at g0 g1 g2
      have hcl : Hid (Calls _ _ _ _ _) := predE_any p sz ka ks.length kc ks wr rfl
      generalize ks.length = kn at g2 hcl
      have hix := index_ent x n cap i hin
      generalize x.add (i * 3) = q at g0 g1 g2 hix
      clear he
      go_wp2_with fail
      refine hcl.out.mono ?_
      rintro e w2 ⟨rfl, hb2⟩
      have HB2 : Hid (Below w.heap.size w w2) := HB.out.trans (hb2.mono HB.out.size)
      clear hb2 hcl hix g0 g1 g2
      cases ho : fat (p, sz, ks) with
      | true =>
        have HH : Hid (decide (0 ≤ (i : Int)) = E.any fat) := by
          show decide (0 ≤ (i : Int)) = E.any fat
          rw [List.any_eq_true.2 ⟨_, HMEM.out, ho⟩, decide_eq_true (by omega)]
        clear ho
        go_wp2
        go_ret
        exact ⟨⟨_, rfl, HH.out⟩, HB2.out⟩
      | false =>
        have HI2 : Hid (∀ j, j < i + 1 → fat (entOf E j) = false) := by
          intro j hj
          by_cases e : j = i
          · subst e; rw [HE.out]; exact ho
          · exact HI.out j (by omega)
        clear ho
        go_wp2
        go_roundw
        case rel => exact ⟨i + 1, by go_num, by omega, HB2, HI2⟩
        case measure => simp [intOf]; omega
    · have HH : Hid (decide (0 ≤ (-1 : Int)) = E.any fat) := by
        show decide (0 ≤ (-1 : Int)) = E.any fat
        have hf : E.any fat = false := by
          rw [List.any_eq_false]
          intro e he
          obtain ⟨j, hj, rfl⟩ := List.mem_iff_getElem.1 he
          have := HI.out j (by rw [← HN.out] at hj; omega)
          rw [ent_get hj] at this
          simp [this]
        rw [hf]; rfl
      go_wp2
      go_ret
      exact ⟨⟨_, rfl, HH.out⟩, HB.out⟩

set_option maxHeartbeats 1000000 in
theorem containsE_any (a : Option Addr) (n cap : Nat) (E : List Ent) (w : World) (hnl : n = E.length) (hl : LiesE w a E) (hm : n ≤ 9223372036854775807) :
    Calls Try.prog 56 #[.slice a n cap, .func (.func 57) #[] #[]] w fun e w' => e = .returned (.bool (E.any fat)) ∧ Below w.heap.size w w' := by
  have HC : Hid (Calls _ _ _ _ _) := indexE_any a n cap E w hnl hl hm
  clear hnl hl hm
  generalize E.any fat = b at HC ⊢
  go_enter Try.func56, Try.ntmps56
  go_wp2_with fail
  refine HC.out.mono ?_
  rintro e w1 ⟨⟨i, rfl, hi⟩, hb⟩
  clear HC
  by_cases h : 0 ≤ i
  · have hb' : b = true := by rw [← hi, decide_eq_true h]
    subst hb'
    clear hi
    go_wp2
    go_ret
    exact ⟨by first | rfl | (simp; omega), hb⟩
  · have hb' : b = false := by rw [← hi, decide_eq_false h]
    subst hb'
    clear hi
    go_wp2
    go_ret
    exact ⟨by first | rfl | (simp; omega), hb⟩

theorem neCode (c : Int) (w : World) : (binOp .neq 27 (.iface 36 (.int .i64 c)) .nilIface).run Try.prog w = .ok (.bool true) w := by kernel_rfl
theorem neSpot (a : Addr) (w : World) : (binOp .neq 27 (.iface 112 (.pointer (some a))) .nilIface).run Try.prog w = .ok (.bool true) w := by kernel_rfl

set_option maxHeartbeats 1000000 in
set_option maxRecDepth 100000 in
theorem areEntries_any (a : Option Addr) (n cap : Nat) (E : List Ent) (w : World) (hl : EntsOk n E) (hl0 : LiesE w a E) (hc : n ≤ cap) :
    Calls Try.prog 41 #[.slice a n cap] w fun e w' => e = .returned (.bool (entsB E)) ∧ Below w.heap.size w w' := by
  have HC : Hid (Calls _ _ _ _ _) := check_ans a n cap E w hl hl0 hc
  have HF : Hid (∀ W, Below w.heap.size w W → Calls Try.prog 56 #[.slice a n cap, .func (.func 57) #[] #[]] W fun e w' => e = .returned (.bool (E.any fat)) ∧ Below W.heap.size W w') := fun W hb => containsE_any a n cap E W hl.1 (hl0.below hb (Nat.le_refl _)) (by have := hl.2.1; omega)
  have q1 := neNil
  clear hl hl0 hc
  cases hz : decide ((checkAns E).1 = 0) with
  | true =>
    have hz' : (checkAns E).1 = 0 := by simpa using hz
    have he : entsB E = !(E.any fat) := by rw [entsB, hz, Bool.true_and]
    rw [he]
    generalize E.any fat = b at HF
    clear he
    go_enter Try.func41, Try.ntmps41
    go_wp2_with fail
    refine HC.out.mono ?_
    rintro e w1 ⟨⟨v, rfl, hv⟩, hb⟩
    have hv' : v = .nilIface := by
      rcases hv with ⟨_, _, h⟩ | ⟨h, _⟩ | ⟨h, _⟩
      · exact h
      · exact absurd hz' h
      · exact absurd hz' h
    subst hv'
    have HB : Hid (Below w.heap.size w w1) := hb
    clear hv hz hz' HC hb
    go_wp2_with fail
    refine (HF.out w1 HB.out).mono ?_
    rintro e w2 ⟨rfl, hb2⟩
    have HB2 : Hid (Below w.heap.size w w2) := HB.out.trans (hb2.mono HB.out.size)
    clear hb2
    go_wp2
    go_ret
    exact ⟨rfl, HB2.out⟩
  | false =>
    have hz' : (checkAns E).1 ≠ 0 := by simpa using hz
    have he : entsB E = false := by rw [entsB, hz, Bool.false_and]
    rw [he]
    clear he HF
    go_enter Try.func41, Try.ntmps41
    go_wp2_with fail
    refine HC.out.mono ?_
    rintro e w1 ⟨⟨v, rfl, hv⟩, hb⟩
    have HB : Hid (Below w.heap.size w w1) := hb
    have q2 := neCode
    have q3 := neSpot
    rcases hv with ⟨h, _⟩ | ⟨_, _, h⟩ | ⟨_, i, g, _, h, _⟩
    · exact absurd h hz'
    · subst h
      generalize (checkAns E).1 = cc at *
      clear hz hz' HC hb
      go_wp2
      go_ret
      exact ⟨rfl, HB.out⟩
    · subst h
      clear hz hz' HC hb
      go_wp2
      go_ret
      exact ⟨rfl, HB.out⟩

/-- May a snapshot stand behind those that are there? -/
def takes (T : List Snap) (s : Snap) : Bool := decide (0 ≤ s.1 ∧ s.1 ≤ 7) && isPart s.2.1 && decide (count s.1 T < 8) && !(place s.1 s.2.1 T).isSome && entsB s.2.2.2

/-- What is asked of a snapshot that is handed in. -/
def SGiven (s : Snap) : Prop := s.2.1.size ≤ 100000 ∧ EntsOk s.2.2.2.length s.2.2.2

theorem placeI_neg {c : Int} {nm : ByteArray} {S : List Snap} : decide (0 ≤ placeI c nm S) = (place c nm S).isSome := by
  unfold placeI
  cases place c nm S with
  | none => rfl
  | some i => simp

set_option maxHeartbeats 4000000 in
set_option maxRecDepth 100000 in
theorem mayTake_any (p : Nat) (a : Option Addr) (n cap : Nat) (T : List Snap) (c : Int) (nm : ByteArray) (d : Bool) (ea : Option Addr) (en ec : Nat) (E : List Ent) (w : World) (h : See p a n cap T w) (hnm : nm.size ≤ 100000) (hE : EntsOk en E) (hl : LiesE w ea E) (hec : en ≤ ec) :
    Calls Try.prog 23 #[.pointer (some ⟨p, 0, none⟩), .agg #[.int .i64 c, .string nm, .bool d, .slice ea en ec]] w fun e w' => e = .returned (.bool (takes T (c, nm, d, E))) ∧ Below w.heap.size w w' := by
  have HW : Hid (Below w.heap.size w (w.alloc (.cells #[.int .i64 c, .string nm, .bool d, .slice ea en ec] 52))) := (Below.refl _ _).alloc (Nat.le_refl _) _
  have H1 : Hid (∀ W, Calls Try.prog 38 #[.string nm] W fun e w' => e = .returned (.bool (isPart nm)) ∧ Below W.heap.size W w') := fun W => cname_any nm W hnm
  have H2 : Hid (∀ W, Below w.heap.size w W → Calls Try.prog 39 #[.pointer (some ⟨p, 0, none⟩), .int .i64 c] W fun e w' => e = .returned (.int .i64 (count c T : Nat)) ∧ Below W.heap.size W w') := fun W hb => count_any p a n cap T c W (h.below hb (Nat.le_refl _))
  have H3 : Hid (∀ W, Below w.heap.size w W → Calls Try.prog 40 #[.pointer (some ⟨p, 0, none⟩), .int .i64 c, .string nm] W fun e w' => e = .returned (.int .i64 (placeI c nm T)) ∧ Below W.heap.size W w') := fun W hb => place_any p a n cap T c nm W (h.below hb (Nat.le_refl _))
  have H4 : Hid (∀ W, Below w.heap.size w W → Calls Try.prog 41 #[.slice ea en ec] W fun e w' => e = .returned (.bool (entsB E)) ∧ Below W.heap.size W w') := fun W hb => areEntries_any ea en ec E W hE (hl.below hb (Nat.le_refl _)) hec
  have HX : Hid (∀ W, Below (w.alloc (.cells #[.int .i64 c, .string nm, .bool d, .slice ea en ec] 52)).heap.size (w.alloc (.cells #[.int .i64 c, .string nm, .bool d, .slice ea en ec] 52)) W → (W.cell? ⟨w.heap.size, 0, none⟩ = some (.int .i64 c) ∧ W.cell? ⟨w.heap.size, 1, none⟩ = some (.string nm) ∧ W.cell? ⟨w.heap.size, 3, none⟩ = some (.slice ea en ec)) ∧ Below w.heap.size w W) := fun W hb =>
    ⟨⟨cell_kept hb (by simp), cell_kept hb (by simp), cell_kept hb (by simp)⟩, HW.out.trans (hb.mono HW.out.size)⟩
  have HR : Hid (takes T (c, nm, d, E) = (decide (0 ≤ c ∧ c ≤ 7) && isPart nm && decide (count c T < 8) && !(decide (0 ≤ placeI c nm T)) && entsB E)) := by rw [placeI_neg]; rfl
  obtain ⟨r, hr⟩ : ∃ r, r = takes T (c, nm, d, E) := ⟨_, rfl⟩
  rw [← hr]
  rw [HR.out] at hr
  have HRR : Hid (r = _) := hr
  clear hr HR h hnm hE hl hec
  generalize count c T = m at H2 HRR
  generalize placeI c nm T = pl at H3 HRR
  generalize entsB E = eb at H4 HRR
  generalize isPart nm = ib at H1 HRR
  by_cases hc0 : c < 0
  · have HF : Hid (r = false) := by show r = false; rw [HRR.out, decide_eq_false (show ¬ (0 ≤ c ∧ c ≤ 7) by omega)]; simp
    clear HRR
    obtain rfl : r = false := HF.out
    clear HF
    go_enter Try.func23, Try.ntmps23
    go_wp2
    go_ret
    exact ⟨rfl, HW.out⟩
  by_cases hc7 : 8 ≤ c
  · have HF : Hid (r = false) := by show r = false; rw [HRR.out, decide_eq_false (show ¬ (0 ≤ c ∧ c ≤ 7) by omega)]; simp
    clear HRR
    obtain rfl : r = false := HF.out
    clear HF
    go_enter Try.func23, Try.ntmps23
    go_wp2
    go_ret
    exact ⟨rfl, HW.out⟩
  cases ib
  · have HF : Hid (r = false) := by show r = _; rw [HRR.out]; simp
    clear HRR
    obtain rfl : r = false := HF.out
    clear HF
    go_enter Try.func23, Try.ntmps23
    go_wp2_with fail
    refine (H1.out _).mono ?_
    rintro e w1 ⟨rfl, hb1⟩
    have HB1 : Hid (Below w.heap.size w w1) := (HX.out w1 hb1).2
    clear hb1
    go_wp2
    go_ret
    exact ⟨rfl, HB1.out⟩
  go_enter Try.func23, Try.ntmps23
  go_wp2_with fail
  refine (H1.out _).mono ?_
  rintro e w1 ⟨rfl, hb1⟩
  have HY1 : Hid (Below _ _ w1) := hb1
  obtain ⟨⟨x0, x1, x3⟩, _⟩ := HX.out w1 HY1.out
  clear hb1
  go_wp2_with fail
  refine (H2.out _ (HX.out w1 HY1.out).2).mono ?_
  rintro e w2 ⟨rfl, hb2⟩
  have HY2 : Hid (Below _ _ w2) := HY1.out.trans (hb2.mono HY1.out.size)
  clear hb2 x0 x1 x3
  obtain ⟨⟨x0, x1, x3⟩, _⟩ := HX.out w2 HY2.out
  by_cases hm : 8 ≤ m
  · have HF : Hid (r = false) := by show r = _; rw [HRR.out, decide_eq_false (show ¬ m < 8 by omega)]; simp
    have HB2 : Hid (Below w.heap.size w w2) := (HX.out w2 HY2.out).2
    clear HRR
    obtain rfl : r = false := HF.out
    clear HF
    go_wp2
    go_ret
    exact ⟨rfl, HB2.out⟩
  go_wp2_with fail
  refine (H3.out _ (HX.out w2 HY2.out).2).mono ?_
  rintro e w3 ⟨rfl, hb3⟩
  have HY3 : Hid (Below _ _ w3) := HY2.out.trans (hb3.mono HY2.out.size)
  clear hb3 x0 x1 x3
  obtain ⟨⟨x0, x1, x3⟩, _⟩ := HX.out w3 HY3.out
  by_cases hpl : 0 ≤ pl
  · have HF : Hid (r = false) := by show r = _; rw [HRR.out, decide_eq_true hpl]; simp
    have HB3 : Hid (Below w.heap.size w w3) := (HX.out w3 HY3.out).2
    clear HRR
    obtain rfl : r = false := HF.out
    clear HF
    go_wp2
    go_ret
    exact ⟨rfl, HB3.out⟩
  have HF : Hid (r = eb) := by show r = _; rw [HRR.out, decide_eq_false hpl, decide_eq_true (show m < 8 by omega), decide_eq_true (show 0 ≤ c ∧ c ≤ 7 by omega)]; simp
  have HB3 : Hid (Below w.heap.size w w3) := (HX.out w3 HY3.out).2
  clear HRR
  obtain rfl : r = eb := HF.out
  clear HF
  go_wp2_with fail
  refine (H4.out _ HB3.out).mono ?_
  rintro e w4 ⟨rfl, hb4⟩
  have HB4 : Hid (Below w.heap.size w w4) := HB3.out.trans (hb4.mono HB3.out.size)
  clear hb4
  go_wp2
  go_ret
  exact ⟨rfl, HB4.out⟩
end Go.Proofs.Ytlpgdfdadkljfaa.Cat
