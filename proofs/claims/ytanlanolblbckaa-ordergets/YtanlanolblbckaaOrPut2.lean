/-
  The contract of Put.
-/
import Derived.Test.YtanlanolblbckaaOrPut
namespace Go.Proofs.Ytanlanolblbckaa.Order
open Go.RowKit Route

/-- Bytes that are being written: so far they are R's, but for the rest. -/
def Pt (R : List UInt8) (W0 wr : World) (a : Option Addr) (m cap : Nat) (rest : List UInt8) : Prop :=
  ∃ xs, R = xs ++ rest ∧ m = xs.length ∧ Buf W0.heap.size (.slice a m cap) xs W0 wr

theorem Pt.bel {R : List UInt8} {W0 wr : World} {a : Option Addr} {m cap : Nat} {rest : List UInt8} (h : Pt R W0 wr a m cap rest) : Below W0.heap.size W0 wr := by
  obtain ⟨xs, _, _, hb⟩ := h; exact hb.2.1
theorem Pt.nil (R : List UInt8) (W0 : World) : Pt R W0 W0 none 0 0 R := ⟨[], rfl, rfl, World.ownsRow_nil _ _ _ _, Below.refl _ _, Nat.le_refl _⟩

theorem own_mono5 {w : World} {B B' : Nat} {v : Value} {n : Nat} {xs : List Value} (h : w.ownsRow B 5 1 v n xs) (hb : B' ≤ B) : w.ownsRow B' 5 1 v n xs :=
  ⟨h.1, h.2.imp id fun ⟨g, cap, cur, h1, h2, h3⟩ => ⟨g, cap, cur, h1, Nat.le_trans hb h2, h3⟩⟩
theorem Buf.wide {W0 W1 w : World} {v : Value} {l : List UInt8} (h : Buf W1.heap.size v l W1 w) (hb : Below W0.heap.size W0 W1) : Buf W0.heap.size v l W0 w :=
  ⟨own_mono5 h.1 hb.size, hb.trans (h.2.1.mono hb.size), Nat.le_trans hb.size h.2.2⟩

theorem Pt.num {R : List UInt8} {W0 wr : World} {a : Option Addr} {m cap n : Nat} {rest : List UInt8} (hR : R.length ≤ 100000) (h : Pt R W0 wr a m cap (digs n ++ rest)) (hn : n < 18446744073709551616) :
    Calls Try.prog 18 #[.slice a m cap, .int .u64 n] wr fun e w' => ∃ a' m' cap', e = .returned (.slice a' m' cap') ∧ Hid (Pt R W0 w' a' m' cap' rest) := by
  obtain ⟨xs, hx, rfl, hb⟩ := h
  obtain ⟨a1, c1, e1, _, _, hl, _, _⟩ := hb.form
  injection e1 with e2 _ e3
  subst e2; subst e3
  have hlen := congrArg List.length hx
  simp only [List.length_append] at hlen
  refine (num_any a xs cap n wr hl (by omega) hn).mono ?_
  rintro e w' ⟨v', rfl, hb'⟩
  have hw := Buf.wide hb' hb.2.1
  obtain ⟨a', c', rfl, _⟩ := hb'.form
  exact ⟨a', _, c', rfl, xs ++ digs n, by rw [hx, List.append_assoc], rfl, own_mono5 hb'.1 hb.2.2, hb.2.1.trans (hb'.2.1.mono hb.2.2), Nat.le_trans hb.2.2 hb'.2.2⟩

theorem Pt.text {R : List UInt8} {W0 wr : World} {a : Option Addr} {m cap : Nat} {s : ByteArray} {rest : List UInt8} (hR : R.length ≤ 100000) (h : Pt R W0 wr a m cap (txt s ++ rest)) :
    Calls Try.prog 19 #[.slice a m cap, .string s] wr fun e w' => ∃ a' m' cap', e = .returned (.slice a' m' cap') ∧ Hid (Pt R W0 w' a' m' cap' rest) := by
  obtain ⟨xs, hx, rfl, hb⟩ := h
  obtain ⟨a1, c1, e1, _, _, hl, _, _⟩ := hb.form
  injection e1 with e2 _ e3
  subst e2; subst e3
  have hlen := congrArg List.length hx
  have hz : s.data.toList.length = s.size := by simp
  simp only [List.length_append, txt, hz] at hlen
  refine (text_any a xs cap s wr hl (by omega) (by omega)).mono ?_
  rintro e w' ⟨v', rfl, hb'⟩
  obtain ⟨a', c', rfl, _⟩ := hb'.form
  exact ⟨a', _, c', rfl, xs ++ digs s.size ++ s.data.toList, by rw [hx, txt]; simp, rfl, own_mono5 hb'.1 hb.2.2, hb.2.1.trans (hb'.2.1.mono hb.2.2), Nat.le_trans hb.2.2 hb'.2.2⟩

theorem Pt.done {R : List UInt8} {w W0 wr : World} {a : Option Addr} {m cap : Nat} (h : Pt R W0 wr a m cap []) (hb : Below w.heap.size w W0) : Buf w.heap.size (.slice a m cap) R w wr := by
  obtain ⟨xs, hx, rfl, hb'⟩ := h
  rw [List.append_nil] at hx
  subst hx
  exact Buf.wide hb' hb

def nums : List Nat → List UInt8
  | [] => []
  | n :: r => digs n ++ nums r
def four' (r : Rq) : List Nat := [r.c.toNat, r.t.toNat, r.k.toNat, r.n.toNat]
theorem enc_eq (r : Rq) : enc r = nums (four' r) ++ (txt r.nm ++ (txt r.pt ++ (digs r.ks.length ++ txts r.ks))) := by simp [enc, nums, four']

theorem nums_drop {l : List Nat} {j : Nat} (h : j < l.length) : nums (l.drop j) = digs (l.getD j 0) ++ nums (l.drop (j + 1)) := by
  rw [List.drop_eq_getElem_cons h, nums]; simp [List.getD_eq_getElem?_getD, List.getElem?_eq_getElem h]
theorem txts_drop {l : List ByteArray} {j : Nat} (h : j < l.length) : txts (l.drop j) = txt (l.getD j ByteArray.empty) ++ txts (l.drop (j + 1)) := by
  rw [List.drop_eq_getElem_cons h, txts]; simp [List.getD_eq_getElem?_getD, List.getElem?_eq_getElem h]

theorem seven {w : World} {b : Nat} {x0 x1 x2 x3 x4 x5 x6 : Value} {T : TypeId} (h : w.heap[b]? = some (.cells #[x0, x1, x2, x3, x4, x5, x6] T (0, 0))) :
    w.cell? ⟨b, 0, none⟩ = some x0 ∧ w.cell? ⟨b, 1, none⟩ = some x1 ∧ w.cell? ⟨b, 2, none⟩ = some x2 ∧ w.cell? ⟨b, 3, none⟩ = some x3 ∧ w.cell? ⟨b, 4, none⟩ = some x4 ∧ w.cell? ⟨b, 5, none⟩ = some x5 ∧ w.cell? ⟨b, 6, none⟩ = some x6 := by
  simp [World.cell?, h]

set_option maxHeartbeats 1000000 in
theorem put_no (r : Rq) (a : Option Addr) (kn cap : Nat) (w : World) (hnm : r.nm.size ≤ 100000) (hpt : r.pt.size ≤ 100000) (hk : KeysAt w a kn cap r.ks) (hm : may r = false) :
    Calls Try.prog 11 #[.agg (rv r a kn cap)] w fun e w' => e = .returned (.tuple #[.slice none 0 0, .iface 36 (.int .i64 1)]) ∧ Below w.heap.size w w' := by
  have HM : Hid (∀ w', Below w.heap.size w w' → Calls Try.prog 17 #[.agg (rv r a kn cap)] w' fun e w2 => e = .returned (.bool false) ∧ Below w'.heap.size w' w2) :=
    fun w' hb => by rw [← hm]; exact mayBe_any r a kn cap w' hnm hpt (hk.below hb)
  have HW : Hid (Below w.heap.size w (w.alloc (.cells (rv r a kn cap) 26))) := (Below.refl _ _).alloc (Nat.le_refl _) _
  clear hnm hpt hk hm
  go_enter Try.func11, Try.ntmps11
  go_wp2_with fail
  refine (HM.out _ HW.out).mono ?_
  rintro e w1 ⟨rfl, hb⟩
  go_wp2
  go_ret2
  exact ⟨rfl, HW.out.trans (hb.mono HW.out.size)⟩

set_option maxHeartbeats 4000000 in
set_option maxRecDepth 100000 in
theorem put_ok (r : Rq) (a : Option Addr) (kn cap : Nat) (w : World) (hk : KeysAt w a kn cap r.ks) (hm : may r = true) :
    Calls Try.prog 11 #[.agg (rv r a kn cap)] w fun e w' => ∃ v, e = .returned (.tuple #[v, .nilIface]) ∧ Buf w.heap.size v (enc r) w w' := by
  have o := may_ok hm
  have HM : Hid (∀ w', Below w.heap.size w w' → Calls Try.prog 17 #[.agg (rv r a kn cap)] w' fun e w2 => e = .returned (.bool true) ∧ Below w'.heap.size w' w2) :=
    fun w' hb => by rw [← hm]; exact mayBe_any r a kn cap w' (by have := o.nm; omega) (by have := o.pt; omega) (hk.below hb)
  have HE : Hid (enc r = nums (four' r) ++ (txt r.nm ++ (txt r.pt ++ (digs r.ks.length ++ txts r.ks)))) := enc_eq r
  have HR : Hid ((enc r).length ≤ 100000) := by have := enc_len hm; show _ ≤ _; omega
  obtain ⟨c, t, k, n, nm, pt, ks⟩ := r
  have o1 := o.c
  have o2 := o.t
  have o3 := o.k
  have o4 := o.n
  have o5 := o.kl
  simp only at o1 o2 o3 o4 o5
  have HF : Hid (∀ j, j < 4 → ((four' ⟨c, t, k, n, nm, pt, ks⟩).getD j 0 ≤ 1000)) := fun j hj => by
    rcases (by omega : j = 0 ∨ j = 1 ∨ j = 2 ∨ j = 3) with rfl | rfl | rfl | rfl <;> simp [four'] <;> omega
  have HC : Hid (∀ (W : World) (b : Nat), W.heap[b]? = some (.cells #[.int .i64 c, .int .i64 t, .int .i64 k, .int .i64 n] 3 (0, 0)) → ∀ j, j < 4 → W.cell? ⟨b, j, none⟩ = some (.int .i64 (((four' ⟨c, t, k, n, nm, pt, ks⟩).getD j 0 : Nat) : Int))) := fun W b h j hj => by
    obtain ⟨h0, h1, h2, h3⟩ := four h
    rcases (by omega : j = 0 ∨ j = 1 ∨ j = 2 ∨ j = 3) with rfl | rfl | rfl | rfl
    · rw [h0]; simp [four']; omega
    · rw [h1]; simp [four']; omega
    · rw [h2]; simp [four']; omega
    · rw [h3]; simp [four']; omega
  have HL4 : Hid ((four' ⟨c, t, k, n, nm, pt, ks⟩).length = 4) := rfl
  have HK : Hid (KeysAt w a kn cap ks) := hk
  have hkn : kn ≤ 16 := by rw [hk.len]; exact o5
  generalize four' ⟨c, t, k, n, nm, pt, ks⟩ = fl at *
  generalize enc ⟨c, t, k, n, nm, pt, ks⟩ = R at *
  have HW : Hid (Below w.heap.size w (w.alloc (.cells (rv ⟨c, t, k, n, nm, pt, ks⟩ a kn cap) 26))) := (Below.refl _ _).alloc (Nat.le_refl _) _
  clear hm o hk o1 o2 o3 o4 o5
  show Calls Try.prog 11 #[.agg #[.int .i64 c, .int .i64 t, .int .i64 k, .string nm, .string pt, .slice a kn cap, .int .i64 n]] w _
  go_enter Try.func11, Try.ntmps11
  go_wp2_with fail
  refine (HM.out _ HW.out).mono ?_
  rintro e w1 ⟨rfl, hb1⟩
  have HB1 : Hid (Below w.heap.size w w1) := HW.out.trans (hb1.mono HW.out.size)
  have HX1 : Hid (w1.heap[w.heap.size]? = some (.cells #[.int .i64 c, .int .i64 t, .int .i64 k, .string nm, .string pt, .slice a kn cap, .int .i64 n] 26 (0, 0))) := bcells (heap_alloc_new w _) hb1
  obtain ⟨x0, x1, x2, x3, x4, x5, x6⟩ := seven HX1.out
  clear HM HW hb1
  go_wp2
  obtain ⟨W0, hW0⟩ : ∃ W0, W0 = w1.alloc (.cells #[.int .i64 c, .int .i64 t, .int .i64 k, .int .i64 n] 3) := ⟨_, rfl⟩
  rw [← hW0]
  have HB0 : Hid (Below w.heap.size w W0) := by rw [hW0]; exact HB1.out.alloc HB1.out.size _
  have HX0 : Hid (W0.heap[w.heap.size]? = some (.cells #[.int .i64 c, .int .i64 t, .int .i64 k, .string nm, .string pt, .slice a kn cap, .int .i64 n] 26 (0, 0))) := by
    rw [hW0]; exact (Below.heap_alloc _ _ _ (Array.getElem?_eq_some_iff.1 HX1.out).1).trans HX1.out
  have HY0 : Hid (W0.heap[w1.heap.size]? = some (.cells #[.int .i64 c, .int .i64 t, .int .i64 k, .int .i64 n] 3 (0, 0))) := by rw [hW0]; exact heap_alloc_new w1 _
  have HP0 : Hid (Pt R W0 W0 none 0 0 R) := Pt.nil R W0
  clear x0 x1 x2 x3 x4 x5 x6 HX1 HB1 hW0
  generalize w1.heap.size = bl at *
  clear w1
  go_loopw [4, 25] (fun t4 t25 wr => ∃ (a1 : Option Addr) (m1 c1 j : Nat), t4 = .slice a1 m1 c1 ∧ t25 = .int .i64 (j : Int) ∧ j ≤ 4 ∧ Hid (Pt R W0 wr a1 m1 c1 (nums (fl.drop j) ++ (txt nm ++ (txt pt ++ (digs ks.length ++ txts ks)))))) (fun _ t25 _ => 4 - (intOf t25).toNat)
  case atStart => exact ⟨none, 0, 0, 0, rfl, rfl, by omega, by rw [List.drop_zero, ← HE.out]; exact HP0⟩
  case round =>
    obtain ⟨a1, m1, c1, j, rfl, rfl, hj, HP⟩ := hrel
    clear HP0
    by_cases hlt : j < 4
    · have hcell := HC.out wr bl (bcells HY0.out HP.out.bel) j hlt
      have hf := HF.out j hlt
      have hnd := nums_drop (l := fl) (j := j) (by rw [HL4.out]; exact hlt)
      obtain ⟨x, hx⟩ : ∃ x, x = fl.getD j 0 := ⟨_, rfl⟩
      rw [← hx] at hcell hf hnd
      have HN := Pt.num (rest := nums (fl.drop (j + 1)) ++ (txt nm ++ (txt pt ++ (digs ks.length ++ txts ks)))) HR.out (by rw [← List.append_assoc, ← hnd]; exact HP.out) (n := x) (by omega)
      have HN' : Hid (Calls _ _ _ _ _) := HN
      clear HN hnd hx
      go_wp2_with fail
      refine HN'.out.mono ?_
      rintro e w2 ⟨a2, m2, c2, rfl, HP2⟩
      clear HP HN' hcell
      go_wp2
      go_roundw
      case rel => exact ⟨a2, m2, c2, j + 1, rfl, by go_num, by omega, HP2⟩
      case measure => simp [intOf]; omega
    · have e4 : j = 4 := by omega
      have hd : fl.drop j = [] := List.drop_eq_nil_of_le (by rw [HL4.out]; omega)
      rw [hd] at HP
      have HP1 : Hid (Pt R W0 wr a1 m1 c1 (txt nm ++ (txt pt ++ (digs ks.length ++ txts ks)))) := HP.out
      have HN1 : Hid (Calls _ _ _ _ _) := Pt.text HR.out HP1.out
      obtain ⟨x0, x1, x2, x3, x4, x5, x6⟩ := seven (bcells HX0.out HP1.out.bel)
      clear HP hd hlt HP1
      go_wp2_with fail
      refine HN1.out.mono ?_
      rintro e w2 ⟨a2, m2, c2, rfl, HP2⟩
      have HN2 : Hid (Calls _ _ _ _ _) := Pt.text HR.out HP2.out
      clear x0 x1 x2 x3 x4 x5 x6 HN1
      obtain ⟨x0, x1, x2, x3, x4, x5, x6⟩ := seven (bcells HX0.out HP2.out.bel)
      go_wp2_with fail
      refine HN2.out.mono ?_
      rintro e w3 ⟨a3, m3, c3, rfl, HP3⟩
      have HN3 : Hid (Calls Try.prog 18 #[.slice a3 m3 c3, .int .u64 (kn : Int)] w3 fun e w' => ∃ a' m' cap', e = .returned (.slice a' m' cap') ∧ Hid (Pt R W0 w' a' m' cap' (txts ks))) := by
        have := Pt.num HR.out HP3.out (by have := HK.out.len; omega)
        rw [← HK.out.len] at this
        exact this
      clear x0 x1 x2 x3 x4 x5 x6 HN2 HP2
      obtain ⟨x0, x1, x2, x3, x4, x5, x6⟩ := seven (bcells HX0.out HP3.out.bel)
      go_wp2_with fail
      refine HN3.out.mono ?_
      rintro e w4 ⟨a4, m4, c4, rfl, HP4⟩
      clear x0 x1 x2 x3 x4 x5 x6 HN3 HP3
      obtain ⟨x0, x1, x2, x3, x4, x5, x6⟩ := seven (bcells HX0.out HP4.out.bel)
      go_wp2
      go_loopw [4, 55] (fun t4 t55 wq => ∃ (a1 : Option Addr) (m1 c1 j : Nat), t4 = .slice a1 m1 c1 ∧ t55 = .int .i64 (j : Int) ∧ j ≤ kn ∧ Hid (Pt R W0 wq a1 m1 c1 (txts (ks.drop j)))) (fun _ t55 _ => kn - (intOf t55).toNat)
      case atStart => exact ⟨a4, m4, c4, 0, rfl, rfl, Nat.zero_le _, by rw [List.drop_zero]; exact HP4⟩
      case round =>
        obtain ⟨a5, m5, c5, i, rfl, rfl, hi, HP⟩ := hrel
        clear HP4 x0 x1 x2 x3 x4 x5 x6
        by_cases hik : i < kn
        · have hil : i < ks.length := by rw [← HK.out.len]; exact hik
          obtain ⟨b, off, rfl, hc⟩ := HK.out.lies.at (by omega)
          have hcell := cell_later (HB0.out.trans (HP.out.bel.mono HB0.out.size)) (hc i hil)
          have htd := txts_drop hil
          obtain ⟨s, hs⟩ : ∃ s, s = ks.getD i ByteArray.empty := ⟨_, rfl⟩
          rw [← hs] at hcell htd
          have HN : Hid (Calls _ _ _ _ _) := Pt.text HR.out (by rw [← htd]; exact HP.out)
          clear hs htd hil hc
          go_wp2_with fail
          refine HN.out.mono ?_
          rintro e w2 ⟨a6, m6, c6, rfl, HP6⟩
          go_wp2
          go_roundw
          case rel => exact ⟨a6, m6, c6, i + 1, rfl, by go_num, by omega, HP6⟩
          case measure => simp [intOf]; omega
        · have hd : ks.drop i = [] := List.drop_eq_nil_of_le (by rw [← HK.out.len]; omega)
          rw [hd] at HP
          have HP' : Hid (Pt R W0 wr a5 m5 c5 []) := HP
          clear HP hd
          go_wp2
          go_ret2
          exact ⟨_, rfl, HP'.out.done HB0.out⟩
end Go.Proofs.Ytanlanolblbckaa.Order
