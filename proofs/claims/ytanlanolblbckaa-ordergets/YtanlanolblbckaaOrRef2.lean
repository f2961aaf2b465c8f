/-
  The contract of the answer's Put.
-/
import Derived.Test.YtanlanolblbckaaOrPut2
namespace Go.Proofs.Ytanlanolblbckaa.Order
open Go.RowKit Route

theorem own_later5 {w w' : World} {B : Nat} {v : Value} {n : Nat} {xs : List Value} (h : w.ownsRow B 5 1 v n xs) (hb : Below w.heap.size w w') : w'.ownsRow B 5 1 v n xs :=
  ⟨h.1, h.2.imp id fun ⟨g, cap, cur, h1, h2, h3, h4⟩ => ⟨g, cap, cur, h1, h2, (hb.block g (Array.getElem?_eq_some_iff.1 h3).1).trans h3, h4⟩⟩
theorem Pt.later {R : List UInt8} {W0 wr w' : World} {a : Option Addr} {m cap : Nat} {rest : List UInt8} (h : Pt R W0 wr a m cap rest) (hb : Below wr.heap.size wr w') : Pt R W0 w' a m cap rest := by
  obtain ⟨xs, h1, h2, h3⟩ := h
  exact ⟨xs, h1, h2, own_later5 h3.1 hb, h3.2.1.trans (hb.mono h3.2.2), Nat.le_trans h3.2.2 hb.size⟩

/-- Bytes that lie ready to be appended. -/
def Rdy (R : List UInt8) (W0 w : World) (a : Option Addr) (m cap : Nat) (e rest : List UInt8) (ad : Addr) (k : Nat) : Prop :=
  k = e.length ∧ Lies w (some ad) e ∧ Pt R W0 w a m cap (e ++ rest)

theorem Rdy.of {R : List UInt8} {W0 wr w' : World} {a : Option Addr} {m cap : Nat} {e rest : List UInt8} {v : Value} (h : Pt R W0 wr a m cap (e ++ rest)) (hb : Buf wr.heap.size v e wr w') (h0 : 1 ≤ e.length) :
    ∃ ad k c, v = .slice (some ad) k c ∧ Hid (Rdy R W0 w' a m cap e rest ad k) := by
  obtain ⟨a1, c1, rfl, _, _, hl, hn, _⟩ := hb.form
  cases a1 with
  | none => have := (hn rfl).1; subst this; simp at h0
  | some ad => exact ⟨ad, _, c1, rfl, rfl, hl, h.later hb.2.1⟩

theorem Pt.refNum {R : List UInt8} {W0 wr : World} {a : Option Addr} {m cap n : Nat} {rest : List UInt8} (h : Pt R W0 wr a m cap (digs n ++ rest)) (hn : n < 18446744073709551616) :
    Calls Try.prog 21 #[.int .u64 n] wr fun e w' => ∃ ad k c, e = .returned (.slice (some ad) k c) ∧ Hid (Rdy R W0 w' a m cap (digs n) rest ad k) := by
  refine (refNum_any n wr hn).mono ?_
  rintro e w' ⟨v', rfl, hb'⟩
  obtain ⟨ad, k, c, rfl, hr⟩ := Rdy.of h hb' (digs_pos n)
  exact ⟨ad, k, c, rfl, hr⟩
theorem Pt.refText {R : List UInt8} {W0 wr : World} {a : Option Addr} {m cap : Nat} {s : ByteArray} {rest : List UInt8} (hR : R.length ≤ 100000) (h : Pt R W0 wr a m cap (txt s ++ rest)) :
    Calls Try.prog 22 #[.string s] wr fun e w' => ∃ ad k c, e = .returned (.slice (some ad) k c) ∧ Hid (Rdy R W0 w' a m cap (txt s) rest ad k) := by
  have hlen : s.size ≤ 100000 := by
    obtain ⟨xs, hx, _, _⟩ := h
    have hlen := congrArg List.length hx
    have hz : s.data.toList.length = s.size := by simp
    simp only [List.length_append, txt, hz] at hlen
    omega
  refine (refText_any s wr (by omega)).mono ?_
  rintro e w' ⟨v', rfl, hb'⟩
  obtain ⟨ad, k, c, rfl, hr⟩ := Rdy.of h hb' (by have := digs_pos s.size; unfold txt; rw [List.length_append]; omega)
  exact ⟨ad, k, c, rfl, hr⟩

/-- 'append(out, b...)'. -/
theorem wpList_rdy {ops : Array Oper} {rst : List Oper} {o : Oper} {act : Act} {Q : Exit → Act → World → Prop} {w : World} (hgd : o.guard = none) (sl x : Operand)
    (ho : o.op = .call { callee := .builtin .append, args := #[sl, x], argTypes := #[32, 32] })
    (R : List UInt8) (hR : R.length ≤ 100000) (W0 : World) (a : Option Addr) (m cap : Nat) (e rest : List UInt8) (ad : Addr) (k c : Nat) (hs : act.eval sl = .slice a m cap) (hx : act.eval x = .slice (some ad) k c) (hr : Rdy R W0 w a m cap e rest ad k)
    (h : ∀ a' m' cap' w', Hid (Pt R W0 w' a' m' cap' rest) → wpList Try.prog ops Q rst (act.put o.dst (.slice a' m' cap')) w') : wpList Try.prog ops Q (o :: rst) act w := by
  obtain ⟨rfl, hl, xs, hxs, rfl, hb⟩ := hr
  have hlen := congrArg List.length hxs
  simp only [List.length_append] at hlen
  refine wpList_bytes hgd sl x ho W0.heap.size _ xs hs W0 hb e ad c hx hl (by omega) ?_
  intro v' w' hb'
  obtain ⟨a', c', rfl, _⟩ := hb'.form
  exact h a' _ c' w' ⟨xs ++ e, by rw [hxs, List.append_assoc], rfl, hb'⟩

set_option maxHeartbeats 4000000 in
set_option maxRecDepth 100000 in
theorem refPut_ok (r : Rq) (a : Option Addr) (kn cap : Nat) (w : World) (hk : KeysAt w a kn cap r.ks) (hm : may r = true) :
    Calls Try.prog 13 #[.agg (rv r a kn cap)] w fun e w' => ∃ v, e = .returned v ∧ Buf w.heap.size v (enc r) w w' := by
  have o := may_ok hm
  have HE : Hid (enc r = nums (four' r) ++ (txt r.nm ++ (txt r.pt ++ (digs r.ks.length ++ txts r.ks)))) := enc_eq r
  have HR : Hid ((enc r).length ≤ 100000) := by have := enc_len hm; show _ ≤ _; omega
  obtain ⟨c, t, k, n, nm, pt, ks⟩ := r
  have o1 := o.c
  have o2 := o.t
  have o3 := o.k
  have o4 := o.n
  have o5 := o.kl
  simp only at o1 o2 o3 o4 o5
  have HF : Hid (∀ j, j < 4 → ((four' ⟨c, t, k, n, nm, pt, ks⟩).getD j 0 ≤ 1000)) := fun j hj => by
    rcases (by omega : j = 0 ∨ j = 1 ∨ j = 2 ∨ j = 3) with rfl | rfl | rfl | rfl <;> simp [four'] <;> omega
  have HC : Hid (∀ (W : World) (b : Nat), W.heap[b]? = some (.cells #[.int .i64 c, .int .i64 t, .int .i64 k, .int .i64 n] 3 (0, 0)) → ∀ j, j < 4 → W.cell? ⟨b, j, none⟩ = some (.int .i64 (((four' ⟨c, t, k, n, nm, pt, ks⟩).getD j 0 : Nat) : Int))) := fun W b h j hj => by
    obtain ⟨h0, h1, h2, h3⟩ := four h
    rcases (by omega : j = 0 ∨ j = 1 ∨ j = 2 ∨ j = 3) with rfl | rfl | rfl | rfl
    · rw [h0]; simp [four']; omega
    · rw [h1]; simp [four']; omega
    · rw [h2]; simp [four']; omega
    · rw [h3]; simp [four']; omega
  have HL4 : Hid ((four' ⟨c, t, k, n, nm, pt, ks⟩).length = 4) := rfl
  have HK : Hid (KeysAt w a kn cap ks) := hk
  have hkn : kn ≤ 16 := by rw [hk.len]; exact o5
  generalize four' ⟨c, t, k, n, nm, pt, ks⟩ = fl at *
  generalize enc ⟨c, t, k, n, nm, pt, ks⟩ = R at *
  clear hm o hk o1 o2 o3 o4 o5
  show Calls Try.prog 13 #[.agg #[.int .i64 c, .int .i64 t, .int .i64 k, .string nm, .string pt, .slice a kn cap, .int .i64 n]] w _
  go_enter Try.func13, Try.ntmps13
  go_wp2
  obtain ⟨w1, hw1⟩ : ∃ w1, w1 = w.alloc (.cells #[.int .i64 c, .int .i64 t, .int .i64 k, .string nm, .string pt, .slice a kn cap, .int .i64 n] 26) := ⟨_, rfl⟩
  have hz1 : w1.heap.size = w.heap.size + 1 := by rw [hw1]; simp
  rw [← hw1]
  have HB1 : Hid (Below w.heap.size w w1) := by rw [hw1]; exact (Below.refl _ _).alloc (Nat.le_refl _) _
  have HX1 : Hid (w1.heap[w.heap.size]? = some (.cells #[.int .i64 c, .int .i64 t, .int .i64 k, .string nm, .string pt, .slice a kn cap, .int .i64 n] 26 (0, 0))) := by rw [hw1]; exact heap_alloc_new w _
  obtain ⟨W0, hW0⟩ : ∃ W0, W0 = w1.alloc (.cells #[.int .i64 c, .int .i64 t, .int .i64 k, .int .i64 n] 3) := ⟨_, rfl⟩
  rw [← hW0]
  have HB0 : Hid (Below w.heap.size w W0) := by rw [hW0]; exact HB1.out.alloc HB1.out.size _
  have HX0 : Hid (W0.heap[w.heap.size]? = some (.cells #[.int .i64 c, .int .i64 t, .int .i64 k, .string nm, .string pt, .slice a kn cap, .int .i64 n] 26 (0, 0))) := by
    rw [hW0]; exact (Below.heap_alloc _ _ _ (Array.getElem?_eq_some_iff.1 HX1.out).1).trans HX1.out
  have HY0 : Hid (W0.heap[w.heap.size + 1]? = some (.cells #[.int .i64 c, .int .i64 t, .int .i64 k, .int .i64 n] 3 (0, 0))) := by rw [hW0, ← hz1]; exact heap_alloc_new w1 _
  have HP0 : Hid (Pt R W0 W0 none 0 0 R) := Pt.nil R W0
  clear HX1 HB1 hW0 hw1 hz1
  clear w1
  go_loopw [4, 5] (fun t4 t25 wr => ∃ (a1 : Option Addr) (m1 c1 j : Nat), t4 = .slice a1 m1 c1 ∧ t25 = .int .i64 (j : Int) ∧ j ≤ 4 ∧ Hid (Pt R W0 wr a1 m1 c1 (nums (fl.drop j) ++ (txt nm ++ (txt pt ++ (digs ks.length ++ txts ks)))))) (fun _ t25 _ => 4 - (intOf t25).toNat)
  case atStart => exact ⟨none, 0, 0, 0, rfl, rfl, by omega, by rw [List.drop_zero, ← HE.out]; exact HP0⟩
  case round =>
    obtain ⟨a1, m1, c1, j, rfl, rfl, hj, HP⟩ := hrel
    clear HP0
    by_cases hlt : j < 4
    · have hcell := HC.out wr (w.heap.size + 1) (bcells HY0.out HP.out.bel) j hlt
      have hf := HF.out j hlt
      have hnd := nums_drop (l := fl) (j := j) (by rw [HL4.out]; exact hlt)
      obtain ⟨x, hx⟩ : ∃ x, x = fl.getD j 0 := ⟨_, rfl⟩
      rw [← hx] at hcell hf hnd
      have HN := Pt.refNum (rest := nums (fl.drop (j + 1)) ++ (txt nm ++ (txt pt ++ (digs ks.length ++ txts ks)))) (by rw [← List.append_assoc, ← hnd]; exact HP.out) (n := x) (by omega)
      have HN' : Hid (Calls _ _ _ _ _) := HN
      clear HN hnd hx
      go_wp2_with fail
      refine HN'.out.mono ?_
      rintro e w2 ⟨ad, k2, c2, rfl, HP2⟩
      clear HP HN' hcell
      go_wp2_with (at_builtin; refine wpList_rdy rfl (.tmp 22) (.tmp 28) rfl R HR.out W0 a1 m1 c1 _ _ ad k2 c2 rfl rfl HP2.out ?_; intro a3 m3 c3 w3 HP3)
      clear HP2
      go_wp2
      go_roundw
      case rel => exact ⟨a3, m3, c3, j + 1, rfl, by go_num, by omega, HP3⟩
      case measure => simp [intOf]; omega
    · have e4 : j = 4 := by omega
      have hd : fl.drop j = [] := List.drop_eq_nil_of_le (by rw [HL4.out]; omega)
      rw [hd] at HP
      have HP1 : Hid (Pt R W0 wr a1 m1 c1 (txt nm ++ (txt pt ++ (digs ks.length ++ txts ks)))) := HP.out
      have HN1 : Hid (Calls _ _ _ _ _) := Pt.refText HR.out HP1.out
      obtain ⟨x0, x1, x2, x3, x4, x5, x6⟩ := seven (bcells HX0.out HP1.out.bel)
      clear HP hd hlt HP1
      go_wp2_with fail
      refine HN1.out.mono ?_
      rintro e w2 ⟨ad, k2, c2, rfl, HP2⟩
      clear HN1 x0 x1 x2 x3 x4 x5 x6
      go_wp2_with (at_builtin; refine wpList_rdy rfl (.tmp 30) (.tmp 34) rfl R HR.out W0 a1 m1 c1 _ _ ad k2 c2 rfl rfl HP2.out ?_; intro a3 m3 c3 w3 HP3; obtain ⟨x0, x1, x2, x3, x4, x5, x6⟩ := seven (bcells HX0.out HP3.out.bel))
      have HN2 : Hid (Calls _ _ _ _ _) := Pt.refText HR.out HP3.out
      clear HP2
      go_wp2_with fail
      refine HN2.out.mono ?_
      rintro e w4 ⟨ad4, k4, c4, rfl, HP4⟩
      clear HN2 x0 x1 x2 x3 x4 x5 x6 HP3
      go_wp2_with (at_builtin; refine wpList_rdy rfl (.tmp 36) (.tmp 40) rfl R HR.out W0 a3 m3 c3 _ _ ad4 k4 c4 rfl rfl HP4.out ?_; intro a5 m5 c5 w5 HP5; obtain ⟨x0, x1, x2, x3, x4, x5, x6⟩ := seven (bcells HX0.out HP5.out.bel))
      have HN3 : Hid (Calls Try.prog 21 #[.int .u64 (kn : Int)] w5 fun e w' => ∃ ad k c, e = .returned (.slice (some ad) k c) ∧ Hid (Rdy R W0 w' a5 m5 c5 (digs kn) (txts ks) ad k)) := by
        have h5 : Pt R W0 w5 a5 m5 c5 (digs kn ++ txts ks) := by rw [HK.out.len]; exact HP5.out
        exact Pt.refNum h5 (by omega)
      clear HP4
      go_wp2_with fail
      refine HN3.out.mono ?_
      rintro e w6 ⟨ad6, k6, c6, rfl, HP6⟩
      clear HN3 x0 x1 x2 x3 x4 x5 x6 HP5
      go_wp2_with (at_builtin; refine wpList_rdy rfl (.tmp 42) (.tmp 48) rfl R HR.out W0 a5 m5 c5 _ _ ad6 k6 c6 rfl rfl HP6.out ?_; intro a7 m7 c7 w7 HP7)
      clear HP6
      go_wp2
      go_loopw [4, 6] (fun t4 t55 wq => ∃ (a1 : Option Addr) (m1 c1 j : Nat), t4 = .slice a1 m1 c1 ∧ t55 = .int .i64 (j : Int) ∧ j ≤ kn ∧ Hid (Pt R W0 wq a1 m1 c1 (txts (ks.drop j)))) (fun _ t55 _ => kn - (intOf t55).toNat)
      case atStart => exact ⟨a7, m7, c7, 0, rfl, rfl, Nat.zero_le _, by rw [List.drop_zero]; exact HP7⟩
      case round =>
        obtain ⟨a5, m5, c5, i, rfl, rfl, hi, HP⟩ := hrel
        clear HP7
        obtain ⟨x0, x1, x2, x3, x4, x5, x6⟩ := seven (bcells HX0.out HP.out.bel)
        by_cases hik : i < kn
        · have hil : i < ks.length := by rw [← HK.out.len]; exact hik
          obtain ⟨b, off, rfl, hc⟩ := HK.out.lies.at (by omega)
          have hcell := cell_later (HB0.out.trans (HP.out.bel.mono HB0.out.size)) (hc i hil)
          have htd := txts_drop hil
          obtain ⟨s, hs⟩ : ∃ s, s = ks.getD i ByteArray.empty := ⟨_, rfl⟩
          rw [← hs] at hcell htd
          have HN : Hid (Calls _ _ _ _ _) := Pt.refText (rest := txts (ks.drop (i + 1))) HR.out (by rw [← htd]; exact HP.out)
          clear hs htd hil hc
          go_wp2_with fail
          refine HN.out.mono ?_
          rintro e w2 ⟨ad, k2, c2, rfl, HP2⟩
          clear HN x0 x1 x2 x3 x4 x5 x6 HP hcell
          go_wp2_with (at_builtin; refine wpList_rdy rfl (.tmp 58) (.tmp 65) rfl R HR.out W0 a5 m5 c5 _ _ ad k2 c2 rfl rfl HP2.out ?_; intro a6 m6 c6 w6 HP6)
          clear HP2
          go_wp2
          go_roundw
          case rel => exact ⟨a6, m6, c6, i + 1, rfl, by go_num, by omega, HP6⟩
          case measure => simp [intOf]; omega
        · have hd : ks.drop i = [] := List.drop_eq_nil_of_le (by rw [← HK.out.len]; omega)
          rw [hd] at HP
          have HP' : Hid (Pt R W0 wr a5 m5 c5 []) := HP
          clear HP hd
          go_wp2
          go_ret
          exact ⟨_, rfl, HP'.out.done HB0.out⟩
end Go.Proofs.Ytanlanolblbckaa.Order
