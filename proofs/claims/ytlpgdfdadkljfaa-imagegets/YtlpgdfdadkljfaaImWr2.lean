/-
  Entries and snapshots written; bytesOf; Put.
-/
import Derived.Test.YtlpgdfdadkljfaaImWr
namespace Go.Proofs.Ytlpgdfdadkljfaa.Img
open Go.RowKit Route Tree Order Cat

theorem Wx.below {B p : Nat} {l : List UInt8} {W0 w w' : World} {o : Option Nat} (h : Wx B p l W0 w o) (hb : Below w.heap.size w w') : Wx B p l W0 w' o := by
  obtain ⟨a, m, c, h, rfl⟩ := h; exact ⟨a, m, c, h.below hb, rfl⟩
theorem Wx.lt {B p : Nat} {l : List UInt8} {W0 w : World} {o : Option Nat} (h : Wx B p l W0 w o) : p < w.heap.size := by
  obtain ⟨a, m, c, h, rfl⟩ := h; exact h.lt
theorem Wx.bel {B p : Nat} {l : List UInt8} {W0 w : World} {o : Option Nat} (h : Wx B p l W0 w o) : Below B W0 w := by
  obtain ⟨a, m, c, h, rfl⟩ := h; exact h.bel
theorem Wx.olt {B p : Nat} {l : List UInt8} {W0 w : World} {o : Option Nat} (h : Wx B p l W0 w o) : ∀ k, o = some k → k < w.heap.size := by
  obtain ⟨a, m, c, h, rfl⟩ := h
  intro k hk
  rcases h.own.2 with ⟨e, _⟩ | ⟨g, cap, cur, e, _, e2, _⟩
  · rw [e] at hk; simp [Value.ownBlock] at hk
  · rw [e] at hk
    simp only [Value.ownBlock, Option.some.injEq] at hk
    rw [← hk]; exact (Array.getElem?_eq_some_iff.1 e2).1
theorem Wx.app {B p : Nat} {l : List UInt8} {W0 w : World} {o : Option Nat} (h : Wx B p l W0 w o) {r : List UInt8} (e : l = r) : Wx B p r W0 w o := e ▸ h

/-- A box laid while a writer writes stays. -/
theorem box_stay {B p : Nat} {l : List UInt8} {W0 w w' : World} {o o' : Option Nat} {ob : Obj} (h : Wx B p l W0 w o) (ht : Tw p o (w.alloc ob) o' w') : w'.heap[w.heap.size]? = some ob := by
  rw [ht.block w.heap.size (by simp) (by have := h.lt; omega) (fun e => by have := h.olt _ e.symm; omega)]
  exact (MapKept.heap_alloc w ob).1

theorem flag_any {B p : Nat} {l : List UInt8} {W0 w : World} {o : Option Nat} (h : Wx B p l W0 w o) (d : Bool) (hlen : l.length ≤ 50000000) :
    Calls Try.prog 62 #[.pointer (some ⟨p, 0, none⟩), .bool d] w fun e w' => e = .returned (.tuple #[]) ∧ Hid (Wrote B p (l ++ digs (flagN d)) W0 w o w') := by
  cases d with
  | false =>
    have HC : Hid (Calls _ _ _ _ _) := wnum_any h 0 (by omega) hlen
    clear h
    go_enter Try.func62, Try.ntmps62
    go_wp2_with fail
    refine HC.out.mono ?_
    rintro e w1 ⟨rfl, hw⟩
    go_wp2
    go_end0
    exact ⟨rfl, hw⟩
  | true =>
    have HC : Hid (Calls _ _ _ _ _) := wnum_any h 1 (by omega) hlen
    clear h
    go_enter Try.func62, Try.ntmps62
    go_wp2_with fail
    refine HC.out.mono ?_
    rintro e w1 ⟨rfl, hw⟩
    go_wp2
    go_end0
    exact ⟨rfl, hw⟩

theorem txts_take {l : List ByteArray} {j : Nat} (hj : j < l.length) : txts (l.take (j + 1)) = txts (l.take j) ++ txt (l.getD j ByteArray.empty) := by
  rw [← txts_snoc]
  congr 1
  rw [List.take_add_one]
  simp [List.getD_eq_getElem?_getD, hj]

theorem three' {w : World} {b : Nat} {x y z : Value} {T : TypeId} (h : w.heap[b]? = some (.cells #[x, y, z] T (0, 0))) :
    w.cell? ⟨b, 0, none⟩ = some x ∧ w.cell? ⟨b, 1, none⟩ = some y ∧ w.cell? ⟨b, 2, none⟩ = some z := by
  simp [World.cell?, h]

set_option maxHeartbeats 4000000 in
set_option maxRecDepth 100000 in
theorem wentry_any {B p : Nat} {l : List UInt8} {W0 w : World} {o : Option Nat} (h : Wx B p l W0 w o) (hB : W0.heap.size ≤ B) (e : Ent) (F : EFit e) (ka : Option Addr) (kc : Nat) (hk : Route.Lies W0 ka e.2.2) (hlen : l.length ≤ 40000000) :
    Calls Try.prog 63 #[.pointer (some ⟨p, 0, none⟩), .agg #[.string e.1, .int .i64 e.2.1, .slice ka e.2.2.length kc]] w fun x w' => x = .returned (.tuple #[]) ∧ Hid (Wrote B p (l ++ encE e) W0 w o w') := by
  obtain ⟨pt, sz, ks⟩ := e
  have F1 := F.path
  have F2 := F.size
  have F3 := F.keys
  have F4 := F.key
  simp only at F1 F2 F3 F4 hk ⊢
  obtain ⟨kn, hkn⟩ : ∃ kn, kn = ks.length := ⟨_, rfl⟩
  have HK : Hid (kn = ks.length) := hkn
  rw [← hkn] at F3 ⊢
  obtain ⟨zn, hzn⟩ : ∃ zn : Nat, (zn : Int) = sz := ⟨sz.toNat, by omega⟩
  have HZ : Hid (sz.toNat = zn) := by show _ = _; omega
  have hz : zn ≤ 1024 := by omega
  subst hzn
  have l1 := txt_len F1 (by omega)
  have l2 := digs_len10 (n := zn) (by omega)
  have l3 := digs_len10 (n := kn) (by omega)
  have HKT : Hid (∀ j, (txts (ks.take j)).length ≤ 1184) := fun j => by
    have := txts_len (m := 64) (by omega) (l := ks.take j) fun s hs => F4 s (List.mem_of_mem_take hs)
    have h2 : (ks.take j).length ≤ 16 := by rw [List.length_take]; omega
    have h3 := Nat.mul_le_mul_right (64 + 10) h2
    omega
  obtain ⟨W1, hW1⟩ : ∃ W1, W1 = w.alloc (.cells #[.string pt, .int .i64 (zn : Int), .slice ka kn kc] 57) := ⟨_, rfl⟩
  have HW1 : Hid (W1 = _) := hW1
  have HX : Hid (∀ o' w', Tw p o W1 o' w' → w'.cell? ⟨w.heap.size, 0, none⟩ = some (.string pt) ∧ w'.cell? ⟨w.heap.size, 1, none⟩ = some (.int .i64 (zn : Int)) ∧ w'.cell? ⟨w.heap.size, 2, none⟩ = some (.slice ka kn kc)) := fun o' w' ht => by
    rw [hW1] at ht; exact three' (box_stay h ht)
  have H1 : Hid (Wx B p l W0 W1 o) := by rw [hW1]; exact h.below ((Below.refl _ _).alloc (Nat.le_refl _) _)
  have HT0 : Hid (∀ o' w', Tw p o W1 o' w' → Tw p o w o' w') := fun o' w' ht => by
    rw [hW1] at ht; exact (Tw.of ((Below.refl _ _).alloc (Nat.le_refl _) _)).trans ht
  have HKL : Hid (∀ w', Below B W0 w' → Route.Lies w' ka ks) := fun w' hb => hk.below hb hB
  have C1 : Hid (Calls _ _ _ _ _) := wtext_any H1.out pt (by omega) (by omega)
  have HF4 : Hid (∀ s ∈ ks, s.size ≤ 64) := F4
  clear h hk hW1 F F1 F2 F4 hkn
  obtain ⟨c0, c1, c2⟩ := HX.out _ _ (Tw.refl _ _ _)
  go_enter Try.func63, Try.ntmps63
  go_wp2_with fail
  rw [← HW1.out]
  refine C1.out.mono ?_
  rintro x w2 ⟨rfl, ho2⟩
  obtain ⟨o2, hx2, ht2⟩ := ho2.out
  have HT2 : Hid (Tw p o W1 o2 w2) := ht2
  have C2 : Hid (Calls _ _ _ _ _) := wnum_any hx2 zn (by omega) (by rw [List.length_append]; omega)
  clear C1 ho2 hx2 ht2 c0 c1 c2
  obtain ⟨c0, c1, c2⟩ := HX.out _ _ HT2.out
  go_wp2_with fail
  refine C2.out.mono ?_
  rintro x w3 ⟨rfl, ho3⟩
  obtain ⟨o3, hx3, ht3⟩ := ho3.out
  have HT3 : Hid (Tw p o W1 o3 w3) := HT2.out.trans ht3
  have C3 : Hid (Calls _ _ _ _ _) := wnum_any hx3 kn (by omega) (by simp only [List.length_append]; omega)
  clear C2 ho3 hx3 ht3 c0 c1 c2 HT2
  obtain ⟨c0, c1, c2⟩ := HX.out _ _ HT3.out
  go_wp2_with fail
  refine C3.out.mono ?_
  rintro x w4 ⟨rfl, ho4⟩
  obtain ⟨o4, hx4, ht4⟩ := ho4.out
  have HT4 : Hid (Tw p o W1 o4 w4) := HT3.out.trans ht4
  obtain ⟨R, hR⟩ : ∃ R, R = l ++ txt pt ++ digs zn ++ digs kn := ⟨_, rfl⟩
  have HRL : Hid (R.length ≤ 40010000) := by show _ ≤ _; rw [hR]; simp only [List.length_append]; omega
  have HRE : Hid (l ++ encE (pt, (zn : Int), ks) = R ++ txts ks) := by
    show _ = _
    rw [hR, encE]
    simp only [Int.toNat_natCast, ← HK.out, List.append_assoc]
  rw [← hR] at hx4
  have HX4 : Hid (Wx B p R W0 w4 o4) := hx4
  clear C3 ho4 hx4 ht4 c0 c1 c2 HT3 hR l1 l2 l3 HZ
  obtain ⟨c0, c1, c2⟩ := HX.out _ _ HT4.out
  go_wp2
  go_loopw [5, 22] (fun _ t22 wr => ∃ (j : Nat), t22 = .int .i64 (j : Int) ∧ j ≤ kn ∧ Hid (∃ o5, Wx B p (R ++ txts (ks.take j)) W0 wr o5 ∧ Tw p o W1 o5 wr)) (fun _ t22 _ => kn - (intOf t22).toNat)
  case atStart => exact ⟨0, rfl, Nat.zero_le _, o4, by rw [List.take_zero]; exact HX4.out.app (by simp [txts]), HT4.out⟩
  case round =>
    obtain ⟨j, rfl, hj, HR5⟩ := hrel
    clear c0 c1 c2
    obtain ⟨o5, hx5, ht5⟩ := HR5.out
    have HT5 : Hid (Tw p o W1 o5 wr) := ht5
    by_cases hjn : j < kn
    · obtain ⟨x, hx, hc⟩ := (HKL.out wr hx5.bel).cellAt (j := j) (by rw [← HK.out]; exact hjn)
      subst hx
      have C5 : Hid (Calls _ _ _ _ _) := wtext_any hx5 (ks.getD j ByteArray.empty) (by have := HF4.out (ks.getD j ByteArray.empty) (by simp [List.getD_eq_getElem?_getD, show j < ks.length by rw [← HK.out]; exact hjn]); omega) (by have := HKT.out j; have := HRL.out; rw [List.length_append]; omega)
      have HTT : Hid (txts (ks.take (j + 1)) = txts (ks.take j) ++ txt (ks.getD j ByteArray.empty)) := txts_take (by rw [← HK.out]; exact hjn)
      generalize ks.getD j ByteArray.empty = k at hc C5 HTT
      clear hx5 ht5 HR5
      go_wp2_with fail
      refine C5.out.mono ?_
      rintro x w6 ⟨rfl, ho6⟩
      obtain ⟨o6, hx6, ht6⟩ := ho6.out
      have HR6 : Hid (∃ o5, Wx B p (R ++ txts (ks.take (j + 1))) W0 w6 o5 ∧ Tw p o W1 o5 w6) := ⟨o6, by rw [HTT.out]; exact hx6.app (by simp), HT5.out.trans ht6⟩
      clear C5 ho6 hx6 ht6 hc
      go_wp2
      go_roundw
      case rel => exact ⟨j + 1, by go_num, by omega, HR6⟩
      case measure => simp [intOf]; omega
    · have HR6 : Hid (Wrote B p (l ++ encE (pt, (zn : Int), ks)) W0 w o wr) := by
        refine ⟨o5, hx5.app ?_, HT0.out _ _ ht5⟩
        rw [HRE.out, List.take_of_length_le (by rw [← HK.out]; omega)]
      clear hx5 ht5 HR5 HT5
      go_wp2
      go_end0
      exact ⟨rfl, HR6⟩
end Go.Proofs.Ytlpgdfdadkljfaa.Img
