/-
  bytesOf and Put.
-/
import Derived.Test.YtlpgdfdadkljfaaImWr3
import Derived.Test.YtlpgdfdadkljfaaImPl
namespace Go.Proofs.Ytlpgdfdadkljfaa.Img
open Go.RowKit Route Tree Order Cat

theorem own_mono5 {w : World} {B B' : Nat} {v : Value} {n : Nat} {xs : List Value} (h : w.ownsRow B 5 1 v n xs) (hb : B' ≤ B) : w.ownsRow B' 5 1 v n xs :=
  ⟨h.1, h.2.imp id fun ⟨g, cap, cur, h1, h2, h3⟩ => ⟨g, cap, cur, h1, Nat.le_trans hb h2, h3⟩⟩
theorem Buf.wide {W0 W1 w : World} {v : Value} {l : List UInt8} (h : Buf W1.heap.size v l W1 w) (hb : Below W0.heap.size W0 W1) : Buf W0.heap.size v l W0 w :=
  ⟨own_mono5 h.1 hb.size, hb.trans (h.2.1.mono hb.size), Nat.le_trans hb.size h.2.2⟩

set_option maxHeartbeats 4000000 in
set_option maxRecDepth 100000 in
theorem bytesOf_any (a : Option Addr) (n cap : Nat) (S : List Snap) (w : World) (hn : n = S.length) (hl : LiesN w a S) (hm : n ≤ 64) (hF : ∀ s ∈ S, NFit s) :
    Calls Try.prog 25 #[.slice a n cap] w fun e w' => ∃ v, e = .returned v ∧ Buf w.heap.size v (encI S) w w' := by
  have HN : Hid (n = S.length) := hn
  have HL : Hid (LiesN w a S) := hl
  have HF : Hid (∀ s ∈ S, NFit s) := hF
  have HKT : Hid (∀ j, (encNs (S.take j)).length ≤ 12800000) := fun j => by
    have := encNs_len (S := S.take j) fun s hs => hF s (List.mem_of_mem_take hs)
    have h2 : (S.take j).length ≤ 64 := by rw [List.length_take]; omega
    have h3 := Nat.mul_le_mul_right 200000 h2
    omega
  have l1 := digs_len10 (n := n) (by omega)
  have H0 : Wx w.heap.size w.heap.size [] w (w.alloc (.cells #[.slice none 0 0] 83)) none :=
    ⟨none, 0, 0, ⟨(MapKept.heap_alloc w _).1, rfl, World.ownsRow_nil _ _ _ _, (Below.refl _ _).alloc (Nat.le_refl _) _, Nat.le_refl _, by simp⟩, rfl⟩
  have C1 : Hid (Calls _ _ _ _ _) := wnum_any H0 n (by omega) (by simp)
  clear hn hl hF H0
  go_enter Try.func25, Try.ntmps25
  go_wp2_with fail
  refine C1.out.mono ?_
  rintro x w2 ⟨rfl, ho2⟩
  rw [List.nil_append] at ho2
  obtain ⟨o2, hx2, _⟩ := ho2.out
  have HX2 : Hid (Wx w.heap.size w.heap.size (digs n) w w2 o2) := hx2
  clear C1 ho2 hx2
  go_wp2
  go_loopw [5, 11] (fun _ t11 wr => ∃ (j : Nat), t11 = .int .i64 (j : Int) ∧ j ≤ n ∧ Hid (∃ o3, Wx w.heap.size w.heap.size (digs n ++ encNs (S.take j)) w wr o3)) (fun _ t11 _ => n - (intOf t11).toNat)
  case atStart => exact ⟨0, rfl, Nat.zero_le _, o2, by rw [List.take_zero]; exact HX2.out.app (by simp [encNs])⟩
  case round =>
    obtain ⟨j, rfl, hj, HR⟩ := hrel
    obtain ⟨o3, hx3⟩ := HR.out
    by_cases hjn : j < n
    · obtain ⟨x, hx, h0, h1, h2, ea, ec, h3, _, _, hE⟩ := HL.out.at (j := j) (by rw [← HN.out]; exact hjn)
      subst hx
      have g0 := cell_below hx3.bel (Nat.le_refl _) h0
      have g1 := cell_below hx3.bel (Nat.le_refl _) h1
      have g2 := cell_below hx3.bel (Nat.le_refl _) h2
      have g3 := cell_below hx3.bel (Nat.le_refl _) h3
      have hba := hx3.below ((Below.refl wr.heap.size wr).alloc (Nat.le_refl _) (.cells #[.int .i64 (snapAt S j).1, .string (snapAt S j).2.1, .bool (snapAt S j).2.2.1, .slice ea (snapAt S j).2.2.2.length ec] 52))
      have hmem : snapAt S j ∈ S := by simp [snapAt, List.getD_eq_getElem?_getD, show j < S.length by rw [← HN.out]; exact hjn]
      have C3 : Hid (Calls _ _ _ _ _) := wsnap_any hba (Nat.le_refl _) (snapAt S j) (HF.out _ hmem) ea ec hE (by have := HKT.out j; rw [List.length_append]; omega)
      have HTT : Hid (encNs (S.take (j + 1)) = encNs (S.take j) ++ encN (snapAt S j)) := encNs_take (by rw [← HN.out]; exact hjn)
      generalize snapAt S j = s at g0 g1 g2 g3 C3 HTT
      obtain ⟨cl, nm, dn, E⟩ := s
      simp only at g0 g1 g2 g3 C3
      generalize E.length = en at g3 C3
      have hix := index_snap x n cap j hjn
      generalize x.add (j * 4) = q at g0 g1 g2 g3 hix
      have hld := load_snap q _ _ _ _ wr g0 g1 g2 g3
      clear hx3 HR h0 h1 h2 h3 hE hba hmem
      go_wp2_with fail
      refine C3.out.mono ?_
      rintro x w4 ⟨rfl, ho4⟩
      obtain ⟨o4, hx4, _⟩ := ho4.out
      have HR4 : Hid (∃ o3, Wx w.heap.size w.heap.size (digs n ++ encNs (S.take (j + 1))) w w4 o3) := ⟨o4, by rw [HTT.out]; exact hx4.app (by simp)⟩
      clear C3 ho4 hx4 g0 g1 g2 g3 hld
      go_wp2
      go_roundw
      case rel => exact ⟨j + 1, by go_num, by omega, HR4⟩
      case measure => simp [intOf]; omega
    · have hx4 : Wx w.heap.size w.heap.size (encI S) w wr o3 := hx3.app (by rw [List.take_of_length_le (by rw [← HN.out]; omega), encI, ← HN.out])
      obtain ⟨a5, m5, c5, hw, _⟩ := hx4
      have c0 : wr.cell? ⟨w.heap.size, 0, none⟩ = some (.slice a5 m5 c5) := by simp [World.cell?, hw.box]
      have HW : Hid (Wt w.heap.size w.heap.size a5 m5 c5 (encI S) w wr) := hw
      clear hw hx3 HR
      go_wp2
      go_ret
      exact ⟨_, rfl, HW.out.own, HW.out.bel, HW.out.fit⟩

theorem put_nil (w : World) : Calls Try.prog 10 #[.pointer none] w fun e w' => e = .returned (.tuple #[.slice none 0 0, .iface 36 (.int .i64 1)]) ∧ w' = w := by
  go_enter Try.func10, Try.ntmps10
  go_wp2
  go_ret2
  exact ⟨rfl, rfl⟩

theorem put_any {B p : Nat} {v : Value} {Z : List SZ} {w : World} (h : Cat B p v Z w) (hI : Inv (Z.map snapOf)) :
    Calls Try.prog 10 #[.pointer (some ⟨p, 0, none⟩)] w fun e w' => ∃ v', e = .returned (.tuple #[v', .nilIface]) ∧ Buf w.heap.size v' (encI (Z.map snapOf)) w w' := by
  obtain ⟨a, n, cap, _, hs⟩ := h.see
  have hl := inv_len hI
  have HS : Hid (Calls _ _ _ _ _) := snaps_any p a n cap _ w hs (by have := hs.len; omega) hI.short
  have HB : Hid (∀ a0 c0 w1, LiesN w1 a0 (Z.map snapOf) → Below w.heap.size w w1 → Calls Try.prog 25 #[.slice a0 (Z.map snapOf).length c0] w1 fun e w' => ∃ v', e = .returned v' ∧ Buf w.heap.size v' (encI (Z.map snapOf)) w w') := fun a0 c0 w1 hl1 hb => by
    refine (bytesOf_any a0 _ c0 (Z.map snapOf) w1 rfl hl1 hl (Inv.nfit hI)).mono ?_
    rintro e w' ⟨v', rfl, hv⟩
    exact ⟨v', rfl, Buf.wide hv hb⟩
  clear h hs hI hl
  go_enter Try.func10, Try.ntmps10
  go_wp2_with fail
  refine HS.out.mono ?_
  rintro e w1 ⟨v0, Z0, rfl, hZ, hR, hb⟩
  obtain ⟨a0, c0, rfl, hl0⟩ := hR.sees
  rw [hZ] at hl0
  have e0 : Z0.length = (Z.map snapOf).length := by rw [← hZ]; simp
  rw [e0]
  have HC : Hid (Calls _ _ _ _ _) := HB.out a0 c0 w1 hl0 hb
  generalize (Z.map snapOf).length = k at HC
  clear hR hb hl0 HB HS hZ e0
  go_wp2_with fail
  refine HC.out.mono ?_
  rintro e w2 ⟨v2, rfl, hv2⟩
  go_wp2
  go_ret2
  exact ⟨_, rfl, hv2⟩
end Go.Proofs.Ytlpgdfdadkljfaa.Img
