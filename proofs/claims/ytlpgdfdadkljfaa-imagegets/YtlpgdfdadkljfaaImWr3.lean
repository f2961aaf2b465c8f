/-
  Snapshots written; bytesOf; Put.
-/
import Derived.Test.YtlpgdfdadkljfaaImWr2
import Derived.Test.YtlpgdfdadkljfaaCtSnaps
namespace Go.Proofs.Ytlpgdfdadkljfaa.Img
open Go.RowKit Route Tree Order Cat

theorem encEs_take {E : List Ent} {j : Nat} (hj : j < E.length) : encEs (E.take (j + 1)) = encEs (E.take j) ++ encE (entOf E j) := by
  rw [List.take_add_one, encEs_app]
  congr 1
  simp [entOf, List.getD_eq_getElem?_getD, hj, encEs]
theorem encNs_take {S : List Snap} {j : Nat} (hj : j < S.length) : encNs (S.take (j + 1)) = encNs (S.take j) ++ encN (snapAt S j) := by
  rw [List.take_add_one, encNs_app]
  congr 1
  simp [snapAt, List.getD_eq_getElem?_getD, hj, encNs]

theorem four4 {w : World} {b : Nat} {x y z u : Value} {T : TypeId} (h : w.heap[b]? = some (.cells #[x, y, z, u] T (0, 0))) :
    w.cell? ⟨b, 0, none⟩ = some x ∧ w.cell? ⟨b, 1, none⟩ = some y ∧ w.cell? ⟨b, 2, none⟩ = some z ∧ w.cell? ⟨b, 3, none⟩ = some u := by
  simp [World.cell?, h]

set_option maxHeartbeats 4000000 in
set_option maxRecDepth 100000 in
theorem wsnap_any {B p : Nat} {l : List UInt8} {W0 w : World} {o : Option Nat} (h : Wx B p l W0 w o) (hB : W0.heap.size ≤ B) (s : Snap) (F : NFit s) (ea : Option Addr) (ec : Nat) (hk : LiesE W0 ea s.2.2.2) (hlen : l.length ≤ 30000000) :
    Calls Try.prog 45 #[.pointer (some ⟨p, 0, none⟩), .agg #[.int .i64 s.1, .string s.2.1, .bool s.2.2.1, .slice ea s.2.2.2.length ec]] w fun x w' => x = .returned (.tuple #[]) ∧ Hid (Wrote B p (l ++ encN s) W0 w o w') := by
  obtain ⟨cl, nm, dn, E⟩ := s
  have F1 := F.client
  have F2 := F.name
  have F3 := F.len
  have F4 := F.ents
  simp only at F1 F2 F3 F4 hk ⊢
  obtain ⟨en, hen⟩ : ∃ en, en = E.length := ⟨_, rfl⟩
  have HK : Hid (en = E.length) := hen
  rw [← hen] at F3 ⊢
  obtain ⟨zn, hzn⟩ : ∃ zn : Nat, (zn : Int) = cl := ⟨cl.toNat, by omega⟩
  have hz : zn ≤ 7 := by omega
  subst hzn
  have l1 := txt_len F2 (by omega)
  have l2 := digs_len10 (n := zn) (by omega)
  have l3 := digs_len10 (n := en) (by omega)
  have l4 := digs_len10 (n := flagN dn) (by unfold flagN; split <;> omega)
  have HKT : Hid (∀ j, (encEs (E.take j)).length ≤ 192000) := fun j => by
    have := encEs_len (E := E.take j) fun s hs => F4 s (List.mem_of_mem_take hs)
    have h2 : (E.take j).length ≤ 32 := by rw [List.length_take]; omega
    have h3 := Nat.mul_le_mul_right 6000 h2
    omega
  obtain ⟨W1, hW1⟩ : ∃ W1, W1 = w.alloc (.cells #[.int .i64 (zn : Int), .string nm, .bool dn, .slice ea en ec] 52) := ⟨_, rfl⟩
  have HW1 : Hid (W1 = _) := hW1
  have HX : Hid (∀ o' w', Tw p o W1 o' w' → w'.cell? ⟨w.heap.size, 0, none⟩ = some (.int .i64 (zn : Int)) ∧ w'.cell? ⟨w.heap.size, 1, none⟩ = some (.string nm) ∧ w'.cell? ⟨w.heap.size, 2, none⟩ = some (.bool dn) ∧ w'.cell? ⟨w.heap.size, 3, none⟩ = some (.slice ea en ec)) := fun o' w' ht => by
    rw [hW1] at ht; exact four4 (box_stay h ht)
  have H1 : Hid (Wx B p l W0 W1 o) := by rw [hW1]; exact h.below ((Below.refl _ _).alloc (Nat.le_refl _) _)
  have HT0 : Hid (∀ o' w', Tw p o W1 o' w' → Tw p o w o' w') := fun o' w' ht => by
    rw [hW1] at ht; exact (Tw.of ((Below.refl _ _).alloc (Nat.le_refl _) _)).trans ht
  have HEL : Hid (LiesE W0 ea E ∧ W0.heap.size ≤ B) := ⟨hk, hB⟩
  have C1 : Hid (Calls _ _ _ _ _) := wnum_any H1.out zn (by omega) (by omega)
  have HF4 : Hid (∀ e ∈ E, EFit e) := F4
  clear h hk hW1 F F1 F4 hen
  obtain ⟨c0, c1, c2, c3⟩ := HX.out _ _ (Tw.refl _ _ _)
  go_enter Try.func45, Try.ntmps45
  go_wp2_with fail
  rw [← HW1.out]
  refine C1.out.mono ?_
  rintro x w2 ⟨rfl, ho2⟩
  obtain ⟨o2, hx2, ht2⟩ := ho2.out
  have HT2 : Hid (Tw p o W1 o2 w2) := ht2
  have C2 : Hid (Calls _ _ _ _ _) := wtext_any hx2 nm (by omega) (by rw [List.length_append]; omega)
  clear C1 ho2 hx2 ht2 c0 c1 c2 c3
  obtain ⟨c0, c1, c2, c3⟩ := HX.out _ _ HT2.out
  go_wp2_with fail
  refine C2.out.mono ?_
  rintro x w3 ⟨rfl, ho3⟩
  obtain ⟨o3, hx3, ht3⟩ := ho3.out
  have HT3 : Hid (Tw p o W1 o3 w3) := HT2.out.trans ht3
  have C3 : Hid (Calls _ _ _ _ _) := flag_any hx3 dn (by simp only [List.length_append]; omega)
  clear C2 ho3 hx3 ht3 c0 c1 c2 c3 HT2
  obtain ⟨c0, c1, c2, c3⟩ := HX.out _ _ HT3.out
  go_wp2_with fail
  refine C3.out.mono ?_
  rintro x w4 ⟨rfl, ho4⟩
  obtain ⟨o4, hx4, ht4⟩ := ho4.out
  have HT4 : Hid (Tw p o W1 o4 w4) := HT3.out.trans ht4
  have C4 : Hid (Calls _ _ _ _ _) := wnum_any hx4 en (by omega) (by simp only [List.length_append]; omega)
  clear C3 ho4 hx4 ht4 c0 c1 c2 c3 HT3
  obtain ⟨c0, c1, c2, c3⟩ := HX.out _ _ HT4.out
  go_wp2_with fail
  refine C4.out.mono ?_
  rintro x w5 ⟨rfl, ho5⟩
  obtain ⟨o5, hx5, ht5⟩ := ho5.out
  have HT5 : Hid (Tw p o W1 o5 w5) := HT4.out.trans ht5
  obtain ⟨R, hR⟩ : ∃ R, R = l ++ digs zn ++ txt nm ++ digs (flagN dn) ++ digs en := ⟨_, rfl⟩
  have HRL : Hid (R.length ≤ 30010000) := by show _ ≤ _; rw [hR]; simp only [List.length_append]; omega
  have HRE : Hid (l ++ encN ((zn : Int), nm, dn, E) = R ++ encEs E) := by
    show _ = _
    rw [hR, encN]
    simp only [Int.toNat_natCast, ← HK.out, List.append_assoc]
  rw [← hR] at hx5
  have HX5 : Hid (Wx B p R W0 w5 o5) := hx5
  clear C4 ho5 hx5 ht5 c0 c1 c2 c3 HT4 hR l1 l2 l3 l4
  obtain ⟨c0, c1, c2, c3⟩ := HX.out _ _ HT5.out
  go_wp2
  go_loopw [5, 26] (fun _ t26 wr => ∃ (j : Nat), t26 = .int .i64 (j : Int) ∧ j ≤ en ∧ Hid (∃ o6, Wx B p (R ++ encEs (E.take j)) W0 wr o6 ∧ Tw p o W1 o6 wr)) (fun _ t26 _ => en - (intOf t26).toNat)
  case atStart => exact ⟨0, rfl, Nat.zero_le _, o5, by rw [List.take_zero]; exact HX5.out.app (by simp [encEs]), HT5.out⟩
  case round =>
    obtain ⟨j, rfl, hj, HR6⟩ := hrel
    clear c0 c1 c2 c3
    obtain ⟨o6, hx6, ht6⟩ := HR6.out
    have HT6 : Hid (Tw p o W1 o6 wr) := ht6
    by_cases hjn : j < en
    · obtain ⟨x, hx, g0, g1, ka, kc, g2, hk⟩ := (HEL.out.1.below hx6.bel HEL.out.2).at (j := j) (by rw [← HK.out]; exact hjn)
      obtain ⟨x', hx', _, _, ka', kc', g2', hk'⟩ := HEL.out.1.at (j := j) (by rw [← HK.out]; exact hjn)
      subst hx
      cases hx'
      have hcc := cell_below hx6.bel HEL.out.2 g2'
      rw [g2] at hcc
      simp only [Option.some.injEq, Value.slice.injEq] at hcc
      obtain ⟨rfl, _, rfl⟩ := hcc
      have hba := hx6.below ((Below.refl wr.heap.size wr).alloc (Nat.le_refl _) (.cells #[.string (entOf E j).1, .int .i64 (entOf E j).2.1, .slice ka (entOf E j).2.2.length kc] 57))
      have C6 : Hid (Calls _ _ _ _ _) := wentry_any hba HEL.out.2 (entOf E j) (HF4.out _ (ent_mem (by rw [← HK.out]; exact hjn))) ka kc hk'.1 (by have := HKT.out j; have := HRL.out; rw [List.length_append]; omega)
      have HTT : Hid (encEs (E.take (j + 1)) = encEs (E.take j) ++ encE (entOf E j)) := encEs_take (by rw [← HK.out]; exact hjn)
      have HTB : Hid (∀ o' w', Tw p o6 (wr.alloc (.cells #[.string (entOf E j).1, .int .i64 (entOf E j).2.1, .slice ka (entOf E j).2.2.length kc] 57)) o' w' → Tw p o6 wr o' w') := fun o' w' ht => (Tw.of ((Below.refl _ _).alloc (Nat.le_refl _) _)).trans ht
      generalize entOf E j = en0 at g0 g1 g2 C6 HTT HTB hk'
      obtain ⟨pt, sz, ks⟩ := en0
      simp only at g0 g1 g2 C6 HTB
      generalize ks.length = kn at g2 C6 HTB
      have hix := index_ent x en ec j hjn
      generalize x.add (j * 3) = q at g0 g1 g2 hix
      clear hx6 ht6 HR6 hk hk' g2' hba
      go_wp2_with fail
      refine C6.out.mono ?_
      rintro x w7 ⟨rfl, ho7⟩
      obtain ⟨o7, hx7, ht7⟩ := ho7.out
      have HR7 : Hid (∃ o6, Wx B p (R ++ encEs (E.take (j + 1))) W0 w7 o6 ∧ Tw p o W1 o6 w7) := ⟨o7, by rw [HTT.out]; exact hx7.app (by simp), HT6.out.trans (HTB.out _ _ ht7)⟩
      clear C6 ho7 hx7 ht7 g0 g1 g2
      go_wp2
      go_roundw
      case rel => exact ⟨j + 1, by go_num, by omega, HR7⟩
      case measure => simp [intOf]; omega
    · have HR7 : Hid (Wrote B p (l ++ encN ((zn : Int), nm, dn, E)) W0 w o wr) := by
        refine ⟨o6, hx6.app ?_, HT0.out _ _ ht6⟩
        rw [HRE.out, List.take_of_length_le (by rw [← HK.out]; omega)]
      clear hx6 ht6 HR6 HT6
      go_wp2
      go_end0
      exact ⟨rfl, HR7⟩
end Go.Proofs.Ytlpgdfdadkljfaa.Img
