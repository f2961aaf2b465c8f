/-
  The walk of OrderGets.
-/
import Derived.Test.YtanlanolblbckaaOrRGet
import Derived.Test.YtanlanolblbckaaOrLaw
namespace Go.Proofs.Ytanlanolblbckaa.Order
open Go.RowKit Route

theorem keys_none (W : World) : KeysAt W none 0 0 [] := ⟨rfl, .inl rfl, by omega, by omega⟩

set_option maxHeartbeats 4000000 in
set_option maxRecDepth 100000 in
theorem orderGets_walk (ab : Option Addr) (l : List UInt8) (nb capb : Nat) (w : World) (hn : nb = l.length) (hl : Lies w ab l) (hnc : nb ≤ capb) (hcm : capb ≤ maxLen) (_ : ab = none → capb = 0) :
    Calls Try.prog 4 #[.slice ab nb capb] w fun e w' => e = .returned (.bool true) ∧ Below w.heap.size w w' := by
  have HN : Hid (nb = l.length) := hn
  have HL : Hid (∀ W, Below w.heap.size w W → Lies W ab l) := fun W hb => hl.below hb (Nat.le_refl _)
  have HCM : Hid (capb ≤ maxLen) := hcm
  have HU : Hid (∀ w, Calls _ _ _ _ _) := up_any
  have hnb : nb ≤ 9223372036854775807 := Nat.le_trans hnc hcm
  have q1 := eqNil
  have q2 := eqForm
  clear hn hl hcm
  go_enter Try.func4, Try.ntmps4
  go_wp2_with fail
  refine (HU.out _).mono ?_
  rintro e w1 ⟨rfl, hb1⟩
  have HB1 : Hid (Below w.heap.size w w1) := hb1
  clear hb1 HU
  by_cases hbig : 5000 < nb
  · go_wp2
    go_ret
    exact ⟨rfl, HB1.out⟩
  · by_cases hq : IsReq l
    · obtain ⟨r, hm, he⟩ := hq
      have G1 : Hid (Calls _ _ _ _ _) := get_ok (w := w1) r hm he HN.out (HL.out _ HB1.out) (by omega) hnc HCM.out
      go_wp2_with fail
      refine G1.out.mono ?_
      rintro e w2 ⟨ka, kk, kc, rfl, hh⟩
      obtain ⟨hk2, _, hb2⟩ := hh.out
      have hA2 : Below w2.heap.size w2 (w2.alloc (.cells (rv r ka kk kc) 26)) := (Below.refl _ _).alloc (Nat.le_refl _) _
      have hbA : Below w.heap.size w (w2.alloc (.cells (rv r ka kk kc) 26)) := (HB1.out.trans (hb2.mono HB1.out.size)).trans (hA2.mono (Nat.le_trans HB1.out.size hb2.size))
      have HBA : Hid (Below w.heap.size w (w2.alloc (.cells (rv r ka kk kc) 26))) := hbA
      have HK2 : Hid (KeysAt (w2.alloc (.cells (rv r ka kk kc) 26)) ka kk kc r.ks) := hk2.below hA2
      have G2 : Hid (Calls _ _ _ _ _) := refget_ok (w := w2.alloc (.cells (rv r ka kk kc) 26)) r hm he HN.out (HL.out _ hbA) (by omega) hnc HCM.out
      clear G1 hh hk2 hb2 hA2 hbA
      go_wp2_with fail
      refine G2.out.mono ?_
      rintro e w3 ⟨kb, k3, kd, rfl, hh⟩
      obtain ⟨hk3, hb3⟩ := hh.out
      have hA3 : Below w3.heap.size w3 (w3.alloc (.cells (rv r kb k3 kd) 26)) := (Below.refl _ _).alloc (Nat.le_refl _) _
      have hbx := bcells (heap_alloc_new w2 (.cells (rv r ka kk kc) 26)) hb3
      obtain ⟨x0, x1, x2, x3, x4, x5, x6⟩ := seven hbx
      have hz : w2.heap.size < w3.heap.size := (Array.getElem?_eq_some_iff.1 hbx).1
      have S := same_any r r ka kb kk kc k3 kd (w3.alloc (.cells (rv r kb k3 kd) 26)) ((HK2.out.below hb3).below hA3) (hk3.below hA3)
      rw [sameR_iff.2 rfl] at S
      have S' : Hid (Calls _ _ _ _ _) := S
      have HBB : Hid (Below w.heap.size w (w3.alloc (.cells (rv r kb k3 kd) 26))) := (HBA.out.trans (hb3.mono HBA.out.size)).trans (hA3.mono (Nat.le_trans HBA.out.size hb3.size))
      clear G2 hh hk3 hb3 hA3 hbx S HK2
      go_wp2_with fail
      refine S'.out.mono ?_
      rintro e w4 ⟨rfl, hb4⟩
      go_wp2
      go_ret
      exact ⟨rfl, HBB.out.trans (hb4.mono HBB.out.size)⟩
    · have G1 : Hid (Calls _ _ _ _ _) := get_no (w := w1) hq HN.out (HL.out _ HB1.out) (by omega) hnc HCM.out
      go_wp2_with fail
      refine G1.out.mono ?_
      rintro e w2 ⟨rfl, hb2⟩
      have hA2 : Below w2.heap.size w2 (w2.alloc (.cells zero7 26)) := (Below.refl _ _).alloc (Nat.le_refl _) _
      have hbA : Below w.heap.size w (w2.alloc (.cells zero7 26)) := (HB1.out.trans (hb2.mono HB1.out.size)).trans (hA2.mono (Nat.le_trans HB1.out.size hb2.size))
      have HBA : Hid (Below w.heap.size w (w2.alloc (.cells zero7 26))) := hbA
      have G2 : Hid (Calls _ _ _ _ _) := refget_no (w := w2.alloc (.cells zero7 26)) hq HN.out (HL.out _ hbA) (by omega) hnc HCM.out
      clear G1 hb2 hA2 hbA
      go_wp2_with fail
      refine G2.out.mono ?_
      rintro e w3 ⟨rfl, hb3⟩
      have hA3 : Below w3.heap.size w3 (w3.alloc (.cells zero7 26)) := (Below.refl _ _).alloc (Nat.le_refl _) _
      have hbx := bcells (heap_alloc_new w2 (.cells zero7 26)) hb3
      obtain ⟨x0, x1, x2, x3, x4, x5, x6⟩ := seven hbx
      have hz : w2.heap.size < w3.heap.size := (Array.getElem?_eq_some_iff.1 hbx).1
      have S := same_any ⟨0, 0, 0, 0, ⟨#[]⟩, ⟨#[]⟩, []⟩ ⟨0, 0, 0, 0, ⟨#[]⟩, ⟨#[]⟩, []⟩ none none 0 0 0 0 (w3.alloc (.cells zero7 26)) (keys_none _) (keys_none _)
      rw [sameR_iff.2 rfl] at S
      have S' : Hid (Calls _ _ _ _ _) := S
      have HBB : Hid (Below w.heap.size w (w3.alloc (.cells zero7 26))) := (HBA.out.trans (hb3.mono HBA.out.size)).trans (hA3.mono (Nat.le_trans HBA.out.size hb3.size))
      clear G2 hb3 hA3 hbx S
      go_wp2_with fail
      refine S'.out.mono ?_
      rintro e w4 ⟨rfl, hb4⟩
      go_wp2
      go_ret
      exact ⟨rfl, HBB.out.trans (hb4.mono HBB.out.size)⟩
end Go.Proofs.Ytanlanolblbckaa.Order
