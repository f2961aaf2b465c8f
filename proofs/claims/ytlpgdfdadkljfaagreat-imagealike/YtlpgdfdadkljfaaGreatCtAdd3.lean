/-
  Add, walked: up to its fault, or to what it leaves behind.
-/
import Derived.Test.YtlpgdfdadkljfaaGreatCtAdd2
namespace Go.Proofs.YtlpgdfdadkljfaaGreat.Cat
open Go.RowKit Route Tree Order

set_option maxHeartbeats 8000000 in
set_option maxRecDepth 100000 in
theorem add_core (T : Ending → World → Prop) (B p : Nat) (v : Value) (Z : List SZ) (c k m : Int) (nm pt : ByteArray) (ka : Option Addr) (kn kc : Nat) (ks : List ByteArray) (w : World) (h : Cat B p v Z w) (hB : B ≤ w.heap.size) (hp : (found c nm false (Z.map snapOf)).2 = 0) (hk : KeysAt w ka kn kc ks) (hkl : kn ≤ 1000) (hkz : ∀ j, j < ks.length → (ks.getD j ByteArray.empty).size ≤ 1000000) (hpt : pt.size ≤ 100000)
    (hfit : ∀ s ∈ Z.map snapOf, EntsFit s.2.2.2)
    (hno : fault (snapAt (Z.map snapOf) (found c nm false (Z.map snapOf)).1).2.2.2 pt (keysSize ks) ≠ 0 → ∀ w', Below w.heap.size w w' → T (.returned (bareV (fault (snapAt (Z.map snapOf) (found c nm false (Z.map snapOf)).1).2.2.2 pt (keysSize ks) : Nat) 0)) w')
    (hyes : fault (snapAt (Z.map snapOf) (found c nm false (Z.map snapOf)).1).2.2.2 pt (keysSize ks) = 0 → ∀ v' z' w', snapOf z' = (c, nm, false, putE (snapAt (Z.map snapOf) (found c nm false (Z.map snapOf)).1).2.2.2 (pt, (keysSize ks : Int), ks)) → Next B p v Z w v' (Z.set (found c nm false (Z.map snapOf)).1 z') w' → T (.returned (bareV 0 0)) w') :
    Calls Tryz.prog 21 #[.pointer (some ⟨p, 0, none⟩), .int .i64 c, opV k nm pt ka kn kc m] w T := by
  obtain ⟨hpl, hdn⟩ := found_ok hp
  obtain ⟨hi, hc1, hc2, _⟩ := place_some hpl
  rw [List.length_map] at hi
  obtain ⟨a0, n0, cap0, hv0, hs0⟩ := h.see
  obtain ⟨g, cap, hv, hcap, hcm, hgw⟩ := h.form (by omega)
  rw [hv] at hv0
  simp at hv0
  obtain ⟨rfl, rfl, rfl⟩ := hv0
  subst hv
  have HP : Hid (Calls _ _ _ _ _) := find_any p _ _ _ _ c nm false (W2of w k nm pt ka kn kc m) (hs0.below (((Below.refl _ _).alloc (Nat.le_refl w.heap.size) _).alloc (by simp) _) (Nat.le_refl _))
  have hsn := sz_snap hi
  have hfi := hfit _ (List.mem_map.2 ⟨_, sz_mem hi, rfl⟩)
  rw [hp] at HP
  rw [hsn] at hno hyes hc1 hc2 hdn
  generalize (found c nm false (Z.map snapOf)).1 = i at *
  obtain ⟨ea, ec, hev, hec, _, _, hle⟩ := erow_lies (h.ents _ (sz_mem hi)).1 (h.ents _ (sz_mem hi)).2
  have hcell : w.cell? ⟨g, i * 4 + 3, none⟩ = some (.slice ea (szAt Z i).2.2.2.2.length ec) := by
    have h3 := (h.row.cellAt (i * 4 + 3) (by omega)).trans (scells_at Z i 3 hi (by decide))
    have e3 : (encS (szAt Z i))[3]? = some (szAt Z i).2.2.2.1 := by simp [encS, fix_own (h.ents _ (sz_mem hi)).1]
    rw [e3, hev] at h3
    exact h3
  have hel : (snapOf (szAt Z i)).2.2.2.length = (szAt Z i).2.2.2.2.length := by simp [snapOf]
  have hle' : LiesE w ea (snapOf (szAt Z i)).2.2.2 := hle
  have hl32 : (szAt Z i).2.2.2.2.length ≤ 32 := by rw [← hel]; exact hfi.1.1
  have hsrt := (treeL_iff.1 hfi.1).2.2.imp fun h => h.1
  have hspl : spot (snapOf (szAt Z i)).2.2.2 pt ≤ (szAt Z i).2.2.2.2.length := by rw [← hel]; exact spot_le _ _
  have HR : Hid (∀ W, Below w.heap.size w W → W.cell? ⟨p, 0, none⟩ = some (.slice (some ⟨g, 0, none⟩) Z.length cap) ∧ W.cell? ⟨g, i * 4 + 3, none⟩ = some (.slice ea (szAt Z i).2.2.2.2.length ec) ∧ LiesE W ea (snapOf (szAt Z i)).2.2.2) := fun W hb => ⟨cell_kept hb hs0.cell, cell_kept hb hcell, hle'.below hb (Nat.le_refl _)⟩
  have HF : Hid (∀ W, LiesE W ea (snapOf (szAt Z i)).2.2.2 → Calls Tryz.prog 41 #[.slice ea (szAt Z i).2.2.2.2.length ec, .agg #[.string pt, .int .i64 (keysSize ks : Nat), .slice ka kn kc]] W fun e w' => e = .returned (.int .i64 (fault (snapOf (szAt Z i)).2.2.2 pt (keysSize ks) : Nat)) ∧ Below W.heap.size W w') := fun W hl => fault_any ea _ ec _ pt _ ka kn kc W hel.symm hl (by omega) hpt fun e he => by have := (hfi.2 e he).1; omega
  have HSE : Hid (∀ W, LiesE W ea (snapOf (szAt Z i)).2.2.2 → Calls Tryz.prog 42 #[.slice ea (szAt Z i).2.2.2.2.length ec, .string pt, .func (.func 43) #[] #[]] W fun e w' => ∃ b, e = .returned (.tuple #[.int .i64 (spot (snapOf (szAt Z i)).2.2.2 pt : Nat), .bool b]) ∧ Below W.heap.size W w') := fun W hl => search_any ea _ ec _ pt W hel.symm hl (by omega) hsrt
  have HZ : Hid (∀ W, Below w.heap.size w W → Calls Tryz.prog 40 #[.slice ka kn kc] W fun e w' => e = .returned (.int .i64 (keysSize ks : Nat)) ∧ w' = W) := fun W hb => sizeOf_any ka kn kc ks W hk.len (hk.lies.below hb (Nat.le_refl _)) (by omega) hkz
  have HPK : Hid (∀ W, Below w.heap.size w W → w.heap.size + 1 < W.heap.size → ResAt W (w.heap.size + 1) → (∃ cs, W.heap[w.heap.size + 1]? = some (.cells cs 31 (0, 0))) → _) := fun W hb hrl hres hrT => add_pack (kc := kc) (sz := (keysSize ks : Nat)) (kn := kn) (at0 := spot (snapOf (szAt Z i)).2.2.2 pt) h hB hi hev (by omega) hspl (show EShort (pt, ((keysSize ks : Nat) : Int), ks) from ⟨hpt, by rw [← hk.len]; show kn ≤ 1000000; omega, hkz⟩) hk.len hk.lies hb (Nat.le_succ _) hrl hres hrT
  have HSNAP : Hid (∀ a7 n7 cap7 a3 cap3, snapOf ((szAt Z i).1, (szAt Z i).2.1, (szAt Z i).2.2.1, Value.slice a7 n7 cap7, insY (szAt Z i).2.2.2.2 (spot (snapOf (szAt Z i)).2.2.2 pt) ((pt, ((keysSize ks : Nat) : Int), ks), Value.slice a3 kn cap3)) = (c, nm, false, putE (snapOf (szAt Z i)).2.2.2 (pt, ((keysSize ks : Nat) : Int), ks))) := fun a7 n7 cap7 a3 cap3 => by
    have e1 : (szAt Z i).1 = c := hc1
    have e2 : (szAt Z i).2.1 = nm := hc2
    have e3 : (szAt Z i).2.2.1 = false := hdn
    show (_, _, _, _) = (_, _, _, _)
    rw [e1, e2, e3]
    simp [insY, putE, snapOf, List.map_take, List.map_drop]
  have hix := fun w => index_snap ⟨g, 0, none⟩ Z.length cap i hi w
  have had : (⟨g, 0, none⟩ : Addr).add (i * 4) = ⟨g, i * 4, none⟩ := by rw [Addr.add_lit, Nat.zero_add]
  rw [had] at hix
  have HNO : Hid (fault (snapOf (szAt Z i)).2.2.2 pt (keysSize ks) ≠ 0 → ∀ w', Below w.heap.size w w' → T (.returned (bareV (fault (snapOf (szAt Z i)).2.2.2 pt (keysSize ks) : Nat) 0)) w') := hno
  have HYES : Hid (fault (snapOf (szAt Z i)).2.2.2 pt (keysSize ks) = 0 → ∀ v' z' w', snapOf z' = (c, nm, false, putE (snapOf (szAt Z i)).2.2.2 (pt, (keysSize ks : Int), ks)) → Next B p (.slice (some ⟨g, 0, none⟩) Z.length cap) Z w v' (Z.set i z') w' → T (.returned (bareV 0 0)) w') := hyes
  unfold maxLen at hcm
  generalize (snapOf (szAt Z i)).2.2.2 = E at *
  generalize hy : (szAt Z i).2.2.2.2 = ey at *
  generalize hne : ey.length = en at *
  generalize spot E pt = at0 at *
  generalize hf0 : fault E pt (keysSize ks) = ff at *
  have hat : at0 ≤ 32 := by omega
  clear h hp hk hkl hkz hpt hfit hno hyes hs0 hsn hfi hpl hdn hc1 hc2 hev hec hle hle' hcell hel hsrt hspl had hgw hf0 hne hy
  generalize keysSize ks = ksz at *
  go_enter Tryz.func21, Tryz.ntmps21
  go_wp2_with fail
  refine HP.out.mono ?_
  rintro e w1 ⟨rfl, hb1⟩
  have HB1 : Hid (Below (W2of w k nm pt ka kn kc m).heap.size (W2of w k nm pt ka kn kc m) w1) := hb1
  obtain ⟨⟨o0, o1, o2, o3, o4⟩, _, _, hbw, hlt, _⟩ := two_box hb1
  obtain ⟨c0, c3, _⟩ := HR.out w1 hbw
  clear hb1 HP
  go_wp2_with fail
  go_region_held (fun W => W.cell? ⟨w.heap.size, 2, none⟩ = some (.string pt) ∧ W.cell? ⟨w.heap.size, 3, none⟩ = some (.slice ka kn kc))
    (first | assumption | exact ⟨o2, o3⟩ | exact ⟨cell_kept ((Below.refl _ _).alloc (Nat.le_refl _) _) o2, cell_kept ((Below.refl _ _).alloc (Nat.le_refl _) _) o3⟩)
    (first | (go_at_call 40; refine (HZ.out _ (by first | exact hbw | exact hbw.drew | exact hbw.drew.alloc hbw.size _ | exact (hbw.alloc hbw.size _).drew)).mono ?_; rintro e w2 ⟨rfl, rfl⟩))
  all_goals
    obtain ⟨w3, hw3⟩ : ∃ w3, w3 = (w1.alloc (.cells #[.string pt, .int .i64 (ksz : Nat), .slice ka kn kc] 84)).drew := ⟨_, rfl⟩
    have hb3 : Below w1.heap.size w1 w3 := by rw [hw3]; exact ((Below.refl _ _).alloc (Nat.le_refl _) _).drew
    have HX3 : Hid (∀ W, Below w3.heap.size w3 W → W.cell? ⟨w1.heap.size, 0, none⟩ = some (.string pt) ∧ W.cell? ⟨w1.heap.size, 1, none⟩ = some (.int .i64 (ksz : Nat)) ∧ W.cell? ⟨w1.heap.size, 2, none⟩ = some (.slice ka kn kc) ∧ W.cell? ⟨g, i * 4 + 3, none⟩ = some (.slice ea en ec)) := fun W hb => by
      have hbq : Below w.heap.size w W := hbw.trans ((hb3.trans (hb.mono hb3.size)).mono hbw.size)
      refine ⟨cell_kept hb (by rw [hw3]; simp), cell_kept hb (by rw [hw3]; simp), cell_kept hb (by rw [hw3]; simp), (HR.out W hbq).2.1⟩
    have HB3 : Hid (Below (W2of w k nm pt ka kn kc m).heap.size (W2of w k nm pt ka kn kc m) w3) := HB1.out.trans (hb3.mono HB1.out.size)
    have HBW : Hid (∀ W, Below w3.heap.size w3 W → Below w.heap.size w W) := fun W hb => hbw.trans ((hb3.trans (hb.mono hb3.size)).mono hbw.size)
    have HF3 : Hid (∀ W, Below w3.heap.size w3 W → Calls Tryz.prog 41 #[.slice ea en ec, .agg #[.string pt, .int .i64 (ksz : Nat), .slice ka kn kc]] W fun e w' => e = .returned (.int .i64 (ff : Nat)) ∧ Below w3.heap.size w3 w') := fun W hb => by
      refine (HF.out W (HR.out W (HBW.out W hb)).2.2).mono ?_
      rintro e w' ⟨rfl, h⟩
      exact ⟨rfl, hb.trans (h.mono hb.size)⟩
    first
      | rw [← hw3]
      | (rw [show w1.drew.alloc (.cells #[.string pt, .int .i64 (ksz : Nat), .slice ka kn kc] 84) = w3 from hw3.symm])
    clear hw3 HZ o0 o1 o2 o3 o4 c0 c3 hix HF
    obtain ⟨b0, b1, b2, b3⟩ := HX3.out w3 (Below.refl _ _)
    go_wp2_with fail
    go_region_held (fun W => Below w3.heap.size w3 W ∧ W.cell? ⟨w1.heap.size, 0, none⟩ = some (.string pt) ∧ W.cell? ⟨w1.heap.size, 1, none⟩ = some (.int .i64 (ksz : Nat)) ∧ W.cell? ⟨w1.heap.size, 2, none⟩ = some (.slice ka kn kc) ∧ W.cell? ⟨g, i * 4 + 3, none⟩ = some (.slice ea en ec))
      (first | assumption | exact ⟨Below.refl _ _, HX3.out _ (Below.refl _ _)⟩ | exact ⟨(Below.refl _ _).drew, HX3.out _ (Below.refl _ _).drew⟩ | exact ⟨hb4, HX3.out _ hb4⟩)
      (first | (go_at_call 41; refine (HF3.out _ (by first | exact Below.refl _ _ | exact (Below.refl _ _).drew)).mono ?_; rintro e w4 ⟨rfl, hb4⟩))
    all_goals
      have HB4 : Hid (Below w3.heap.size w3 w4) := hb4
      clear hb4 HF3 b0 b1 b2 b3
      by_cases hfz : ff = 0
      · subst hfz
        have HY : Hid (∀ v' z' w', snapOf z' = (c, nm, false, putE E (pt, (ksz : Int), ks)) → Next B p (.slice (some ⟨g, 0, none⟩) Z.length cap) Z w v' (Z.set i z') w' → T (.returned (bareV 0 0)) w') := HYES.out rfl
        have HS4 : Hid (∀ W, Below w4.heap.size w4 W → Below w3.heap.size w3 W) := fun W hb => HB4.out.trans (hb.mono HB4.out.size)
        obtain ⟨b0, b1, b2, b3⟩ := HX3.out w4 HB4.out
        have HSC : Hid (∀ W, Below w4.heap.size w4 W → Calls Tryz.prog 42 #[.slice ea en ec, .string pt, .func (.func 43) #[] #[]] W fun e w' => ∃ b, e = .returned (.tuple #[.int .i64 (at0 : Nat), .bool b]) ∧ Below w4.heap.size w4 w') := fun W hb => by
          refine (HSE.out W (HR.out W (HBW.out W (HS4.out W hb))).2.2).mono ?_
          rintro e w' ⟨b, rfl, h⟩
          exact ⟨b, rfl, hb.trans (h.mono hb.size)⟩
        clear HNO HYES HSE
        go_wp2_with fail
        go_region_held (fun W => Below w4.heap.size w4 W ∧ W.cell? ⟨w1.heap.size, 0, none⟩ = some (.string pt) ∧ W.cell? ⟨g, i * 4 + 3, none⟩ = some (.slice ea en ec))
          (first | assumption | exact ⟨Below.refl _ _, (HX3.out _ (HS4.out _ (Below.refl _ _))).1, (HX3.out _ (HS4.out _ (Below.refl _ _))).2.2.2⟩ | exact ⟨(Below.refl _ _).drew, (HX3.out _ (HS4.out _ (Below.refl _ _).drew)).1, (HX3.out _ (HS4.out _ (Below.refl _ _).drew)).2.2.2⟩ | exact ⟨hb5, (HX3.out _ (HS4.out _ hb5)).1, (HX3.out _ (HS4.out _ hb5)).2.2.2⟩)
          (first | (go_at_call 42; refine (HSC.out _ (by first | exact Below.refl _ _ | exact (Below.refl _ _).drew)).mono ?_; rintro e w5 ⟨bb, rfl, hb5⟩))
        all_goals
          have HPK5 : Hid (∀ W, Below w5.heap.size w5 W → _) := fun W hb => by
            have hb3 : Below w3.heap.size w3 W := HS4.out W (hb5.trans (hb.mono hb5.size))
            have hbb := two_box (HB3.out.trans (hb3.mono HB3.out.size))
            exact HPK.out W hbb.2.2.2.1 hbb.2.2.2.2.1 ⟨hbb.2.1, hbb.2.2.1⟩ hbb.2.2.2.2.2
          obtain ⟨b0, b1, b2, b3⟩ := HX3.out w5 (HS4.out w5 hb5)
          clear HX3 HB3 HBW HB4 HS4 HSC HPK HR HB1 hb5
          go_wp2_with fail
          go_region_law
            (first
              | (go_simp; go_at_call 46; refine (HPK5.out _ ?_).mono ?_; first | exact Below.refl _ _ | exact (Below.refl _ _).drew; rintro e w6 ⟨a3, cap3, rfl, c6, c6', HIN⟩)
              | (go_simp; go_at_call 45; refine HIN.out.mono ?_; rintro e w7 ⟨a7, n7, cap7, o7, rfl, c7, f7, HNX, HRS⟩))
          all_goals
            have hrs : ResAt _ (w.heap.size + 1) := HRS.out
            obtain ⟨⟨d0, d1, d2, d3, d4⟩, hf⟩ := hrs
            have f0 := hf 0
            have f1' := hf 1
            have f2' := hf 2
            have f3 := hf 3
            have f4 := hf 4
            have hlast := HY.out _ _ _ (HSNAP.out a7 n7 cap7 a3 cap3) HNX.out
            have HL : Hid (T (.returned (bareV 0 0)) _) := hlast
            clear hlast hf HPK5 HIN HRS HNX HY HSNAP c6 c6' b0 b1 b2 b3
            go_wp2
            exact bodyPost_ret (v := bareV 0 0) (by simp [results, Tryz.results21, go_sem, d0, d1, d2, d3, d4]) rfl HL.out
      · have hd : ((ff : Int) == 0) = false := by simp; omega
        have HFZ : Hid (ff ≠ 0) := hfz
        clear hfz
        go_wp2_with fail
        refine (refusal_any (ff : Int) w4).mono ?_
        rintro e w5 ⟨rfl, hb5⟩
        obtain ⟨_, ⟨d0, d1, d2, d3, d4⟩, hf, hbw5, _, _⟩ := two_box ((HB3.out.trans (HB4.out.mono HB3.out.size)).trans (hb5.mono (HB3.out.trans (HB4.out.mono HB3.out.size)).size))
        have f0 := hf 0
        have f1' := hf 1
        have f2' := hf 2
        have f3 := hf 3
        have f4 := hf 4
        have HBW5 : Hid (Below w.heap.size w w5) := hbw5
        clear hb5 hf hbw5 hd
        go_wp2
        refine bodyPost_ret (v := bareV (ff : Int) 0) (by simp [results, Tryz.results21, go_sem, d0, d1, d2, d3, d4]) rfl ?_
        exact HNO.out HFZ.out _ (below_set5b HBW5.out (Nat.le_succ _))
end Go.Proofs.YtlpgdfdadkljfaaGreat.Cat
