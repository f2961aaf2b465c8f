/-
  The entry of a file whose path is one and whose bytes are not too many: the program's 'newEntry'.
-/
import Derived.Test.YtcjkficpiedpfabDoorTrNew
namespace Go.Proofs.YtcjkficpiedpfabDoor.Tree
open Go.RowKit Route Chunk

set_option maxHeartbeats 4000000 in
set_option maxRecDepth 100000 in
theorem new_core (T : Ending → World → Prop) (a : Option Addr) (n cap : Nat) (l : List (ByteArray × ByteArray)) (p bs : ByteArray) (m M K : Nat) (w : World) (hp : isPath p = true) (hps : p.size ≤ 2000) (hbs : bs.size ≤ 1024) (hm : 1 ≤ m) (hmM : m ≤ M) (hM : M ≤ 64) (hK : K < 256)
    (hn0 : n = l.length) (hl0 : LiesF w a l) (hnm : n ≤ 100) (hls : ∀ j, j < n → (fileOf l j).1.size ≤ 2000)
    (h4 : (∃ j, j < n ∧ clashB (fileOf l j).1 p = true) → ∀ w', Below w.heap.size w w' → T (.returned (.tuple #[.agg #[.string ⟨#[]⟩, .int .i64 0, .slice none 0 0], .iface 43 (.int .i64 4)])) w')
    (hok : (∀ j, j < n → clashB (fileOf l j).1 p = false) → ∀ v w', Strs w.heap.size v (chunks m M K bs) w w' → T (.returned (.tuple #[.agg #[.string p, .int .i64 (bs.size : Int), v], .nilIface])) w') :
    Calls Tryd.prog 14 #[.slice a n cap, .agg #[.string p, .string bs], cutV (m : Int) (M : Int) (K : Int)] w T := by
  have hc : Hid (∀ W, Calls Tryd.prog 26 #[.string p] W fun e w' => e = .returned .nilIface ∧ Below W.heap.size W w') := fun W => check_ok p W (by omega) hp
  have hs : Hid (∀ W, Calls Tryd.prog 27 #[.string bs, cutV (m : Int) (M : Int) (K : Int)] W fun e w' => ∃ v, e = .returned (.tuple #[v, .nilIface]) ∧ Strs W.heap.size v (chunks m M K bs) W w') := fun W => split_ok bs m M K W hbs hm hmM hM hK
  have hcl : Hid (∀ j, j < n → ∀ W, Calls Tryd.prog 28 #[.string (fileOf l j).1, .string p] W fun e w' => e = .returned (.bool (clashB (fileOf l j).1 p)) ∧ Below W.heap.size W w') := fun j hj W => clash_any _ p W (by have := hls j hj; omega) (by omega)
  have hcp : Hid (∀ W, Calls Tryd.prog 21 #[.string p] W fun e w' => e = .returned (.string p) ∧ Below W.heap.size W w') := fun W => Chunk.clone_any p W (by omega)
  have HL : Hid (LiesF w a l) := hl0
  have HN : Hid (n = l.length) := hn0
  have H4 : Hid ((∃ j, j < n ∧ clashB (fileOf l j).1 p = true) → ∀ w', Below w.heap.size w w' → T (.returned (.tuple #[.agg #[.string ⟨#[]⟩, .int .i64 0, .slice none 0 0], .iface 43 (.int .i64 4)])) w') := h4
  generalize chunks m M K bs = C at hs hok
  obtain ⟨z, hz⟩ : ∃ z, z = bs.size := ⟨_, rfl⟩
  have hlen := Tree.len_text bs z hz
  rw [← hz] at hok
  have HOK : Hid ((∀ j, j < n → clashB (fileOf l j).1 p = false) → ∀ v w', Strs w.heap.size v C w w' → T (.returned (.tuple #[.agg #[.string p, .int .i64 (z : Int), v], .nilIface])) w') := hok
  obtain ⟨L, hL⟩ : ∃ L, L = C.length := ⟨_, rfl⟩
  have HCL : Hid (L = C.length) := hL
  obtain ⟨W3, hW3⟩ : ∃ W3, W3 = new3 w p bs (m : Int) (M : Int) (K : Int) := ⟨_, rfl⟩
  have HW : Hid (new3 w p bs (m : Int) (M : Int) (K : Int) = W3) := hW3.symm
  unfold cutV at hs ⊢
  clear hp hps hbs hm hmM hM hK hn0 hl0 hls h4 hok hz hL hW3
  go_enter Tryd.func14, Tryd.ntmps14
  go_wp2_with fail
  refine (hc.out _).mono ?_
  rintro e w1 ⟨rfl, hb1⟩
  obtain ⟨⟨a0, a1⟩, ⟨b0, b1, b2⟩, _, _, _, _⟩ := new3_in hb1
  have HB1 : Hid (Below W3.heap.size W3 w1) := by rw [← HW.out]; exact hb1
  clear hb1
  go_wp2_with fail
  refine (hs.out _).mono ?_
  rintro e w2 ⟨v, rfl, hst⟩
  obtain ⟨ac, capc, rfl, _, _, _⟩ := hst.liesN HCL.out
  have HST : Hid (Strs w1.heap.size (.slice ac L capc) C w1 w2) := hst
  have HSZ : Hid (W3.heap.size ≤ w1.heap.size) := HB1.out.size
  clear hst a0 a1 b0 b1 b2
  go_wp2
  go_loopw [12, 33] (fun _ t33 wr => ∃ i : Nat, t33 = .int .i64 (i : Int) ∧ i ≤ n ∧ Strs w1.heap.size (.slice ac L capc) C w1 wr ∧ Hid (∀ j, j < i → clashB (fileOf l j).1 p = false)) (fun _ t33 _ => n - (intOf t33).toNat)
  case atStart => exact ⟨0, rfl, Nat.zero_le _, HST.out, fun j hj => by omega⟩
  case round =>
    obtain ⟨i, rfl, hi, hsr, HI⟩ := hrel
    have hbr : Below W3.heap.size W3 wr := HB1.out.trans (hsr.2.1.mono HSZ.out)
    obtain ⟨⟨a0, a1⟩, _, ⟨c0, c1, c2⟩, ⟨f0, f1, f2⟩, hbw, hlt⟩ := new3_in (HW.out ▸ hbr)
    have hlt1 : w.heap.size < wr.heap.size := by omega
    by_cases hin : i < n
    · obtain ⟨x, hx, g0, g1⟩ := (HL.out.below hbw (Nat.le_refl _)).at (j := i) (by rw [← HN.out]; exact hin)
      subst hx
      have hu := hcl.out i hin
      have HI2 : Hid (clashB (fileOf l i).1 p = false → ∀ j, j < i + 1 → clashB (fileOf l j).1 p = false) := fun hq j hj => by
        by_cases hji : j = i
        · subst hji; exact hq
        · exact HI.out j (by omega)
      have HX : Hid (clashB (fileOf l i).1 p = true → ∀ w', Below w.heap.size w w' → T (.returned (.tuple #[.agg #[.string ⟨#[]⟩, .int .i64 0, .slice none 0 0], .iface 43 (.int .i64 4)])) w') := fun hq => H4.out ⟨i, hin, hq⟩
      generalize fileOf l i = en at g0 g1 hu HI2 HX
      obtain ⟨p', bs'⟩ := en
      have hix := index_file x n cap i hin
      simp only at g0 g1 hu HI2 HX
      generalize x.add (i * 2) = q at g0 g1 hix
      generalize clashB p' p = b at hu HI2 HX
      have HSR : Hid (Strs w1.heap.size (.slice ac L capc) C w1 wr) := hsr
      clear HI hbr hbw hsr c0 c1 c2 f0 f1 f2 a1
      go_wp2_with fail
      refine (hu _).mono ?_
      rintro e w4 ⟨rfl, hb4⟩
      have HS4 : Hid (Strs w1.heap.size (.slice ac L capc) C w1 w4) := (HSR.out.alloc _).later hb4
      clear hb4 HSR a0
      cases b with
      | true =>
        have hb5 : Below W3.heap.size W3 w4 := HB1.out.trans (HS4.out.2.1.mono HSZ.out)
        obtain ⟨_, _, ⟨c0, c1, c2⟩, ⟨f0, f1, f2⟩, hbw, hlt⟩ := new3_in (HW.out ▸ hb5)
        have HB : Hid (Below w.heap.size w w4) := hbw
        have HT := HX.out rfl
        have HT2 : Hid (∀ w', Below w.heap.size w w' → T (.returned (.tuple #[.agg #[.string ⟨#[]⟩, .int .i64 0, .slice none 0 0], .iface 43 (.int .i64 4)])) w') := HT
        clear hb5 hbw HT HX HI2
        go_wp2
        refine bodyPost_ret (v := .tuple #[.agg #[.string ⟨#[]⟩, .int .i64 0, .slice none 0 0], .iface 43 (.int .i64 4)]) (by simp [results, Tryd.results14, go_sem, c0, c1, c2]) rfl ?_
        exact HT2.out _ (((HB.out.setCell (show w.heap.size ≤ w.heap.size + 1 + 1 by omega) _).setCell (show w.heap.size ≤ w.heap.size + 1 + 1 by omega) _).setCell (show w.heap.size ≤ w.heap.size + 1 + 1 by omega) _)
      | false =>
        have HI3 : Hid (∀ j, j < i + 1 → clashB (fileOf l j).1 p = false) := HI2.out rfl
        clear HI2 HX
        go_wp2
        go_roundw
        case rel => exact ⟨i + 1, by go_num, by omega, HS4.out, HI3⟩
        case measure => simp [intOf]; omega
    · have HT2 : Hid (∀ v w', Strs w.heap.size v C w w' → T (.returned (.tuple #[.agg #[.string p, .int .i64 (z : Int), v], .nilIface])) w') := HOK.out (fun j hj => HI.out j (by omega))
      have HQ : Hid (Calls Tryd.prog 21 #[.string p] wr.drew fun e w' => e = .returned (.string p) ∧ Strs w1.heap.size (.slice ac L capc) C w1 w') := by
        refine (hcp.out wr.drew).mono ?_
        rintro e w' ⟨rfl, hb⟩
        exact ⟨rfl, (hsr.later ((Below.refl _ _).drew)).later hb⟩
      have HF : Hid (∀ W, Strs w1.heap.size (.slice ac L capc) C w1 W → (W.cell? ⟨w.heap.size, 0, none⟩ = some (.string p) ∧ W.cell? ⟨w.heap.size, 1, none⟩ = some (.string bs)) ∧ (W.cell? ⟨w.heap.size + 1 + 1, 0, none⟩ = some (.string ⟨#[]⟩) ∧ W.cell? ⟨w.heap.size + 1 + 1, 1, none⟩ = some (.int .i64 0) ∧ W.cell? ⟨w.heap.size + 1 + 1, 2, none⟩ = some (.slice none 0 0)) ∧
          (W.frozen? ⟨w.heap.size + 1 + 1, 0, none⟩ = false ∧ W.frozen? ⟨w.heap.size + 1 + 1, 1, none⟩ = false ∧ W.frozen? ⟨w.heap.size + 1 + 1, 2, none⟩ = false) ∧ Below w.heap.size w W) := by
        intro W h
        obtain ⟨e1, _, e2, e3, e4, _⟩ := new3_in (HW.out ▸ (HB1.out.trans (h.2.1.mono HSZ.out)))
        exact ⟨e1, e2, e3, e4⟩
      clear HI hbr hbw hsr HOK
      go_wp2_with fail
      go_region_with (first | (go_at_call 21; refine HQ.out.mono ?_; rintro e w3 ⟨rfl, hs3⟩; obtain ⟨⟨a0', a1'⟩, ⟨c0', c1', c2'⟩, ⟨f0', f1', f2'⟩, hbw'⟩ := HF.out w3 hs3))
      all_goals
        have HO : Hid (Strs w1.heap.size (.slice ac L capc) C w1 w3) := hs3
        have hsz : w.heap.size + 3 ≤ w1.heap.size := by
          have h1 := HSZ.out
          have h2 := new3_size w p bs (m : Int) (M : Int) (K : Int)
          rw [HW.out] at h2
          omega
        have HB : Hid (Below w.heap.size w w3) := hbw'
        go_wp2
        refine bodyPost_ret (v := .tuple #[.agg #[.string p, .int .i64 (z : Int), .slice ac L capc], .nilIface]) (by simp [results, Tryd.results14, go_sem, c0', c1', c2']) rfl ?_
        refine HT2.out _ _ ⟨?_, ((HB.out.setCell (show w.heap.size ≤ w.heap.size + 1 + 1 by omega) _).setCell (show w.heap.size ≤ w.heap.size + 1 + 1 by omega) _).setCell (show w.heap.size ≤ w.heap.size + 1 + 1 by omega) _, ?_⟩
        · exact own_mono (own_far (own_far (own_far HO.out.1 (by omega)) (by omega)) (by omega)) (by omega)
        · have := HB.out.size
          simp
          omega
end Go.Proofs.YtcjkficpiedpfabDoor.Tree
