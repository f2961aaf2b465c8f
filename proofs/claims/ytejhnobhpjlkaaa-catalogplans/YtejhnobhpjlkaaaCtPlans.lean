/-
  The walk of CatalogPlans.
-/
import Derived.Test.YtejhnobhpjlkaaaCtPlansM
import Derived.Test.YtejhnobhpjlkaaaCtUp
import Derived.Deep.QuietTactic
namespace Go.Proofs.Ytejhnobhpjlkaaa.Cat
open Go.RowKit Route Tree Order

set_option maxHeartbeats 16000000 in
set_option maxRecDepth 100000 in
theorem catalogPlans_main (client : Int) (nm : ByteArray) (pa : Option Addr) (pn pcap : Nat) (pl : List ByteArray) (qa : Option Addr) (qn qcap : Nat) (ql : List ByteArray) (w : World) (hnm : nm.size ≤ maxLen) (hpn : pn = pl.length) (hpl : Route.Lies w pa pl) (hpm : pn ≤ 9223372036854775807) (hps : ∀ s ∈ pl, s.size ≤ maxLen) (hqn : qn = ql.length) (hql : Route.Lies w qa ql) (hqm : qn ≤ 9223372036854775807) (hqs : ∀ s ∈ ql, s.size ≤ maxLen) (hqc : qn ≤ qcap) :
    Calls Try.prog 4 #[.int .i64 client, .string nm, .slice pa pn pcap, .slice qa qn qcap] w fun e w' => e = .returned (.bool true) ∧ Below w.heap.size w w' := by
  have HPN : Hid (pn = pl.length) := hpn
  have HPL : Hid (Route.Lies w pa pl) := hpl
  have HPS : Hid (∀ s ∈ pl, s.size ≤ maxLen) := hps
  have HQN : Hid (qn = ql.length) := hqn
  have HQL : Hid (Route.Lies w qa ql) := hql
  have HQS : Hid (∀ s ∈ ql, s.size ≤ maxLen) := hqs
  have HQC : Hid (qn ≤ qcap) := hqc
  have HU : Hid (Calls _ _ _ _ _) := up_any w
  obtain ⟨y, hy⟩ : ∃ y, y = nm.size := ⟨_, rfl⟩
  have HY : Hid (y = nm.size) := hy
  have hlen := Order.len_text nm y hy
  have hym : y ≤ 9223372036854775807 := by rw [hy]; exact hnm
  clear hpn hpl hps hqn hql hqs hy hnm hqc
  go_enter Try.func4, Try.ntmps4
  go_wp2_with fail
  refine HU.out.mono ?_
  rintro e w1 ⟨rfl, hb1⟩
  have HB1 : Hid (Below w.heap.size w w1) := hb1
  clear HU hb1
  go_wp2_with fail
  refine (new_any w1).mono ?_
  rintro e w3 ⟨rfl, hw3⟩
  have HA : Hid (Lw w w1.heap.size w1.heap.size (.slice none 0 0) [] w3) := by
    rw [hw3]
    exact ⟨cat_new (Nat.le_refl _), Inv.nil, HB1.out.alloc HB1.out.size _, HB1.out.size, by simp⟩
  generalize w1.heap.size = p at *
  clear hw3 HB1
  by_cases hy2 : 100 < y
  · go_wp2
    go_ret
    exact ⟨by rfl, HA.out.bel⟩
  have HNM : Hid (nm.size ≤ 100000) := by show _ ≤ _; rw [← HY.out]; omega
  by_cases hp50 : 50 < pn
  · go_wp2
    go_ret
    exact ⟨by rfl, HA.out.bel⟩
  by_cases hq100 : 100 < qn
  · go_wp2
    go_ret
    exact ⟨by rfl, HA.out.bel⟩
  go_wp2
  clear hlen
  have HPA : Hid (Route.Lies w3 pa pl) := HPL.out.below HA.out.bel (Nat.le_refl _)
  have HQA : Hid (Route.Lies w3 qa ql) := HQL.out.below HA.out.bel (Nat.le_refl _)
  go_loop [8, 11] (fun t8 t11 => ∃ j : Nat, t8 = .bool false ∧ t11 = .int .i64 (j : Int) ∧ j ≤ pn ∧ Hid (∀ i, i < j → (pl.getD i ByteArray.empty).size ≤ 2000)) (fun _ t11 => pn - (intOf t11).toNat)
  case atStart => exact ⟨0, rfl, rfl, Nat.zero_le _, fun i hi => by omega⟩
  case round =>
    obtain ⟨j, rfl, rfl, hj, HJ⟩ := hrel
    by_cases hjn : j < pn
    · obtain ⟨bb, off, hb, hc⟩ := HPA.out.at (by rw [← HPN.out]; omega)
      subst hb
      have hcell := hc j (by rw [← HPN.out]; exact hjn)
      obtain ⟨s, hs⟩ : ∃ s, s = pl.getD j ByteArray.empty := ⟨_, rfl⟩
      have HSJ : Hid (s = pl.getD j ByteArray.empty) := hs
      rw [← hs] at hcell
      have hsm : s.size ≤ maxLen := HPS.out s (by rw [hs]; simp [List.getD_eq_getElem?_getD, List.getElem?_eq_getElem (show j < pl.length by rw [← HPN.out]; exact hjn)])
      obtain ⟨z, hz⟩ : ∃ z, z = s.size := ⟨_, rfl⟩
      have hls := Order.len_text s z hz
      have hzm : z ≤ 9223372036854775807 := by rw [hz]; exact hsm
      have HZ : Hid (z = s.size) := hz
      clear hs hc hsm hz
      by_cases hz2 : 2000 < z
      · go_wp2
        go_ret
        exact ⟨rfl, HA.out.bel⟩
      · have HJ2 : Hid (∀ i, i < j + 1 → (pl.getD i ByteArray.empty).size ≤ 2000) := fun i hi => by
          by_cases e : i = j
          · subst e; rw [← HSJ.out, ← HZ.out]; omega
          · exact HJ.out i (by omega)
        go_wp2
        go_round
        case rel => exact ⟨j + 1, rfl, by go_num, by omega, HJ2⟩
        case measure => simp [intOf]; omega
    · have HPZ : Hid (∀ i, i < pn → (pl.getD i ByteArray.empty).size ≤ 2000) := fun i hi => HJ.out i (by omega)
      clear HJ
      go_wp2
      go_loop [8, 12] (fun t8 t12 => ∃ j : Nat, t8 = .bool false ∧ t12 = .int .i64 (j : Int) ∧ j ≤ qn) (fun _ t12 => qn - (intOf t12).toNat)
      case atStart => exact ⟨0, rfl, rfl, Nat.zero_le _⟩
      case round =>
        obtain ⟨j2, rfl, rfl, hj2⟩ := hrel
        by_cases hjn2 : j2 < qn
        · obtain ⟨bb, off, hb, hc⟩ := HQA.out.at (by rw [← HQN.out]; omega)
          subst hb
          have hcell := hc j2 (by rw [← HQN.out]; exact hjn2)
          obtain ⟨s, hs⟩ : ∃ s, s = ql.getD j2 ByteArray.empty := ⟨_, rfl⟩
          rw [← hs] at hcell
          have hsm : s.size ≤ maxLen := HQS.out s (by rw [hs]; simp [List.getD_eq_getElem?_getD, List.getElem?_eq_getElem (show j2 < ql.length by rw [← HQN.out]; exact hjn2)])
          obtain ⟨z, hz⟩ : ∃ z, z = s.size := ⟨_, rfl⟩
          have hls := Order.len_text s z hz
          have hzm : z ≤ 9223372036854775807 := by rw [hz]; exact hsm
          clear hs hc hsm hz
          by_cases hz2 : 2000 < z
          · go_wp2
            go_ret
            exact ⟨rfl, HA.out.bel⟩
          · go_wp2
            go_round
            case rel => exact ⟨j2 + 1, rfl, by go_num, by omega⟩
            case measure => simp [intOf]; omega
        · have HD : Hid (Calls _ _ _ _ _) := own_call2 HA.out (c := client) (k := 1) (m := 0) (pt := ⟨#[]⟩) HNM.out (by decide) (keys_none w3)
          go_wp2_with fail
          refine HD.out.mono ?_
          rintro e w5 ⟨⟨yaa, yba, s2a, n2a, c2a, s3a, n3a, c3a, s4a, n4a, c4a⟩, v5, Z5, rfl, HD5⟩
          have H6 : Hid (Did p p (.slice none 0 0) [] ⟨client, 1, 1, 0, nm, ⟨#[]⟩, []⟩ w3 ⟨yaa, yba, s2a, n2a, c2a, s3a, n3a, c3a, s4a, n4a, c4a⟩ v5 Z5 (w5.alloc (.cells #[.int .i64 yaa, .int .i64 yba, .slice s2a n2a c2a, .slice s3a n3a c3a, .slice s4a n4a c4a] 30)) ∧ ABox (w5.alloc (.cells #[.int .i64 yaa, .int .i64 yba, .slice s2a n2a c2a, .slice s3a n3a c3a, .slice s4a n4a c4a] 30)) w5.heap.size ⟨yaa, yba, s2a, n2a, c2a, s3a, n3a, c3a, s4a, n4a, c4a⟩) := HD5.out.lay
          have HQ6 : Hid (Lw w p p v5 Z5 (w5.alloc (.cells #[.int .i64 yaa, .int .i64 yba, .slice s2a n2a c2a, .slice s3a n3a c3a, .slice s4a n4a c4a] 30))) := HA.out.did H6.out.1
          obtain ⟨b0, b1, b2, b3, b4⟩ := H6.out.2.cells
          have q1 := H6.out.1.ans.parts.1
          simp only at b0 b1 b2 b3 b4 q1
          by_cases hcode : (full ([] : List Snap) ⟨client, 1, 1, 0, nm, ⟨#[]⟩, []⟩).1.code = 0
          · obtain ⟨hmay, _, hsn⟩ := full_begin hcode
            have HMAY : Hid (may ⟨client, 1, 1, 0, nm, ⟨#[]⟩, []⟩ = true) := hmay
            have HS6 : Hid (Z5.map snapOf = [(client, nm, false, [])]) := H6.out.1.snaps.trans hsn
            have q1' : yaa = 0 := by rw [q1]; show ((full ([] : List Snap) ⟨client, 1, 1, 0, nm, ⟨#[]⟩, []⟩).1.code : Int) = 0; rw [hcode]; rfl
            subst q1'
            have HIN : Hid (InR p (.slice none 0 0) [] Z5 (w5.alloc (.cells #[.int .i64 0, .int .i64 yba, .slice s2a n2a c2a, .slice s3a n3a c3a, .slice s4a n4a c4a] 30))) := ⟨World.ownsRow_nil _ _ _ _, fun k hk => by simp [Value.ownBlock] at hk⟩
            clear q1 hcode hmay hsn H6 HD5 HD HA
            go_wp2
            clear b0 b1 b2 b3 b4
            generalize (w5.alloc (.cells #[.int .i64 0, .int .i64 yba, .slice s2a n2a c2a, .slice s3a n3a c3a, .slice s4a n4a c4a] 30)) = w6 at HQ6 HIN ⊢
            go_loopw [14, 15, 16] (fun t14 t15 _ wr => ∃ (i : Nat) (v : Value) (Z : List SZ) (E : List Ent) (I : List ByteArray) (ia : Option Addr) (il ic : Nat), t14 = .slice ia il ic ∧ t15 = .int .i64 (i : Int) ∧ i ≤ pn ∧ il ≤ i ∧ Hid (Lw w p p v Z wr) ∧ Hid (Z.map snapOf = [(client, nm, false, E)] ∧ PI E I ql) ∧ Hid (InR p (.slice ia il ic) I Z wr)) (fun _ t15 _ _ => pn - (intOf t15).toNat)
            case atStart => exact ⟨0, _, _, [], [], _, _, _, rfl, rfl, Nat.zero_le _, Nat.zero_le _, HQ6, ⟨HS6.out, rfl, fun e he => (by cases he)⟩, HIN⟩
            case round =>
              clear HQ6 HS6 HIN
              obtain ⟨i, v, Z, E, I, ia, il, ic, rfl, rfl, hi, hil, HQ, HZ, HIN⟩ := hrel
              have hilen : il = I.length := (texts_read HIN.out.own).1
              have HIL : Hid (il = I.length) := hilen
              clear hilen
              by_cases hin : i < pn
              · obtain ⟨bb, off, hb, hc⟩ := HPL.out.at (by rw [← HPN.out]; omega)
                subst hb
                have hcell := hc i (by rw [← HPN.out]; exact hin)
                have HSZ : Hid ((pl.getD i ByteArray.empty).size ≤ 2000) := HPZ.out i hin
                generalize pl.getD i ByteArray.empty = s at hcell HSZ
                have HC0 : Hid (∀ W, Below w.heap.size w W → W.cell? ⟨bb, off + i, none⟩ = some (.string s)) := fun W hb => cell_low hb (Nat.le_refl _) hcell
                clear hcell
                have hcell := HC0.out _ HQ.out.bel
                have HKA : KeysAt wr qa qn qcap ql := ⟨HQN.out, HQL.out.below HQ.out.bel (Nat.le_refl _), by omega, HQC.out⟩
                have HD : Hid (Calls _ _ _ _ _) := own_call2 HQ.out (c := client) (k := 2) (m := 0) (pt := s) HNM.out (by have := HSZ.out; omega) HKA
                clear HKA hc
                go_wp2_with fail
                refine HD.out.mono ?_
                rintro e w9 ⟨⟨yab, ybb, s2b, n2b, c2b, s3b, n3b, c3b, s4b, n4b, c4b⟩, v9, Z9, rfl, HD9⟩
                have H10 : Hid (Did p p v Z ⟨client, 1, 2, 0, nm, s, ql⟩ wr ⟨yab, ybb, s2b, n2b, c2b, s3b, n3b, c3b, s4b, n4b, c4b⟩ v9 Z9 (w9.alloc (.cells #[.int .i64 yab, .int .i64 ybb, .slice s2b n2b c2b, .slice s3b n3b c3b, .slice s4b n4b c4b] 30)) ∧ ABox (w9.alloc (.cells #[.int .i64 yab, .int .i64 ybb, .slice s2b n2b c2b, .slice s3b n3b c3b, .slice s4b n4b c4b] 30)) w9.heap.size ⟨yab, ybb, s2b, n2b, c2b, s3b, n3b, c3b, s4b, n4b, c4b⟩) := HD9.out.lay
                have HQ10 : Hid (Lw w p p v9 Z9 (w9.alloc (.cells #[.int .i64 yab, .int .i64 ybb, .slice s2b n2b c2b, .slice s3b n3b c3b, .slice s4b n4b c4b] 30))) := HQ.out.did H10.out.1
                have HI10 : Hid (InR p (.slice ia il ic) I Z9 (w9.alloc (.cells #[.int .i64 yab, .int .i64 ybb, .slice s2b n2b c2b, .slice s3b n3b c3b, .slice s4b n4b c4b] 30))) := HIN.out.did HQ.out.cat H10.out.1
                obtain ⟨b0, b1, b2, b3, b4⟩ := H10.out.2.cells
                have q1 := H10.out.1.ans.parts.1
                simp only at b0 b1 b2 b3 b4 q1
                have hz0 := hcell
                have hcell := HC0.out _ HQ10.out.bel
                clear hz0
                have hsn := H10.out.1.snaps
                rw [HZ.out.1] at q1 hsn
                rcases plan_add (client := client) (nm := nm) (pt := s) HZ.out.2 with ⟨hc0, E', hE', hPI⟩ | ⟨hc0, hE'⟩
                · have q1' : yab = 0 := by rw [q1, hc0]; rfl
                  subst q1'
                  have HS10 : Hid (Z9.map snapOf = [(client, nm, false, E')] ∧ PI E' (I ++ [s]) ql) := ⟨hsn.trans hE', hPI⟩
                  clear q1 hsn hc0 hE' hPI H10 HD9 HD HQ HIN HZ
                  go_wp2_with (at_builtin; refine wpList_in rfl (.tmp 104) (.tmp 109) rfl p _ I rfl (w9.alloc (.cells #[.int .i64 0, .int .i64 ybb, .slice s2b n2b c2b, .slice s3b n3b c3b, .slice s4b n4b c4b] 30)) s HI10.out.own HQ10.out.fit (w9.heap.size + 1) (by simp) rfl (by have := HIL.out; omega) ?_; intro v' w' hO hG hAt)
                  obtain ⟨HI11, HQ11⟩ := InR.grow HI10.out HQ10.out hO.out hG.out hAt.out
                  obtain ⟨a', c', e', _⟩ := key_lies hO.out
                  subst e'
                  have HI12 : Hid (InR p (.slice a' (I ++ [s]).length c') (I ++ [s]) Z9 w') := HI11
                  have HQ12 : Hid (Lw w p p v9 Z9 w') := HQ11
                  have hle2 : (I ++ [s]).length ≤ i + 1 := by have := HIL.out; simp; omega
                  clear HI11 HQ11 HI10 HQ10 hO hG hAt b0 b1 b2 b3 b4 hcell
                  generalize (I ++ [s]).length = il2 at hle2 HI12 ⊢
                  go_roundw
                  case rel => exact ⟨i + 1, v9, Z9, E', I ++ [s], a', il2, c', rfl, by go_num, by omega, hle2, HQ12, HS10, HI12⟩
                  case measure => simp [intOf]; omega
                · have hya : (yab == 0) = false := by rw [q1]; simp; exact hc0
                  have HS10 : Hid (Z9.map snapOf = [(client, nm, false, E)] ∧ PI E I ql) := ⟨hsn.trans hE', HZ.out.2⟩
                  clear q1 hsn hc0 hE' H10 HD9 HD HQ HIN HZ
                  go_wp2
                  go_roundw
                  case rel => exact ⟨i + 1, v9, Z9, E, I, ia, il, ic, rfl, by go_num, by omega, by omega, HQ10, HS10, HI10⟩
                  case measure => simp [intOf]; omega
              · have HD : Hid (Calls _ _ _ _ _) := own_call2 HQ.out (c := client) (k := 3) (m := 0) (pt := ⟨#[]⟩) HNM.out (by decide) (keys_none wr)
                go_wp2_with fail
                refine HD.out.mono ?_
                rintro e w9 ⟨⟨yac, ybc, s2c, n2c, c2c, s3c, n3c, c3c, s4c, n4c, c4c⟩, v9, Z9, rfl, HD9⟩
                have H10 : Hid (Did p p v Z ⟨client, 1, 3, 0, nm, ⟨#[]⟩, []⟩ wr ⟨yac, ybc, s2c, n2c, c2c, s3c, n3c, c3c, s4c, n4c, c4c⟩ v9 Z9 (w9.alloc (.cells #[.int .i64 yac, .int .i64 ybc, .slice s2c n2c c2c, .slice s3c n3c c3c, .slice s4c n4c c4c] 30)) ∧ ABox (w9.alloc (.cells #[.int .i64 yac, .int .i64 ybc, .slice s2c n2c c2c, .slice s3c n3c c3c, .slice s4c n4c c4c] 30)) w9.heap.size ⟨yac, ybc, s2c, n2c, c2c, s3c, n3c, c3c, s4c, n4c, c4c⟩) := HD9.out.lay
                have HQ10 : Hid (Lw w p p v9 Z9 (w9.alloc (.cells #[.int .i64 yac, .int .i64 ybc, .slice s2c n2c c2c, .slice s3c n3c c3c, .slice s4c n4c c4c] 30))) := HQ.out.did H10.out.1
                have HI10 : Hid (InR p (.slice ia il ic) I Z9 (w9.alloc (.cells #[.int .i64 yac, .int .i64 ybc, .slice s2c n2c c2c, .slice s3c n3c c3c, .slice s4c n4c c4c] 30))) := HIN.out.did HQ.out.cat H10.out.1
                have q1 := H10.out.1.ans.parts.1
                have hsn := H10.out.1.snaps
                rw [HZ.out.1, plan_commit HMAY.out] at q1 hsn
                have HS10 : Hid (Z9.map snapOf = [(client, nm, true, E)] ∧ PI E I ql) := ⟨hsn, HZ.out.2⟩
                have q1' : yac = 0 := q1
                subst q1'
                have HBC : Hid (ABox (w9.alloc (.cells #[.int .i64 0, .int .i64 ybc, .slice s2c n2c c2c, .slice s3c n3c c3c, .slice s4c n4c c4c] 30)) w9.heap.size ⟨0, ybc, s2c, n2c, c2c, s3c, n3c, c3c, s4c, n4c, c4c⟩) := H10.out.2
                have HD2 : Hid (Calls _ _ _ _ _) := plan_told HQ10.out (c := client) (m := 0) (pt := ⟨#[]⟩) HNM.out (by decide) (keys_none _)
                clear q1 hsn H10 HD9 HD HQ HIN HZ
                go_wp2_with fail
                refine HD2.out.mono ?_
                rintro e w10 ⟨⟨yad, ybd, s2d, n2d, c2d, s3d, n3d, c3d, s4d, n4d, c4d⟩, rfl, HT⟩
                have hb10 := HT.out.1
                have hal : Below w10.heap.size w10 (w10.alloc (.cells #[.int .i64 yad, .int .i64 ybd, .slice s2d n2d c2d, .slice s3d n3d c3d, .slice s4d n4d c4d] 30)) := (Below.refl _ _).alloc (Nat.le_refl _) _
                have HB12 : Hid (Below (w9.alloc (.cells #[.int .i64 0, .int .i64 ybc, .slice s2c n2c c2c, .slice s3c n3c c3c, .slice s4c n4c c4c] 30)).heap.size (w9.alloc (.cells #[.int .i64 0, .int .i64 ybc, .slice s2c n2c c2c, .slice s3c n3c c3c, .slice s4c n4c c4c] 30)) (w10.alloc (.cells #[.int .i64 yad, .int .i64 ybd, .slice s2d n2d c2d, .slice s3d n3d c3d, .slice s4d n4d c4d] 30))) := hb10.trans (hal.mono hb10.size)
                have HQ12 : Hid (Lw w p p v9 Z9 (w10.alloc (.cells #[.int .i64 yad, .int .i64 ybd, .slice s2d n2d c2d, .slice s3d n3d c3d, .slice s4d n4d c4d] 30))) := HQ10.out.below HB12.out
                have HI12 : Hid (InR p (.slice ia il ic) I Z9 (w10.alloc (.cells #[.int .i64 yad, .int .i64 ybd, .slice s2d n2d c2d, .slice s3d n3d c3d, .slice s4d n4d c4d] 30))) := HI10.out.below HB12.out
                have HBC2 : Hid (ABox (w10.alloc (.cells #[.int .i64 yad, .int .i64 ybd, .slice s2d n2d c2d, .slice s3d n3d c3d, .slice s4d n4d c4d] 30)) w9.heap.size ⟨0, ybc, s2c, n2c, c2c, s3c, n3c, c3c, s4c, n4c, c4c⟩) := HBC.out.below HB12.out
                have HBD : Hid (ABox (w10.alloc (.cells #[.int .i64 yad, .int .i64 ybd, .slice s2d n2d c2d, .slice s3d n3d c3d, .slice s4d n4d c4d] 30)) w10.heap.size ⟨yad, ybd, s2d, n2d, c2d, s3d, n3d, c3d, s4d, n4d, c4d⟩) := heap_alloc_new w10 _
                have hp2 := HT.out.2
                rw [HS10.out.1, plan_plan HMAY.out] at hp2
                obtain ⟨r1, k1, k2, k3, k4, k5, k6, Y4, hY4, hE4⟩ := hp2.parts
                clear k1 k2 k3 k4 k5 k6
                obtain ⟨hn4, hl4⟩ := ents_read hY4 hE4
                have r1' : yad = 0 := r1
                subst r1'
                have HE : Hid (n4d = E.length ∧ LiesE (w10.alloc (.cells #[.int .i64 0, .int .i64 ybd, .slice s2d n2d c2d, .slice s3d n3d c3d, .slice s4d n4d c4d] 30)) s4d E) := ⟨hn4, hl4.below hal (Nat.le_refl _)⟩
                have HT2 : Hid (isTree E) := by
                  have h1 := HQ10.out.inv
                  rw [HS10.out.1] at h1
                  exact h1.tree _ (List.mem_singleton.2 rfl)
                have hnl : n4d = il := hn4.trans (HS10.out.2.1.trans HIL.out.symm)
                subst hnl
                obtain ⟨x0, x1, x2, x3, x4⟩ := HBC2.out.cells
                obtain ⟨y0, y1, y2, y3, y4⟩ := HBD.out.cells
                simp only at x0 x1 x2 x3 x4 y0 y1 y2 y3 y4
                clear r1 hn4 hl4 hY4 hE4 hp2 HT hb10 hal HB12 HD2 HQ10 HI10 HBC HBC2
                go_wp2
                clear x0 x1 x2 x3 x4 y0 y1 y2 y3 y4
                generalize (w10.alloc (.cells #[.int .i64 0, .int .i64 ybd, .slice s2d n2d c2d, .slice s3d n3d c3d, .slice s4d n4d c4d] 30)) = w12 at HQ12 HI12 HBD HE ⊢
                generalize w10.heap.size = bp at HBD ⊢
                go_loopw [8, 19, 20, 21, 22, 23] (fun t8 t19 _ _ _ _ wr => ∃ j : Nat, t8 = .bool false ∧ t19 = .int .i64 (j : Int) ∧ j ≤ n4d ∧ Hid (Below w12.heap.size w12 wr)) (fun _ t19 _ _ _ _ _ => n4d - (intOf t19).toNat)
                case atStart => exact ⟨0, rfl, rfl, Nat.zero_le _, Below.refl _ _⟩
                case round =>
                  obtain ⟨j, rfl, rfl, hj, HBW⟩ := hrel
                  obtain ⟨_, _, _, _, y4⟩ := (HBD.out.below HBW.out).cells
                  simp only at y4
                  by_cases hjn : j < n4d
                  · have hjE : j < E.length := by rw [← HE.out.1]; exact hjn
                    obtain ⟨x, hx, g0', g1', ka, kc, g2', hk⟩ := HE.out.2.at (j := j) hjE
                    have HPREV : Hid (0 < j → w12.cell? (x.add ((j - 1) * 3)) = some (.string (entOf E (j - 1)).1) ∧ lt (entOf E (j - 1)).1 (entOf E j).1 = true) := fun h0 => by
                      obtain ⟨x2, hx2, e0, _⟩ := HE.out.2.at (j := j - 1) (by omega)
                      rw [hx] at hx2
                      injection hx2 with hx2
                      subst hx2
                      refine ⟨e0, ?_⟩
                      have := (List.pairwise_iff_getElem.1 (treeL_iff.1 HT2.out).2.2 (j - 1) j (by omega) hjE (by omega)).1
                      rw [← ent_get (by omega), ← ent_get hjE] at this
                      exact this
                    subst hx
                    have hix := index_ent x n4d c4d j hjn
                    have hmem : entOf E j ∈ E := by simp [entOf, List.getD_eq_getElem?_getD, hjE]
                    have HLK : Hid (full [(client, nm, true, E)] ⟨client, 1, 6, 0, nm, (entOf E j).1, []⟩ = (⟨0, (entOf E j).2.1, [], (entOf E j).2.2, []⟩, [(client, nm, true, E)])) := plan_look HMAY.out HT2.out hjE
                    have HEP : Hid ((entOf E j).1.size ≤ 520) := path_size ((treeL_iff.1 HT2.out).2.1 _ hmem).1
                    obtain ⟨hm1, hm2⟩ := HS10.out.2.2 _ hmem
                    have HM1 : Hid ((entOf E j).1 ∈ I) := hm1
                    clear hmem hjE hm1
                    generalize (entOf E (j - 1)).1 = pe at HPREV
                    generalize entOf E j = en at g0' g1' g2' hk HLK HEP HM1 hm2 HPREV
                    obtain ⟨ep, e2⟩ := en
                    simp only at hm2
                    subst hm2
                    simp only at g0' g1' g2' hk HLK HEP HM1 HPREV
                    rw [← HQN.out] at g2'
                    obtain ⟨esz, hesz⟩ : ∃ esz : Int, (keysSize ql : Int) = esz := ⟨_, rfl⟩
                    rw [hesz] at g1' HLK
                    have HKL : Hid (Route.Lies w12 ka ql) := hk.1
                    have HIX : Hid (∀ W : World, (Instr.indexAt 28 (.slice (some x) n4d c4d) (.int .i64 (j : Int))).run Try.prog W = .ok (.pointer (some (x.add (j * 3)))) W) := hix
                    generalize hq : x.add (j * 3) = q at g0' g1' g2' hix
                    have g0 := cell_kept HBW.out g0'
                    have g1 := cell_kept HBW.out g1'
                    have g2 := cell_kept HBW.out g2'
                    have hal20 : Below wr.heap.size wr (wr.alloc (.cells #[.string ep, .int .i64 esz, .slice ka qn kc] 39)) := (Below.refl _ _).alloc (Nat.le_refl _) _
                    have HB20 : Hid (Below w12.heap.size w12 (wr.alloc (.cells #[.string ep, .int .i64 esz, .slice ka qn kc] 39))) := HBW.out.trans (hal20.mono HBW.out.size)
                    have HHAS : Hid (∀ W, Below w12.heap.size w12 W → Calls Try.prog 13 #[.slice ia n4d ic, .string ep] W fun e w' => e = .returned (.bool true) ∧ w' = W) := fun W hb => by
                      obtain ⟨t1, t2⟩ := texts_read HI12.out.own
                      have e := has_any ia n4d ic I ep W t1 (t2.below hb (Nat.le_refl _)) (by omega)
                      rw [inB_iff.2 HM1.out] at e
                      exact e
                    have HLOOK : Hid (Calls _ _ _ _ _) := look_told (HQ12.out.below HB20.out) (c := client) (m := 0) (pt := ep) HNM.out (by have := HEP.out; omega) (keys_none _)
                    have HBX : Hid ((wr.alloc (.cells #[.string ep, .int .i64 esz, .slice ka qn kc] 39)).heap[wr.heap.size]? = some (.cells #[.string ep, .int .i64 esz, .slice ka qn kc] 39 (0, 0))) := heap_alloc_new wr _
                    clear g0' g1' g2' hk hesz hal20 hq
                    go_wp2_with fail
                    refine (HHAS.out _ HB20.out).mono ?_
                    rintro e w20 ⟨rfl, rfl⟩
                    clear HHAS g0 g1 g2 hix y4
                    go_wp2_with fail
                    refine HLOOK.out.mono ?_
                    rintro e w21 ⟨⟨yag, ybg, s2g, n2g, c2g, s3g, n3g, c3g, s4g, n4g, c4g⟩, rfl, HT⟩
                    have hb21 := HT.out.1
                    have hal : Below w21.heap.size w21 (w21.alloc (.cells #[.int .i64 yag, .int .i64 ybg, .slice s2g n2g c2g, .slice s3g n3g c3g, .slice s4g n4g c4g] 30)) := (Below.refl _ _).alloc (Nat.le_refl _) _
                    have hb22 : Below (wr.alloc (.cells #[.string ep, .int .i64 esz, .slice ka qn kc] 39)).heap.size (wr.alloc (.cells #[.string ep, .int .i64 esz, .slice ka qn kc] 39)) (w21.alloc (.cells #[.int .i64 yag, .int .i64 ybg, .slice s2g n2g c2g, .slice s3g n3g c3g, .slice s4g n4g c4g] 30)) := hb21.trans (hal.mono hb21.size)
                    have HB22 : Hid (Below w12.heap.size w12 (w21.alloc (.cells #[.int .i64 yag, .int .i64 ybg, .slice s2g n2g c2g, .slice s3g n3g c3g, .slice s4g n4g c4g] 30))) := HB20.out.trans (hb22.mono HB20.out.size)
                    have HBX22 : Hid ((w21.alloc (.cells #[.int .i64 yag, .int .i64 ybg, .slice s2g n2g c2g, .slice s3g n3g c3g, .slice s4g n4g c4g] 30)).heap[wr.heap.size]? = some (.cells #[.string ep, .int .i64 esz, .slice ka qn kc] 39 (0, 0))) := (hb22.block _ (Array.getElem?_eq_some_iff.1 HBX.out).1).trans HBX.out
                    have HBG : Hid (ABox (w21.alloc (.cells #[.int .i64 yag, .int .i64 ybg, .slice s2g n2g c2g, .slice s3g n3g c3g, .slice s4g n4g c4g] 30)) w21.heap.size ⟨yag, ybg, s2g, n2g, c2g, s3g, n3g, c3g, s4g, n4g, c4g⟩) := heap_alloc_new w21 _
                    have hp2 := HT.out.2
                    rw [HS10.out.1, HLK.out] at hp2
                    obtain ⟨r1, r2, k1, k2, k3, k4, r3, k5⟩ := hp2.parts
                    clear k1 k2 k3 k4 k5
                    have r1' : yag = 0 := r1
                    have r2' : ybg = esz := r2
                    obtain ⟨r3', r4⟩ := texts_read r3
                    have r5 : n3g = qn := r3'.trans HQN.out.symm
                    have HGL : Hid (Route.Lies (w21.alloc (.cells #[.int .i64 yag, .int .i64 ybg, .slice s2g n2g c2g, .slice s3g n3g c3g, .slice s4g n4g c4g] 30)) s3g ql) := r4.below hal (Nat.le_refl _)
                    subst r1' r2' r5
                    clear r1 r2 r3 r3' r4 hp2 HT hb21 hal hb22 HLOOK HBX HB20
                    have HBD22 : Hid (ABox (w21.alloc (.cells #[.int .i64 0, .int .i64 ybg, .slice s2g n2g c2g, .slice s3g n3g c3g, .slice s4g n4g c4g] 30)) bp _) := HBD.out.below HB22.out
                    generalize wr.heap.size = bx at *
                    go_wp2_with fail
                    generalize (w21.alloc (.cells #[.int .i64 0, .int .i64 ybg, .slice s2g n2g c2g, .slice s3g n3g c3g, .slice s4g n4g c4g] 30)) = w22 at *
                    generalize w21.heap.size = bq at *
                    obtain ⟨c0, c1, c2⟩ : w22.cell? ⟨bx, 0, none⟩ = some (.string ep) ∧ w22.cell? ⟨bx, 1, none⟩ = some (.int .i64 ybg) ∧ w22.cell? ⟨bx, 2, none⟩ = some (.slice ka n3g kc) := by
                      have h := HBX22.out
                      exact ⟨by simp [World.cell?, h], by simp [World.cell?, h], by simp [World.cell?, h]⟩
                    obtain ⟨x0, x1, x2, x3, x4⟩ := HBG.out.cells
                    obtain ⟨_, _, _, _, y4⟩ := HBD22.out.cells
                    simp only at x0 x1 x2 x3 x4 y4
                    have HKL22 : Hid (Route.Lies w22 ka ql) := HKL.out.below HB22.out (Nat.le_refl _)
                    have HQL22 : Hid (Route.Lies w22 qa ql) := HQL.out.below (HQ12.out.bel.trans (HB22.out.mono HQ12.out.bel.size)) (Nat.le_refl _)
                    have HPREV22 : Hid (0 < j → w22.cell? (x.add ((j - 1) * 3)) = some (.string pe) ∧ lt pe ep = true) := fun h0 => ⟨cell_kept HB22.out (HPREV.out h0).1, (HPREV.out h0).2⟩
                    clear HPREV HKL HIX HLK HEP HM1 HBX22 HBG HBD22
                    have HCE : Hid (w22.cell? ⟨bx, 2, none⟩ = some (.slice ka n3g kc) ∧ w22.cell? ⟨bq, 3, none⟩ = some (.slice s3g n3g c3g)) := ⟨c2, x3⟩
                    by_cases hj0 : 0 < j
                    · obtain ⟨e0, hlt⟩ := HPREV22.out hj0
                      have d0 : decide ((0 : Int) < (j : Int)) = true := by simp; omega
                      have hw1 : IntKind.i64.wrap ((j : Int) - 1) = ((j - 1 : Nat) : Int) := by rw [IntKind.wrap_i64]; omega
                      have hixm := index_ent x n4d c4d (j - 1) (by omega)
                      have b1 : Op.bytesLess pe.toList ep.toList = true := hlt
                      have b2 : Op.bytesLess ep.toList pe.toList = false := lt_asymm hlt
                      have b3 := ne_text (lt_ne hlt)
                      have b4 := ne_text (Ne.symm (lt_ne hlt))
                      generalize x.add ((j - 1) * 3) = qm at e0 hixm
                      clear hlt
                      go_quiet (fail)
                      have HBD2 : Hid (Below w22.heap.size w22 (w22.drewN nq)) := below_draws w22 nq
                      clear c0 c1 c2 x0 x1 x2 x3 x4 y4 d0 hw1 hixm b1 b2 b3 b4 e0 HPREV22
                      go_wp2
                      go_loopw [8, 23] (fun t8 t23 wr => ∃ k : Nat, t8 = .bool false ∧ t23 = .int .i64 (k : Int) ∧ k ≤ n3g ∧ Hid (Below w22.heap.size w22 wr)) (fun _ t23 _ => n3g - (intOf t23).toNat)
                      case atStart => exact ⟨0, rfl, rfl, Nat.zero_le _, HBD2⟩
                      case round =>
                        obtain ⟨k, rfl, rfl, hk, HBE⟩ := hrel
                        clear HBD2
                        have c2 := cell_kept HBE.out HCE.out.1
                        have x3 := cell_kept HBE.out HCE.out.2
                        by_cases hkn : k < n3g
                        · obtain ⟨y1, hy1, h1⟩ := (HKL22.out.below HBE.out (Nat.le_refl _)).cellAt (j := k) (by rw [← HQN.out]; exact hkn)
                          obtain ⟨y2, hy2, h2⟩ := (HGL.out.below HBE.out (Nat.le_refl _)).cellAt (j := k) (by rw [← HQN.out]; exact hkn)
                          obtain ⟨y3, hy3, h3⟩ := (HQL22.out.below HBE.out (Nat.le_refl _)).cellAt (j := k) (by rw [← HQN.out]; exact hkn)
                          subst hy1
                          subst hy2
                          subst hy3
                          generalize ql.getD k ByteArray.empty = s at h1 h2 h3
                          go_wp2_with fail
                          go_quiet (fail)
                          have HBQ : Hid (Below w22.heap.size w22 (wr.drewN nq)) := HBE.out.trans ((below_draws wr _).mono HBE.out.size)
                          clear c2 x3 h1 h2 h3
                          go_wp2
                          go_roundw
                          case rel => exact ⟨k + 1, rfl, by go_num, by omega, HBQ⟩
                          case measure => simp [intOf]; omega
                        · have HFIN : Hid (Below w12.heap.size w12 wr) := HB22.out.trans (HBE.out.mono HB22.out.size)
                          go_wp2
                          go_roundw
                          case rel => exact ⟨j + 1, rfl, by go_num, by omega, HFIN⟩
                          case measure => simp [intOf]; omega
                    · have d0 : decide ((0 : Int) < (j : Int)) = false := by simp; omega
                      go_quiet (fail)
                      have HBD2 : Hid (Below w22.heap.size w22 (w22.drewN nq)) := below_draws w22 nq
                      clear c0 c1 c2 x0 x1 x2 x3 x4 y4 d0 HPREV22
                      go_wp2
                      go_loopw [8, 23] (fun t8 t23 wr => ∃ k : Nat, t8 = .bool false ∧ t23 = .int .i64 (k : Int) ∧ k ≤ n3g ∧ Hid (Below w22.heap.size w22 wr)) (fun _ t23 _ => n3g - (intOf t23).toNat)
                      case atStart => exact ⟨0, rfl, rfl, Nat.zero_le _, HBD2⟩
                      case round =>
                        obtain ⟨k, rfl, rfl, hk, HBE⟩ := hrel
                        clear HBD2
                        have c2 := cell_kept HBE.out HCE.out.1
                        have x3 := cell_kept HBE.out HCE.out.2
                        by_cases hkn : k < n3g
                        · obtain ⟨y1, hy1, h1⟩ := (HKL22.out.below HBE.out (Nat.le_refl _)).cellAt (j := k) (by rw [← HQN.out]; exact hkn)
                          obtain ⟨y2, hy2, h2⟩ := (HGL.out.below HBE.out (Nat.le_refl _)).cellAt (j := k) (by rw [← HQN.out]; exact hkn)
                          obtain ⟨y3, hy3, h3⟩ := (HQL22.out.below HBE.out (Nat.le_refl _)).cellAt (j := k) (by rw [← HQN.out]; exact hkn)
                          subst hy1
                          subst hy2
                          subst hy3
                          generalize ql.getD k ByteArray.empty = s at h1 h2 h3
                          go_wp2_with fail
                          go_quiet (fail)
                          have HBQ : Hid (Below w22.heap.size w22 (wr.drewN nq)) := HBE.out.trans ((below_draws wr _).mono HBE.out.size)
                          clear c2 x3 h1 h2 h3
                          go_wp2
                          go_roundw
                          case rel => exact ⟨k + 1, rfl, by go_num, by omega, HBQ⟩
                          case measure => simp [intOf]; omega
                        · have HFIN : Hid (Below w12.heap.size w12 wr) := HB22.out.trans (HBE.out.mono HB22.out.size)
                          go_wp2
                          go_roundw
                          case rel => exact ⟨j + 1, rfl, by go_num, by omega, HFIN⟩
                          case measure => simp [intOf]; omega
                  · have HQ13 : Hid (Lw w p p v9 Z9 wr) := HQ12.out.below HBW.out
                    have HD : Hid (Calls _ _ _ _ _) := own_call2 HQ13.out (c := client) (k := 8) (m := 0) (nm := ⟨#[]⟩) (pt := ⟨#[]⟩) (by decide) (by decide) (keys_none wr)
                    go_wp2_with fail
                    refine HD.out.mono ?_
                    rintro e w9 ⟨⟨yae, ybe, s2e, n2e, c2e, s3e, n3e, c3e, s4e, n4e, c4e⟩, v14, Z14, rfl, HD9⟩
                    have H14 : Hid (Did p p v9 Z9 ⟨client, 1, 8, 0, ⟨#[]⟩, ⟨#[]⟩, []⟩ wr ⟨yae, ybe, s2e, n2e, c2e, s3e, n3e, c3e, s4e, n4e, c4e⟩ v14 Z14 (w9.alloc (.cells #[.int .i64 yae, .int .i64 ybe, .slice s2e n2e c2e, .slice s3e n3e c3e, .slice s4e n4e c4e] 30)) ∧ ABox (w9.alloc (.cells #[.int .i64 yae, .int .i64 ybe, .slice s2e n2e c2e, .slice s3e n3e c3e, .slice s4e n4e c4e] 30)) w9.heap.size ⟨yae, ybe, s2e, n2e, c2e, s3e, n3e, c3e, s4e, n4e, c4e⟩) := HD9.out.lay
                    have HQ14 : Hid (Lw w p p v14 Z14 (w9.alloc (.cells #[.int .i64 yae, .int .i64 ybe, .slice s2e n2e c2e, .slice s3e n3e c3e, .slice s4e n4e c4e] 30))) := HQ13.out.did H14.out.1
                    obtain ⟨q1, q2, k1⟩ := H14.out.1.ans.parts
                    clear k1
                    have hsn := H14.out.1.snaps
                    rw [HS10.out.1, plan_prune HMAY.out] at q1 q2 hsn
                    have q1' : yae = 0 := q1
                    have q2' : ybe = 1 := q2
                    subst q1' q2'
                    have HBE : Hid (ABox (w9.alloc (.cells #[.int .i64 0, .int .i64 1, .slice s2e n2e c2e, .slice s3e n3e c3e, .slice s4e n4e c4e] 30)) w9.heap.size ⟨0, 1, s2e, n2e, c2e, s3e, n3e, c3e, s4e, n4e, c4e⟩) := H14.out.2
                    have HD2 : Hid (Calls _ _ _ _ _) := plan_told HQ14.out (c := client) (m := 0) (pt := ⟨#[]⟩) HNM.out (by decide) (keys_none _)
                    have HSN : Hid (Z14.map snapOf = []) := hsn
                    clear q1 q2 hsn H14 HD9 HD HQ13 y4
                    go_wp2_with fail
                    refine HD2.out.mono ?_
                    rintro e w15 ⟨⟨yaf, ybf, s2f, n2f, c2f, s3f, n3f, c3f, s4f, n4f, c4f⟩, rfl, HT⟩
                    have hb15 := HT.out.1
                    have hal : Below w15.heap.size w15 (w15.alloc (.cells #[.int .i64 yaf, .int .i64 ybf, .slice s2f n2f c2f, .slice s3f n3f c3f, .slice s4f n4f c4f] 30)) := (Below.refl _ _).alloc (Nat.le_refl _) _
                    have HB16 : Hid (Below (w9.alloc (.cells #[.int .i64 0, .int .i64 1, .slice s2e n2e c2e, .slice s3e n3e c3e, .slice s4e n4e c4e] 30)).heap.size (w9.alloc (.cells #[.int .i64 0, .int .i64 1, .slice s2e n2e c2e, .slice s3e n3e c3e, .slice s4e n4e c4e] 30)) (w15.alloc (.cells #[.int .i64 yaf, .int .i64 ybf, .slice s2f n2f c2f, .slice s3f n3f c3f, .slice s4f n4f c4f] 30))) := hb15.trans (hal.mono hb15.size)
                    have HQ16 : Hid (Lw w p p v14 Z14 (w15.alloc (.cells #[.int .i64 yaf, .int .i64 ybf, .slice s2f n2f c2f, .slice s3f n3f c3f, .slice s4f n4f c4f] 30))) := HQ14.out.below HB16.out
                    have HBE2 : Hid (ABox (w15.alloc (.cells #[.int .i64 yaf, .int .i64 ybf, .slice s2f n2f c2f, .slice s3f n3f c3f, .slice s4f n4f c4f] 30)) w9.heap.size ⟨0, 1, s2e, n2e, c2e, s3e, n3e, c3e, s4e, n4e, c4e⟩) := HBE.out.below HB16.out
                    have HBF : Hid (ABox (w15.alloc (.cells #[.int .i64 yaf, .int .i64 ybf, .slice s2f n2f c2f, .slice s3f n3f c3f, .slice s4f n4f c4f] 30)) w15.heap.size ⟨yaf, ybf, s2f, n2f, c2f, s3f, n3f, c3f, s4f, n4f, c4f⟩) := heap_alloc_new w15 _
                    have hp2 := HT.out.2
                    rw [HSN.out, plan_gone HMAY.out] at hp2
                    have r1' : yaf = 3 := hp2.parts.1
                    subst r1'
                    obtain ⟨x0, x1, x2, x3, x4⟩ := HBE2.out.cells
                    obtain ⟨y0, y1, y2, y3, y4⟩ := HBF.out.cells
                    simp only at x0 x1 x2 x3 x4 y0 y1 y2 y3 y4
                    clear hp2 HT hb15 hal HB16 HD2 HQ14 HBE HBE2 HBF
                    go_wp2
                    go_ret
                    exact ⟨rfl, HQ16.out.bel⟩
          · have hya : (yaa != 0) = true := by rw [q1]; simp; exact hcode
            clear q1 hcode H6 HD5 HD HA
            go_wp2
            go_ret
            exact ⟨rfl, HQ6.out.bel⟩

theorem catalogPlans_walk (client : Int) (nm : ByteArray) (pa : Option Addr) (pl : List ByteArray) (pn pcap : Nat) (qa : Option Addr) (ql : List ByteArray) (qn qcap : Nat) (w : World) {P : Prop} (_ : P) (h2 : nm.size ≤ maxLen) (p3 : pn = pl.length) (p4 : Route.Lies w pa pl) (p5 : pn ≤ pcap) (p6 : pcap ≤ maxLen) (_ : pa = none → pcap = 0) (p7 : ∀ s ∈ pl, s.size ≤ maxLen) (h3 : qn = ql.length) (h4 : Route.Lies w qa ql) (h5 : qn ≤ qcap) (h6 : qcap ≤ maxLen) (_ : qa = none → qcap = 0) (h7 : ∀ s ∈ ql, s.size ≤ maxLen) :
    Calls Try.prog 4 #[.int .i64 client, .string nm, .slice pa pn pcap, .slice qa qn qcap] w fun e w' => e = .returned (.bool true) ∧ Below w.heap.size w w' :=
  catalogPlans_main client nm pa pn pcap pl qa qn qcap ql w h2 p3 p4 (Nat.le_trans p5 p6) p7 h3 h4 (Nat.le_trans h5 h6) h7 h5
end Go.Proofs.Ytejhnobhpjlkaaa.Cat
