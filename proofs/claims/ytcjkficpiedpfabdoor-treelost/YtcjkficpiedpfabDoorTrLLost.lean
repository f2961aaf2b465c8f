/-
  TreeLost, walked: whatever files, cut and number, the call returns true, and makes memory of its own alone.
-/
import Derived.Test.YtcjkficpiedpfabDoorTrLost
namespace Go.Proofs.YtcjkficpiedpfabDoor.Tree
open Go.RowKit Route Chunk

set_option maxHeartbeats 2000000 in
set_option maxRecDepth 100000 in
theorem lost_err (a : Option Addr) (n cap : Nat) (l : List (ByteArray × ByteArray)) (mn mx mk t : Int) (w : World) (hg : Known w) (hn : n = l.length) (hl : LiesF w a l)
    (hb1 : ∀ W, Below w.heap.size w W → FilesOk n l → Calls Tryd.prog 7 #[.slice a n cap, cutV mn mx mk] W fun e w' => (∃ v, e = .returned (.tuple #[.slice none 0 0, v]) ∧ Bad v) ∧ Below W.heap.size W w') :
    Calls Tryd.prog 4 #[.slice a n cap, cutV mn mx mk, .int .i64 t] w fun e w' => e = .returned (.bool true) ∧ Below w.heap.size w w' := by
  have HUP : Hid (Calls _ _ _ _ _) := up_any (w.alloc (.cells #[.int .i64 mn, .int .i64 mx, .int .i64 mk] 26)) (hg.below ((Below.refl _ _).alloc (Nat.le_refl _) _) (Nat.le_refl _))
  have HFW : Hid (∀ W, Below w.heap.size w W → Calls Tryd.prog 6 #[.slice a n cap] W fun e w' => Fews e n l ∧ w' = W) := fun W hb => few_any a n cap l W hn (hl.below hb (Nat.le_refl _))
  have HB1 : Hid (∀ W, Below w.heap.size w W → FilesOk n l → Calls Tryd.prog 7 #[.slice a n cap, cutV mn mx mk] W fun e w' => (∃ v, e = .returned (.tuple #[.slice none 0 0, v]) ∧ Bad v) ∧ Below W.heap.size W w') := hb1
  unfold cutV at HB1 ⊢
  have HN : Hid (n = l.length) := hn
  clear hg hb1 hn hl
  go_enter Tryd.func4, Tryd.ntmps4
  go_wp2_with fail
  refine HUP.out.mono ?_
  rintro e w1 ⟨rfl, hb1⟩
  obtain ⟨k0, k1, k2, hbw, hlt⟩ := cut_box hb1
  go_wp2_with fail
  refine (HFW.out _ hbw).mono ?_
  rintro e w2 ⟨⟨b, rfl, hb⟩, rfl⟩
  clear hb1
  cases b with
  | false =>
    go_wp2
    go_ret
    exact ⟨rfl, hbw⟩
  | true =>
    have HOK : Hid (FilesOk n l) := ⟨HN.out, by have := (hb rfl).1; omega, (hb rfl).2⟩
    clear hb
    go_wp2_with fail
    refine (HB1.out _ hbw HOK.out).mono ?_
    rintro e w3 ⟨⟨v3, rfl, hv3⟩, hb3⟩
    obtain ⟨hv3a, hv3b⟩ := hv3
    have HBW : Hid (Below w.heap.size w w3) := hbw.trans (hb3.mono hbw.size)
    clear hb3 k0 k1 k2 hlt hbw
    go_wp2
    go_ret
    exact ⟨rfl, HBW.out⟩

theorem num3 : Num 3 := .inr (.inr (.inl rfl))

set_option maxHeartbeats 8000000 in
set_option maxRecDepth 100000 in
theorem lost_ok (a : Option Addr) (n cap : Nat) (l : List (ByteArray × ByteArray)) (m M K : Nat) (t : Int) (w : World) (hg : Known w) (hn : n = l.length) (hl : LiesF w a l) (hc : n ≤ cap) (ht0 : -9223372036854775808 ≤ t) (ht1 : t ≤ 9223372036854775807)
    (hm : 1 ≤ m) (hmM : m ≤ M) (hM : M ≤ 64) (hK : K < 256) (hn32 : n ≤ 32) (hgood : Good l) :
    Calls Tryd.prog 4 #[.slice a n cap, cutV (m : Int) (M : Int) (K : Int), .int .i64 t] w fun e w' => e = .returned (.bool true) ∧ Below w.heap.size w w' := by
  obtain ⟨mn, hmn⟩ : ∃ mn : Int, mn = (m : Int) := ⟨_, rfl⟩
  obtain ⟨mx, hmx⟩ : ∃ mx : Int, mx = (M : Int) := ⟨_, rfl⟩
  obtain ⟨mk, hmk⟩ : ∃ mk : Int, mk = (K : Int) := ⟨_, rfl⟩
  have HUP : Hid (Calls _ _ _ _ _) := up_any (w.alloc (.cells #[.int .i64 mn, .int .i64 mx, .int .i64 mk] 26)) (hg.below ((Below.refl _ _).alloc (Nat.le_refl _) _) (Nat.le_refl _))
  have HFW : Hid (∀ W, Below w.heap.size w W → Calls Tryd.prog 6 #[.slice a n cap] W fun e w' => Fews e n l ∧ w' = W) := fun W hb => few_any a n cap l W hn (hl.below hb (Nat.le_refl _))
  have HB1 : Hid (∀ W, Below w.heap.size w W → FilesOk n l → Calls Tryd.prog 7 #[.slice a n cap, cutV mn mx mk] W fun e w' => ∃ v Y, e = .returned (.tuple #[v, .nilIface]) ∧ Ents W.heap.size v Y W w' ∧ Sorted (Y.map (·.1)) ∧ (Y.map (·.1)).Perm (l.map (entF m M K))) := by
    intro W hb hok
    subst hmn; subst hmx; subst hmk
    refine (build_any a n cap l m M K W hm hmM hM hK hn32 hok (hl.below hb (Nat.le_refl _)) hc).mono ?_
    rintro e w' (⟨_, v, Y, h1, h2, h3, h4⟩ | ⟨h, _⟩)
    · exact ⟨v, Y, h1, h2, h3, h4⟩
    · exact absurd hgood h
  have HSH : Hid (∀ L : List (ByteArray × Int × List ByteArray), L.Perm (l.map (entF m M K)) → FilesOk n l → EntsOk n L) := fun L hp hok => built_short hm hmM hM hgood hok hp (by omega)
  have HTR : Hid (∀ L : List (ByteArray × Int × List ByteArray), Sorted L → L.Perm (l.map (entF m M K)) → isTree L) := fun L hs hp => tree_of hm hmM hM hgood (by omega) hp hs
  have HG : Hid (∀ W, Below w.heap.size w W → Known W) := fun W hb => hg.below hb (Nat.le_refl _)
  rw [← hmn, ← hmx, ← hmk]
  unfold cutV at HB1 ⊢
  have HN : Hid (n = l.length) := hn
  have hT : ∃ tn : Nat, tn ≤ 9223372036854775807 ∧ ((0 ≤ t ∧ t = (tn : Int)) ∨ (t < 0 ∧ -(t + 1) = (tn : Int))) := by
    by_cases h : 0 ≤ t
    · exact ⟨t.toNat, by omega, .inl ⟨h, by omega⟩⟩
    · exact ⟨(-(t + 1)).toNat, by omega, .inr ⟨by omega, by omega⟩⟩
  obtain ⟨tn, htn, hT⟩ := hT
  have HT : Hid ((0 ≤ t ∧ t = (tn : Int)) ∨ (t < 0 ∧ -(t + 1) = (tn : Int))) := hT
  clear hg hn hl hmn hmx hmk hm hmM hM hK hgood hT
  go_enter Tryd.func4, Tryd.ntmps4
  go_wp2_with fail
  refine HUP.out.mono ?_
  rintro e w1 ⟨rfl, hb1⟩
  obtain ⟨k0, k1, k2, hbw, hlt⟩ := cut_box hb1
  go_wp2_with fail
  refine (HFW.out _ hbw).mono ?_
  rintro e w2 ⟨⟨b, rfl, hb⟩, rfl⟩
  clear hb1
  cases b with
  | false =>
    go_wp2
    go_ret
    exact ⟨rfl, hbw⟩
  | true =>
    have HOK : Hid (FilesOk n l) := ⟨HN.out, by have := (hb rfl).1; omega, (hb rfl).2⟩
    clear hb
    have q1 : ∀ W, (binOp .neq 31 .nilIface .nilIface).run Tryd.prog W = .ok (.bool false) W := fun W => by kernel_rfl
    go_wp2_with fail
    refine (HB1.out _ hbw HOK.out).mono ?_
    rintro e w3 ⟨v3, Y3, rfl, hen3, hso3, hpm3⟩
    have hYn3 : n = Y3.length := by have := hpm3.length_eq; rw [List.length_map, List.length_map] at this; rw [this]; exact HN.out
    obtain ⟨a3, cap3, rfl, hc3, hl3⟩ := hen3.liesN hYn3
    obtain ⟨L, hLd⟩ : ∃ L, L = Y3.map (·.1) := ⟨_, rfl⟩
    rw [← hLd] at hso3 hpm3 hl3
    have HL3 : Hid (LiesE w3 a3 L) := hl3
    have HB3 : Hid (Below w.heap.size w w3) := hbw.trans (hen3.2.1.mono hbw.size)
    have HEO : Hid (EntsOk n L) := HSH.out L hpm3 HOK.out
    have HLN : Hid (n = L.length) := HEO.out.1
    have HTREE : Hid (isTree L) := HTR.out L hso3 hpm3
    clear hen3 hso3 hpm3 hYn3 hLd hl3 k0 k1 k2 hlt hbw HFW HB1 HSH HTR HUP HOK
    go_wp2
    go_loopw [11, 12] (fun t11 t12 wr => ∃ i : Nat, t12 = .int .i64 (i : Int) ∧ i ≤ n ∧ Hid (Strs w3.heap.size t11 (flatK (L.take i)) w3 wr)) (fun _ t12 _ => n - (intOf t12).toNat)
    case atStart => exact ⟨0, rfl, Nat.zero_le _, Strs.nil w3⟩
    case round =>
      obtain ⟨i, rfl, hi, hst⟩ := hrel
      by_cases hin : i < n
      · obtain ⟨x3, hx3, g0, g1, ka, kc, g2, hk⟩ := (HL3.out.below hst.out.2.1 (Nat.le_refl _)).at (j := i) (by rw [← HLN.out]; exact hin)
        subst hx3
        have HTK2 : Hid (flatK (L.take (i + 1)) = flatK (L.take i) ++ (entOf L i).2.2) := by
          show _ = _
          rw [take_succ_ent (by rw [← HLN.out]; exact hin)]
          simp [flatK]
        have HFL : Hid ((flatK (L.take i)).length ≤ 1200 * 100) := flatK_len HEO.out i
        have hks : (entOf L i).2.2.length ≤ 1200 := (HEO.out.2.2 i hin).2.1
        generalize entOf L i = en at g0 g1 g2 hk HTK2 hks
        obtain ⟨p, sz, ks⟩ := en
        have hix := index_ent x3 n cap3 i hin
        simp only at g0 g1 g2 hk HTK2 hks
        obtain ⟨kn, hkn2⟩ : ∃ kn, kn = ks.length := ⟨_, rfl⟩
        have HKN : Hid (kn = ks.length) := hkn2
        rw [← hkn2] at g2 hks
        generalize x3.add (i * 3) = q at g0 g1 g2 hix
        generalize flatK (L.take i) = d at hst HTK2 HFL
        have HKI : Hid (KeysIn wr ka kc ks) := hk
        clear hkn2 hk
        go_wp2_with (at_builtin; refine wpList_strs rfl (.tmp 40) (.tmp 45) rfl w3.heap.size _ d rfl w3 hst.out ks ka kn kc rfl HKN.out HKI.out.1 HKI.out.2.2.2 (by rw [HKN.out]; exact HKI.out.2.1) (by have := HFL.out; omega) ?_; intro v' w' hb')
        go_roundw
        case rel => exact ⟨i + 1, by go_num, by omega, by rw [HTK2.out]; exact hb'⟩
        case measure => simp [intOf]; omega
      · have hst2 : Strs w3.heap.size u11 (flatK L) w3 wr := by have h9 := hst.out; rw [List.take_of_length_le (by rw [← HLN.out]; omega)] at h9; exact h9
        have HFL : Hid ((flatK L).length ≤ 1200 * 100) := by have := flatK_len HEO.out L.length; rw [List.take_length] at this; exact this
        obtain ⟨C, hC⟩ : ∃ C, C = flatK L := ⟨_, rfl⟩
        rw [← hC] at hst2 HFL
        have HC : Hid (C = flatK L) := hC
        obtain ⟨cn, hcn⟩ : ∃ cn, cn = C.length := ⟨_, rfl⟩
        have HCN : Hid (cn = C.length) := hcn
        have hcnl : cn ≤ 120000 := by rw [hcn]; exact HFL.out
        obtain ⟨ac, capc, rfl, _, _, hlc⟩ := hst2.liesN hcn
        have HBr : Hid (Below w.heap.size w wr) := HB3.out.trans (hst2.2.1.mono HB3.out.size)
        have HLr : Hid (LiesE wr a3 L) := HL3.out.below hst2.2.1 (Nat.le_refl _)
        have HLC : Hid (Lies wr ac C) := hlc
        clear hst hst2 hlc hcn hC HB3 HL3
        by_cases hc0 : cn = 0
        · subst hc0
          go_wp2
          go_ret
          exact ⟨rfl, HBr.out⟩
        · obtain ⟨b, off, rfl, hcs⟩ := HLC.out.at (by rw [← HCN.out]; omega)
          have e0 : ((cn : Int) == 0) = false := by simp; omega
          obtain ⟨q, hq⟩ : ∃ q, q = tn % cn := ⟨_, rfl⟩
          have hqc : q < cn := by rw [hq]; exact Nat.mod_lt _ (by omega)
          have hqe : (tn : Int) % (cn : Int) = (q : Int) := by rw [hq]; rfl
          have hcell := hcs q (by rw [← HCN.out]; exact hqc)
          obtain ⟨s, hs⟩ : ∃ s, s = C.getD q ByteArray.empty := ⟨_, rfl⟩
          have hsm : s ∈ C := by rw [hs]; simp [List.getD_eq_getElem?_getD, show q < C.length by rw [← HCN.out]; exact hqc]
          have HSM : Hid (s ∈ C) := hsm
          rw [← hs] at hcell
          have HCS : Hid (∀ j, j < C.length → wr.cell? ⟨b, off + j, none⟩ = some (.string (C.getD j ByteArray.empty))) := hcs
          clear hq hs hcs hsm
          generalize wr = wA at *
          rcases HT.out with ⟨h1, rfl⟩ | ⟨h1, h2⟩
          all_goals
            clear HT
            go_wp2
            clear hqe
            go_loopw [14, 15] (fun t14 t15 wq => ∃ j : Nat, t15 = .int .i64 (j : Int) ∧ j ≤ cn ∧ Hid (Strs wA.heap.size t14 (without s (C.take j)) wA wq)) (fun _ t15 _ => cn - (intOf t15).toNat)
            case atStart => exact ⟨0, rfl, Nat.zero_le _, Strs.nil wA⟩
            case round =>
              obtain ⟨j, rfl, hj, hst⟩ := hrel
              clear hcell
              by_cases hjc : j < cn
              · have hjl : j < C.length := by rw [← HCN.out]; exact hjc
                have hcj := cell_below hst.out.2.1 (Nat.le_refl _) (HCS.out j hjl)
                have hws := without_step (s := s) hjl
                have hwl : (without s (C.take j)).length ≤ 120000 := by
                  have h8 := without_len s (C.take j)
                  have h9 : (C.take j).length ≤ C.length := by rw [List.length_take]; omega
                  have h7 := HFL.out
                  omega
                obtain ⟨x, hx⟩ : ∃ x, x = C.getD j ByteArray.empty := ⟨_, rfl⟩
                rw [← hx] at hcj hws
                clear hx hjl
                by_cases hxs : x = s
                · subst hxs
                  rw [if_pos rfl, List.append_nil] at hws
                  have HWS : Hid (_ = _) := hws
                  clear hws
                  go_wp2
                  go_roundw
                  case rel => exact ⟨j + 1, by go_num, by omega, by rw [HWS.out]; exact hst⟩
                  case measure => simp [intOf]; omega
                · rw [if_neg hxs] at hws
                  have HWS : Hid (_ = _) := hws
                  have hne : (x.toList == s.toList) = false := by rw [str_eq]; exact decide_eq_false hxs
                  generalize without s (C.take j) = d at hst HWS hwl
                  clear hws hxs
                  go_wp2_with (at_builtin; refine wpList_str rfl (.tmp 75) (.tmp 80) rfl wA.heap.size _ d rfl wA wr x hst.out rfl (by omega) ?_; intro v' w' hb'; have HB' : Hid (Strs wA.heap.size v' (without s (C.take (j + 1))) wA w') := (by rw [HWS.out]; exact hb'); clear hb' hst)
                  go_roundw
                  case rel => exact ⟨j + 1, by go_num, by omega, HB'⟩
                  case measure => simp [intOf]; omega
              · have hst2 : Strs wA.heap.size u14 (without s C) wA wr := by have h9 := hst.out; rw [List.take_of_length_le (by rw [← HCN.out]; omega)] at h9; exact h9
                obtain ⟨rn, hrn⟩ : ∃ rn, rn = (without s C).length := ⟨_, rfl⟩
                obtain ⟨ar, capr, rfl, _, _, hlr⟩ := hst2.liesN hrn
                have HBw : Hid (Below w.heap.size w wr) := HBr.out.trans (hst2.2.1.mono HBr.out.size)
                have HLw : Hid (LiesE wr a3 L) := HLr.out.below hst2.2.1 (Nat.le_refl _)
                obtain ⟨a0, ha0, ha1, ha2⟩ := first_has (L := L) (s := s) (by rw [← HC.out]; exact HSM.out)
                have HRS : Hid (Calls Tryd.prog 9 #[.slice a3 n cap3, .slice ar rn capr] wr fun e w' => ∃ v, e = .returned (.tuple #[.slice none 0 0, v]) ∧ Hid (ErrV wr.heap.size w' v 3 (some a0) ∧ Below wr.heap.size wr w')) := by
                  have hwl := without_len s C
                  have hcl := HFL.out
                  refine restore_core _ a3 ar n cap3 rn capr L (without s C) wr HEO.out HLw.out hc3 HTREE.out hrn hlr (by omega) (fun j hj => ?_) ?_ ?_
                  · refine key_size HEO.out ?_
                    have hm2 : (without s C).getD j ByteArray.empty ∈ without s C := by simp [List.getD_eq_getElem?_getD, show j < (without s C).length by rw [← hrn]; exact hj]
                    rw [← HC.out]
                    exact (without_mem.1 hm2).1
                  · intro j hj hk hq v w' hv hb
                    have e : j = a0 := by
                      rcases Nat.lt_trichotomy j a0 with h | h | h
                      · exact absurd (by rw [HC.out]; exact all_but (by omega) (ha2 j h)) hq
                      · exact h
                      · exact absurd (by have := hk a0 h; rw [HC.out] at this; exact this) (not_all ha1)
                    subst e
                    exact ⟨v, rfl, hv, hb⟩
                  · intro hall
                    exact absurd (by have := hall a0 (by rw [HLN.out]; exact ha0); rw [HC.out] at this; exact this) (not_all ha1)
                have ha0n : a0 < n := by rw [HLN.out]; exact ha0
                have HA1 : Hid (s ∈ (entOf L a0).2.2) := ha1
                have HA2 : Hid (∀ k, k < a0 → s ∉ (entOf L k).2.2) := ha2
                clear hst hst2 hlr hrn ha0 ha1 ha2
                go_wp2_with fail
                refine HRS.out.mono ?_
                rintro e w5 ⟨v5, rfl, hh⟩
                obtain ⟨hv5, hb5⟩ := hh.out
                have HB5 : Hid (Below w.heap.size w w5) := HBw.out.trans (hb5.mono HBw.out.size)
                have HL5 : Hid (LiesE w5 a3 L) := HLw.out.below hb5 (Nat.le_refl _)
                obtain ⟨g5, rfl, hg50, hg51⟩ : ∃ g, v5 = .iface 49 (.pointer (some ⟨g, 0, none⟩)) ∧ w5.cell? ⟨g, 0, none⟩ = some (.int .i64 (a0 : Int)) ∧ w5.cell? ⟨g, 1, none⟩ = some (.iface 43 (.int .i64 ((3 : Nat) : Int))) := by
                  rcases hv5 with ⟨h, _⟩ | ⟨_, h, _⟩ | ⟨_, i, g, h, hv, _, h3, h4⟩
                  · cases h
                  · cases h
                  · injection h with h; subst h; exact ⟨g, hv, h3, h4⟩
                have HIS : Hid (Calls Tryd.prog 11 #[.iface 49 (.pointer (some ⟨g5, 0, none⟩)), .int .i64 (a0 : Int), .int .i64 ((3 : Nat) : Int)] w5 fun e w' => e = .returned (.bool true) ∧ Below w5.heap.size w5 w') := is_yes g5 3 a0 w5 (HG.out _ HB5.out) num3 hg50 hg51
                clear HRS hh hv5 hb5 hg50 hg51 HBw HLw
                go_wp2
                go_loop [18] (fun t18 => ∃ i : Nat, t18 = .int .i64 (i : Int) ∧ i ≤ a0) (fun t18 => a0 - (intOf t18).toNat)
                case atStart => exact ⟨0, rfl, Nat.zero_le _⟩
                case round =>
                  obtain ⟨i, rfl, hi0⟩ := hrel
                  have hin2 : i < n := by omega
                  obtain ⟨x3, hx3, g0, g1, ka, kc, g2, hk⟩ := HL5.out.at (j := i) (by rw [← HLN.out]; exact hin2)
                  subst hx3
                  have hks : (entOf L i).2.2.length ≤ 1200 := (HEO.out.2.2 i hin2).2.1
                  have HHS : Hid (i = a0 → s ∈ (entOf L i).2.2) := fun h => by rw [h]; exact HA1.out
                  have HHN : Hid (i < a0 → s ∉ (entOf L i).2.2) := fun h => HA2.out i h
                  generalize entOf L i = en at g0 g1 g2 hk hks HHS HHN
                  obtain ⟨p, sz, ks⟩ := en
                  have hix := index_ent x3 n cap3 i hin2
                  simp only at g0 g1 g2 hk hks HHS HHN
                  obtain ⟨kn, hkn2⟩ : ∃ kn, kn = ks.length := ⟨_, rfl⟩
                  rw [← hkn2] at g2 hks
                  generalize x3.add (i * 3) = qq at g0 g1 g2 hix
                  have hha := has_any ka kn kc ks s w5 hkn2 hk.1 (by omega)
                  clear hkn2 hk
                  by_cases hia : i < a0
                  · rw [inB_no (HHN.out hia)] at hha
                    have HHA : Hid (Calls _ _ _ _ _) := hha
                    clear hha HHS HHN
                    go_wp2_with fail
                    refine HHA.out.mono ?_
                    rintro e w6 ⟨rfl, rfl⟩
                    go_wp2
                    go_round
                    case rel => exact ⟨i + 1, by go_num, by omega⟩
                    case measure => simp [intOf]; omega
                  · have e : i = a0 := by omega
                    rw [inB_iff.2 (HHS.out e)] at hha
                    have HHA : Hid (Calls _ _ _ _ _) := hha
                    clear hha HHS HHN
                    subst e
                    go_wp2_with fail
                    refine HHA.out.mono ?_
                    rintro e w6 ⟨rfl, rfl⟩
                    go_wp2_with fail
                    refine HIS.out.mono ?_
                    rintro e w7 ⟨rfl, hb7⟩
                    go_wp2
                    go_ret
                    exact ⟨rfl, HB5.out.trans (hb7.mono HB5.out.size)⟩

theorem bad1 : Bad (.iface 43 (.int .i64 1)) := ⟨fun W => by kernel_rfl, fun t W => by kernel_rfl⟩
theorem bad7 : Bad (.iface 43 (.int .i64 7)) := ⟨fun W => by kernel_rfl, fun t W => by kernel_rfl⟩

theorem treeLost_walk (a : Option Addr) (l : List (ByteArray × ByteArray)) (n cap : Nat) (mn mx mk t : Int) (w : World) (hg : Known w) (hl : n = l.length ∧ LiesF w a l ∧ n ≤ cap ∧ (a = none → cap = 0)) (ht : (Lit.int .i64 t).wf = true) :
    Calls Tryd.prog 4 #[.slice a n cap, cutV mn mx mk, .int .i64 t] w fun e w' => e = .returned (.bool true) ∧ Below w.heap.size w w' := by
  obtain ⟨hn, hlf, hc, _⟩ := hl
  have ht' : -9223372036854775808 ≤ t ∧ t ≤ 9223372036854775807 := by
    simp only [Lit.wf, Bool.and_eq_true, decide_eq_true_eq] at ht
    exact ht
  cases hm : mayB mn mx mk with
  | false =>
    refine lost_err a n cap l mn mx mk t w hg hn hlf fun W _ _ => ?_
    refine (build_may a n cap mn mx mk W hm).mono ?_
    rintro e w' ⟨rfl, hb⟩
    exact ⟨⟨_, rfl, bad1⟩, hb⟩
  | true =>
    by_cases hn32 : 32 < n
    · refine lost_err a n cap l mn mx mk t w hg hn hlf fun W _ _ => ?_
      refine (build_large a n cap mn mx mk W hm hn32).mono ?_
      rintro e w' ⟨rfl, hb⟩
      exact ⟨⟨_, rfl, bad7⟩, hb⟩
    · obtain ⟨m, M, K, rfl, rfl, rfl, h1, h2, h3, h4⟩ := mayB_nat hm
      by_cases hgood : Good l
      · exact lost_ok a n cap l m M K t w hg hn hlf hc ht'.1 ht'.2 h1 h2 h3 (by omega) (by omega) hgood
      · refine lost_err a n cap l m M K t w hg hn hlf fun W hb hok => ?_
        refine (build_any a n cap l m M K W h1 h2 h3 (by omega) (by omega) hok (hlf.below hb (Nat.le_refl _)) hc).mono ?_
        rintro e w' (⟨h, _⟩ | ⟨_, h, hb⟩)
        · exact absurd h hgood
        · exact ⟨h, hb⟩
end Go.Proofs.YtcjkficpiedpfabDoor.Tree
