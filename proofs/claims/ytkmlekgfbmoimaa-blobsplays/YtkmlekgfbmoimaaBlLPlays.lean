/-
  The walk of BlobsPlays.
-/
import Derived.Test.YtkmlekgfbmoimaaBlPlay3
namespace Go.Proofs.Ytkmlekgfbmoimaa.Blobs
open Go.RowKit Route

set_option maxHeartbeats 2000000 in
set_option maxRecDepth 100000 in
theorem plays_bad (q : Int) (a : Option Addr) (n cap : Nat) (key : ByteArray) (w : World) (h : q < 0 ∨ 65536 < q) :
    Calls Try.prog 3 #[.int .i64 q, .slice a n cap, .string key] w fun e w' => e = .returned (.bool true) ∧ Below w.heap.size w w' := by
  have HU : Hid (Calls _ _ _ _ _) := up_any w
  have HN : Hid (∀ w, Calls Try.prog 7 #[.int .i64 q] w _) := fun w => new_bad q w h
  have h2 := eqArg
  rcases h with h | h
  all_goals
    go_enter Try.func3, Try.ntmps3
    go_wp2_with fail
    refine HU.out.mono ?_
    rintro e w1 ⟨rfl, hb1⟩
    go_wp2_with fail
    refine (HN.out w1).mono ?_
    rintro e w2 ⟨rfl, rfl⟩
    go_wp2
    go_ret
    exact ⟨rfl, hb1⟩

set_option maxHeartbeats 8000000 in
set_option maxRecDepth 100000 in
theorem plays_main (q : Nat) (a : Option Addr) (n cap : Nat) (key : ByteArray) (w : World) (hq : q ≤ 65536) (hd : DeedsIn w a n) (_ : n ≤ 9223372036854775807) (hkey : key.size ≤ maxLen) :
    Calls Try.prog 3 #[.int .i64 (q : Int), .slice a n cap, .string key] w fun e w' => e = .returned (.bool true) ∧ Below w.heap.size w w' := by
  have HU : Hid (Calls _ _ _ _ _) := up_any w
  have HD : Hid (DeedsIn w a n) := hd
  have HKEY : Hid (key.size ≤ maxLen) := hkey
  have q1 := neNil
  have q2 := neArg
  have q3 := neNone
  have q4 := neFull
  clear hd hkey
  go_enter Try.func3, Try.ntmps3
  go_wp2_with fail
  refine HU.out.mono ?_
  rintro e w1 ⟨rfl, hb1⟩
  have HW : Hid (Calls _ _ _ _ _) := new_ok q w1 hq
  have HB1 : Hid (Below w.heap.size w w1) := hb1
  have hz1 := hb1.size
  clear HU hb1
  go_wp2_with fail
  refine HW.out.mono ?_
  rintro e w2 ⟨rfl, hs2, hb2, hz2⟩
  have HA : Hid (Px w w2 w1.heap.size q 0 (.slice none 0 0) []) := ⟨hs2, Row.nil _ _, HB1.out.trans (hb2.mono HB1.out.size), hz1, by omega⟩
  generalize w1.heap.size = u at *
  clear HW hs2 hb2 HB1 hz2
  go_wp2
  go_loopw [6, 10, 11] (fun t6 t10 t11 wr => ∃ (j k cp : Nat) (ad : Option Addr) (S : List ByteArray), t6 = .bool false ∧ t10 = .slice ad k cp ∧ t11 = .int .i64 (j : Int) ∧ j ≤ n ∧ j ≤ 60 ∧ k ≤ 65536 ∧ cp ≤ 9223372036854775807 ∧ Hid (Px w wr u q j (.slice ad k cp) S)) (fun _ _ t11 _ => n - (intOf t11).toNat)
  case atStart => exact ⟨0, 0, 0, none, [], rfl, rfl, rfl, Nat.zero_le _, Nat.zero_le _, Nat.zero_le _, Nat.zero_le _, HA⟩
  case round =>
    obtain ⟨j, k, cp, ad, S, rfl, rfl, rfl, hj, hj2, hk, hcp, HP⟩ := hrel
    clear HA
    by_cases hlt : j < n ∧ j < 60
    · obtain ⟨h1, h2⟩ := hlt
      have hdd : ∃ x, a = some x ∧ DeedAt w (x.add (j * 3)) := by
        rcases HD.out with h0 | ⟨x, hx, h⟩
        · omega
        · exact ⟨x, hx, h j h1⟩
      obtain ⟨x, rfl, hda⟩ := hdd
      have hix := index_deed x n cap j h1
      have hs32 := size32
      have ha32 := agg32
      obtain ⟨p, hp⟩ : ∃ p, p = x.add (j * 3) := ⟨_, rfl⟩
      rw [← hp] at hda hix
      obtain ⟨c, s, da, dk, dc, dl, c0', c1', c2', hc, hsz, hdn, hdl, hdkm, hds⟩ := hda
      have HBE : Hid (Below w.heap.size w wr) := HP.out.bel
      have c0 := cell_below HBE.out (Nat.le_refl _) c0'
      have c1 := cell_below HBE.out (Nat.le_refl _) c1'
      have c2 := cell_below HBE.out (Nat.le_refl _) c2'
      have HDL : Hid (dk = dl.length ∧ Lies w da dl) := ⟨hdn, hdl⟩
      have HDS : Hid (∀ s ∈ dl, s.size ≤ maxLen) := hds
      obtain ⟨y, hy⟩ : ∃ y, y = s.size := ⟨_, rfl⟩
      have HY : Hid (y = s.size) := hy
      have hlen := len_text s y hy
      have hym : y ≤ 9223372036854775807 := by rw [hy]; exact hsz
      have HSZ : Hid (s.size ≤ maxLen) := hsz
      have HC : Hid (_ ∧ _) := hc
      unfold maxLen at hdkm
      clear c0' c1' c2' hdn hdl hds hy hp hc hsz
      by_cases hdk : dk ≤ 200
      · by_cases hy2 : y ≤ 2000
        · have H8 : Hid (Calls Try.prog 8 #[.slice ad k cp, .string s] (wr.alloc (.cells #[.int .i64 c, .string s, .slice da dk dc] 32)) fun e w' => e = .returned (.bool (inB S s)) ∧ Hid (Px w w' u q j (.slice ad k cp) S ∧ Box w' wr.heap.size u c s (.slice da dk dc))) := has_list HP.out hk
          have HPK : Hid (∀ W, Calls Try.prog 9 #[.int .i64 c, .int .i64 ((5 : Nat) : Int)] W fun e w' => (∃ q : Nat, q < 5 ∧ e = .returned (.int .i64 (q : Int))) ∧ w' = W) := fun W => pick_any c 5 W HC.out.1 HC.out.2 (by omega) (by omega)
          clear HP HBE
          go_wp2_with fail
          refine H8.out.mono ?_
          rintro e w3 ⟨rfl, H3⟩
          obtain ⟨b0, b1, b2⟩ := H3.out.2.cells
          obtain ⟨tz, htz, htt⟩ : ∃ tz : Nat, tz ≤ 65536 ∧ tz = total S := ⟨_, Nat.le_trans H3.out.1.store.room H3.out.1.store.lim, rfl⟩
          have HTZ : Hid (tz = total S) := htt
          clear H8 c0 c1 c2 hix hs32 ha32 htt
          generalize hbx : wr.heap.size = bx at *
          clear hbx
          obtain ⟨r, hrr⟩ : ∃ r, inB S s = r := ⟨_, rfl⟩
          rw [hrr]
          go_wp2_with fail
          refine (HPK.out _).mono ?_
          rintro e w3 ⟨⟨qq, hqq, rfl⟩, rfl⟩
          clear HPK
          have hsz := HSZ.out
          by_cases g3 : qq = 3
          · subst g3
            cases r
            ·
              as_aux_lemma =>
                have HDR : Hid (Calls Try.prog 10 #[.pointer (some ⟨u + 1, 0, none⟩), .string s] w3 fun e w' => e = .returned (.iface 29 (.int .i64 3)) ∧ Hid (Py w w' u q j (.slice ad k cp) S (out s S) ∧ Box w' bx u c s (.slice da dk dc))) := drop_not H3.out.1 H3.out.2 hsz hrr
                clear H3 hrr
                go_wp2_with fail
                refine HDR.out.mono ?_
                rintro e w4 ⟨rfl, H4⟩
                obtain ⟨_, d1, _⟩ := H4.out.2.cells
                clear HDR b0 b1 b2

                have H11 : Hid (Calls Try.prog 11 #[.slice ad k cp, .slice (some ⟨w4.heap.size, 0, none⟩) 1 1, .bool false] (w4.alloc (.cells #[.string s] 9)) fun e w' => ∃ a5 k5 c5, e = .returned (.slice a5 k5 c5) ∧ k5 ≤ 65536 ∧ c5 ≤ 9223372036854775807 ∧ Hid (Px w w' u q j (.slice a5 k5 c5) (out s S))) := drop_list H4.out.1
                clear H4
                go_wp2_with fail
                refine H11.out.mono ?_
                rintro e w5 ⟨a5, k5, c5, rfl, hk5, hc5, HPX⟩
                clear H11 d1

                have HTK : Hid (Calls _ _ _ _ _) := tail_keys HPX.out (by omega)
                go_wp2_with fail
                refine HTK.out.mono ?_
                rintro e w6 ⟨a6, c6, rfl, hc6, H6⟩
                have HTM : Hid (Calls _ _ _ _ _) := tail_same H6.out.2 H6.out.1 (by omega)
                clear HTK HPX
                go_wp2_with fail
                refine HTM.out.mono ?_
                rintro e w7 ⟨rfl, H7⟩
                obtain ⟨tz7, htz7, htt, HZ1, HZ2⟩ := tail_size H7.out (by omega)
                clear HTM H6 htt
                go_wp2_with fail
                refine HZ1.out.mono ?_
                rintro e w8 ⟨rfl, rfl⟩
                go_wp2_with fail
                refine HZ2.out.mono ?_
                rintro e w9 ⟨rfl, rfl⟩
                clear HZ1 HZ2
                go_wp2
                go_roundw
                case rel => first | exact ⟨j + 1, _, _, _, _, rfl, rfl, by go_num, by omega, by omega, by omega, by omega, H7.out.more⟩ | exact ⟨j + 1, _, _, _, _, rfl, rfl, by go_num, by omega, by omega, by omega, by omega, H7⟩
                case measure => simp [intOf]; omega
            ·
              as_aux_lemma =>
                have HDR : Hid (Calls Try.prog 10 #[.pointer (some ⟨u + 1, 0, none⟩), .string s] w3 fun e w' => e = .returned .nilIface ∧ Hid (Py w w' u q j (.slice ad k cp) S (out s S) ∧ Box w' bx u c s (.slice da dk dc))) := drop_yes H3.out.1 H3.out.2 hrr
                clear H3 hrr
                go_wp2_with fail
                refine HDR.out.mono ?_
                rintro e w4 ⟨rfl, H4⟩
                obtain ⟨_, d1, _⟩ := H4.out.2.cells
                clear HDR b0 b1 b2

                have H11 : Hid (Calls Try.prog 11 #[.slice ad k cp, .slice (some ⟨w4.heap.size, 0, none⟩) 1 1, .bool false] (w4.alloc (.cells #[.string s] 9)) fun e w' => ∃ a5 k5 c5, e = .returned (.slice a5 k5 c5) ∧ k5 ≤ 65536 ∧ c5 ≤ 9223372036854775807 ∧ Hid (Px w w' u q j (.slice a5 k5 c5) (out s S))) := drop_list H4.out.1
                clear H4
                go_wp2_with fail
                refine H11.out.mono ?_
                rintro e w5 ⟨a5, k5, c5, rfl, hk5, hc5, HPX⟩
                clear H11 d1

                have HTK : Hid (Calls _ _ _ _ _) := tail_keys HPX.out (by omega)
                go_wp2_with fail
                refine HTK.out.mono ?_
                rintro e w6 ⟨a6, c6, rfl, hc6, H6⟩
                have HTM : Hid (Calls _ _ _ _ _) := tail_same H6.out.2 H6.out.1 (by omega)
                clear HTK HPX
                go_wp2_with fail
                refine HTM.out.mono ?_
                rintro e w7 ⟨rfl, H7⟩
                obtain ⟨tz7, htz7, htt, HZ1, HZ2⟩ := tail_size H7.out (by omega)
                clear HTM H6 htt
                go_wp2_with fail
                refine HZ1.out.mono ?_
                rintro e w8 ⟨rfl, rfl⟩
                go_wp2_with fail
                refine HZ2.out.mono ?_
                rintro e w9 ⟨rfl, rfl⟩
                clear HZ1 HZ2
                go_wp2
                go_roundw
                case rel => first | exact ⟨j + 1, _, _, _, _, rfl, rfl, by go_num, by omega, by omega, by omega, by omega, H7.out.more⟩ | exact ⟨j + 1, _, _, _, _, rfl, rfl, by go_num, by omega, by omega, by omega, by omega, H7⟩
                case measure => simp [intOf]; omega
          · have e3 : ((qq : Int) == 3) = false := by simp; omega
            by_cases g4 : qq = 4
            · subst g4
              clear hrr hsz
              as_aux_lemma =>
                have H11 : Hid (Calls Try.prog 11 #[.slice ad k cp, .slice da dk dc, .bool true] w3 fun e w' => ∃ a4 k4 c4, e = .returned (.slice a4 k4 c4) ∧ k4 ≤ k ∧ c4 ≤ 9223372036854775807 ∧ Hid (k4 = (only dl true S).length ∧ Px w w' u q j (.slice ad k cp) S ∧ Row (u + 2) w' (.slice a4 k4 c4) (only dl true S) ∧ Box w' bx u c s (.slice da dk dc))) := keep_list H3.out.1 H3.out.2 HDL.out hdk hk
                clear H3
                go_wp2_with fail
                refine H11.out.mono ?_
                rintro e w4 ⟨a4, k4, c4, rfl, hk4, hc4, H4⟩
                obtain ⟨_, _, d2⟩ := H4.out.2.2.2.cells
                have HKP : Hid (Calls Try.prog 12 #[.pointer (some ⟨u + 1, 0, none⟩), .slice da dk dc] w4 fun e w' => e = .returned (.int .i64 ((k : Int) - (k4 : Int))) ∧ Hid (Px w w' u q j (.slice a4 k4 c4) (only dl true S))) := keep_rest H4.out.2.1 H4.out.2.2.1 H4.out.1 HDL.out HDS.out hdk
                clear H11 H4 b0 b1 b2
                go_wp2_with fail
                refine HKP.out.mono ?_
                rintro e w5 ⟨rfl, HPX⟩
                clear HKP d2

                have HTK : Hid (Calls _ _ _ _ _) := tail_keys HPX.out (by omega)
                go_wp2_with fail
                refine HTK.out.mono ?_
                rintro e w6 ⟨a6, c6, rfl, hc6, H6⟩
                have HTM : Hid (Calls _ _ _ _ _) := tail_same H6.out.2 H6.out.1 (by omega)
                clear HTK HPX
                go_wp2_with fail
                refine HTM.out.mono ?_
                rintro e w7 ⟨rfl, H7⟩
                obtain ⟨tz7, htz7, htt, HZ1, HZ2⟩ := tail_size H7.out (by omega)
                clear HTM H6 htt
                go_wp2_with fail
                refine HZ1.out.mono ?_
                rintro e w8 ⟨rfl, rfl⟩
                go_wp2_with fail
                refine HZ2.out.mono ?_
                rintro e w9 ⟨rfl, rfl⟩
                clear HZ1 HZ2
                go_wp2
                go_roundw
                case rel => first | exact ⟨j + 1, _, _, _, _, rfl, rfl, by go_num, by omega, by omega, by omega, by omega, H7.out.more⟩ | exact ⟨j + 1, _, _, _, _, rfl, rfl, by go_num, by omega, by omega, by omega, by omega, H7⟩
                case measure => simp [intOf]; omega
            · have e4 : ((qq : Int) == 4) = false := by simp; omega
              clear g3 g4
              by_cases y1 : y < 1
              ·
                as_aux_lemma =>
                  have HPT : Hid (Calls Try.prog 13 #[.pointer (some ⟨u + 1, 0, none⟩), .string s] w3 fun e w' => e = .returned (.iface 29 (.int .i64 1)) ∧ Hid (Px w w' u q j (.slice ad k cp) S ∧ Box w' bx u c s (.slice da dk dc))) := put_none H3.out.1 H3.out.2 hsz (by rw [← HY.out]; omega)
                  clear H3
                  go_wp2_with fail
                  refine HPT.out.mono ?_
                  rintro e w4 ⟨rfl, H4⟩
                  obtain ⟨_, d1, _⟩ := H4.out.2.cells
                  clear HPT b0 b1 b2

                  have HPX : Hid (Px w w4 u q j (.slice ad k cp) S) := H4.out.1
                  clear H4

                  have HTK : Hid (Calls _ _ _ _ _) := tail_keys HPX.out (by omega)
                  go_wp2_with fail
                  refine HTK.out.mono ?_
                  rintro e w6 ⟨a6, c6, rfl, hc6, H6⟩
                  have HTM : Hid (Calls _ _ _ _ _) := tail_same H6.out.2 H6.out.1 (by omega)
                  clear HTK HPX
                  go_wp2_with fail
                  refine HTM.out.mono ?_
                  rintro e w7 ⟨rfl, H7⟩
                  obtain ⟨tz7, htz7, htt, HZ1, HZ2⟩ := tail_size H7.out (by omega)
                  clear HTM H6 htt
                  go_wp2_with fail
                  refine HZ1.out.mono ?_
                  rintro e w8 ⟨rfl, rfl⟩
                  go_wp2_with fail
                  refine HZ2.out.mono ?_
                  rintro e w9 ⟨rfl, rfl⟩
                  clear HZ1 HZ2
                  go_wp2
                  go_roundw
                  case rel => first | exact ⟨j + 1, _, _, _, _, rfl, rfl, by go_num, by omega, by omega, by omega, by omega, H7.out.more⟩ | exact ⟨j + 1, _, _, _, _, rfl, rfl, by go_num, by omega, by omega, by omega, by omega, H7⟩
                  case measure => simp [intOf]; omega
              · by_cases y2 : 64 < y
                ·
                  as_aux_lemma =>
                    have HPT : Hid (Calls Try.prog 13 #[.pointer (some ⟨u + 1, 0, none⟩), .string s] w3 fun e w' => e = .returned (.iface 29 (.int .i64 1)) ∧ Hid (Px w w' u q j (.slice ad k cp) S ∧ Box w' bx u c s (.slice da dk dc))) := put_none H3.out.1 H3.out.2 hsz (by rw [← HY.out]; omega)
                    clear H3
                    go_wp2_with fail
                    refine HPT.out.mono ?_
                    rintro e w4 ⟨rfl, H4⟩
                    obtain ⟨_, d1, _⟩ := H4.out.2.cells
                    clear HPT b0 b1 b2

                    have HPX : Hid (Px w w4 u q j (.slice ad k cp) S) := H4.out.1
                    clear H4

                    have HTK : Hid (Calls _ _ _ _ _) := tail_keys HPX.out (by omega)
                    go_wp2_with fail
                    refine HTK.out.mono ?_
                    rintro e w6 ⟨a6, c6, rfl, hc6, H6⟩
                    have HTM : Hid (Calls _ _ _ _ _) := tail_same H6.out.2 H6.out.1 (by omega)
                    clear HTK HPX
                    go_wp2_with fail
                    refine HTM.out.mono ?_
                    rintro e w7 ⟨rfl, H7⟩
                    obtain ⟨tz7, htz7, htt, HZ1, HZ2⟩ := tail_size H7.out (by omega)
                    clear HTM H6 htt
                    go_wp2_with fail
                    refine HZ1.out.mono ?_
                    rintro e w8 ⟨rfl, rfl⟩
                    go_wp2_with fail
                    refine HZ2.out.mono ?_
                    rintro e w9 ⟨rfl, rfl⟩
                    clear HZ1 HZ2
                    go_wp2
                    go_roundw
                    case rel => first | exact ⟨j + 1, _, _, _, _, rfl, rfl, by go_num, by omega, by omega, by omega, by omega, H7.out.more⟩ | exact ⟨j + 1, _, _, _, _, rfl, rfl, by go_num, by omega, by omega, by omega, by omega, H7⟩
                    case measure => simp [intOf]; omega
                · have y1' : 1 ≤ y := by omega
                  have y2' : y ≤ 64 := by omega
                  cases r
                  · by_cases hfull : q < tz + y
                    ·
                      as_aux_lemma =>
                        have HPT : Hid (Calls Try.prog 13 #[.pointer (some ⟨u + 1, 0, none⟩), .string s] w3 fun e w' => e = .returned (.iface 29 (.int .i64 5)) ∧ Hid (Px w w' u q j (.slice ad k cp) S ∧ Box w' bx u c s (.slice da dk dc))) := put_over H3.out.1 H3.out.2 (by rw [← HY.out]; omega) (by rw [← HY.out]; omega) hrr (by rw [← HY.out, ← HTZ.out]; omega)
                        clear H3
                        go_wp2_with fail
                        refine HPT.out.mono ?_
                        rintro e w4 ⟨rfl, H4⟩
                        obtain ⟨_, d1, _⟩ := H4.out.2.cells
                        clear HPT b0 b1 b2

                        obtain ⟨h14, HPY⟩ := size_list H4.out.1 hk HTZ.out htz
                        have hwr : IntKind.i64.wrap ((tz : Int) + (y : Int)) = (tz : Int) + (y : Int) := by rw [IntKind.wrap_i64]; omega
                        have hgd : decide ((q : Int) < (tz : Int) + (y : Int)) = true := by simp; omega
                        go_wp2_with fail
                        go_quiet ((go_at_call 14; first | exact Calls.quiet_of_same (h14 _) | exact Calls.quiet_of_same (h14 0)))

                        have HPX : Hid (Px w (w4.drewN nq) u q j (.slice ad k cp) S) := HPY.out nq
                        clear H4 HPY h14

                        have HTK : Hid (Calls _ _ _ _ _) := tail_keys HPX.out (by omega)
                        go_wp2_with fail
                        refine HTK.out.mono ?_
                        rintro e w6 ⟨a6, c6, rfl, hc6, H6⟩
                        have HTM : Hid (Calls _ _ _ _ _) := tail_same H6.out.2 H6.out.1 (by omega)
                        clear HTK HPX
                        go_wp2_with fail
                        refine HTM.out.mono ?_
                        rintro e w7 ⟨rfl, H7⟩
                        obtain ⟨tz7, htz7, htt, HZ1, HZ2⟩ := tail_size H7.out (by omega)
                        clear HTM H6 htt
                        go_wp2_with fail
                        refine HZ1.out.mono ?_
                        rintro e w8 ⟨rfl, rfl⟩
                        go_wp2_with fail
                        refine HZ2.out.mono ?_
                        rintro e w9 ⟨rfl, rfl⟩
                        clear HZ1 HZ2
                        go_wp2
                        go_roundw
                        case rel => first | exact ⟨j + 1, _, _, _, _, rfl, rfl, by go_num, by omega, by omega, by omega, by omega, H7.out.more⟩ | exact ⟨j + 1, _, _, _, _, rfl, rfl, by go_num, by omega, by omega, by omega, by omega, H7⟩
                        case measure => simp [intOf]; omega
                    ·
                      as_aux_lemma =>
                        have HPT : Hid (Calls Try.prog 13 #[.pointer (some ⟨u + 1, 0, none⟩), .string s] w3 fun e w' => e = .returned .nilIface ∧ Hid (Py w w' u q (j + 1) (.slice ad k cp) S (ins s S) ∧ Box w' bx u c s (.slice da dk dc))) := put_fits H3.out.1 H3.out.2 (by rw [← HY.out]; omega) (by rw [← HY.out]; omega) hrr (by rw [← HY.out, ← HTZ.out]; omega) (by omega)
                        clear H3
                        go_wp2_with fail
                        refine HPT.out.mono ?_
                        rintro e w4 ⟨rfl, H4⟩
                        obtain ⟨_, d1, _⟩ := H4.out.2.cells
                        clear HPT b0 b1 b2

                        obtain ⟨h14, HPY⟩ := size_list2 H4.out.1 hk HTZ.out htz
                        have hwr : IntKind.i64.wrap ((tz : Int) + (y : Int)) = (tz : Int) + (y : Int) := by rw [IntKind.wrap_i64]; omega
                        have hgd : decide ((q : Int) < (tz : Int) + (y : Int)) = false := by simp; omega
                        go_wp2_with fail
                        go_quiet ((go_at_call 14; first | exact Calls.quiet_of_same (h14 _) | exact Calls.quiet_of_same (h14 0)))

                        have H15 : Hid (Calls Try.prog 15 #[.slice ad k cp, .string s] (w4.drewN nq) fun e w' => ∃ a5 k5 c5, e = .returned (.slice a5 k5 c5) ∧ k5 ≤ 65536 ∧ c5 ≤ 9223372036854775807 ∧ Hid (Px w w' u q (j + 1) (.slice a5 k5 c5) (ins s S))) := put_list (HPY.out nq) hk
                        clear H4 HPY h14
                        go_wp2_with fail
                        refine H15.out.mono ?_
                        rintro e w5 ⟨a5, k5, c5, rfl, hk5, hc5, HPX⟩
                        clear H15 d1

                        have HTK : Hid (Calls _ _ _ _ _) := tail_keys HPX.out (by omega)
                        go_wp2_with fail
                        refine HTK.out.mono ?_
                        rintro e w6 ⟨a6, c6, rfl, hc6, H6⟩
                        have HTM : Hid (Calls _ _ _ _ _) := tail_same H6.out.2 H6.out.1 (by omega)
                        clear HTK HPX
                        go_wp2_with fail
                        refine HTM.out.mono ?_
                        rintro e w7 ⟨rfl, H7⟩
                        obtain ⟨tz7, htz7, htt, HZ1, HZ2⟩ := tail_size H7.out (by omega)
                        clear HTM H6 htt
                        go_wp2_with fail
                        refine HZ1.out.mono ?_
                        rintro e w8 ⟨rfl, rfl⟩
                        go_wp2_with fail
                        refine HZ2.out.mono ?_
                        rintro e w9 ⟨rfl, rfl⟩
                        clear HZ1 HZ2
                        go_wp2
                        go_roundw
                        case rel => first | exact ⟨j + 1, _, _, _, _, rfl, rfl, by go_num, by omega, by omega, by omega, by omega, H7.out.more⟩ | exact ⟨j + 1, _, _, _, _, rfl, rfl, by go_num, by omega, by omega, by omega, by omega, H7⟩
                        case measure => simp [intOf]; omega
                  ·
                    as_aux_lemma =>
                      have HPT : Hid (Calls Try.prog 13 #[.pointer (some ⟨u + 1, 0, none⟩), .string s] w3 fun e w' => e = .returned .nilIface ∧ Hid (Px w w' u q j (.slice ad k cp) S ∧ Box w' bx u c s (.slice da dk dc))) := put_there H3.out.1 H3.out.2 (by rw [← HY.out]; omega) (by rw [← HY.out]; omega) hrr
                      clear H3
                      go_wp2_with fail
                      refine HPT.out.mono ?_
                      rintro e w4 ⟨rfl, H4⟩
                      obtain ⟨_, d1, _⟩ := H4.out.2.cells
                      clear HPT b0 b1 b2

                      have HPX : Hid (Px w w4 u q j (.slice ad k cp) S) := H4.out.1
                      clear H4

                      have HTK : Hid (Calls _ _ _ _ _) := tail_keys HPX.out (by omega)
                      go_wp2_with fail
                      refine HTK.out.mono ?_
                      rintro e w6 ⟨a6, c6, rfl, hc6, H6⟩
                      have HTM : Hid (Calls _ _ _ _ _) := tail_same H6.out.2 H6.out.1 (by omega)
                      clear HTK HPX
                      go_wp2_with fail
                      refine HTM.out.mono ?_
                      rintro e w7 ⟨rfl, H7⟩
                      obtain ⟨tz7, htz7, htt, HZ1, HZ2⟩ := tail_size H7.out (by omega)
                      clear HTM H6 htt
                      go_wp2_with fail
                      refine HZ1.out.mono ?_
                      rintro e w8 ⟨rfl, rfl⟩
                      go_wp2_with fail
                      refine HZ2.out.mono ?_
                      rintro e w9 ⟨rfl, rfl⟩
                      clear HZ1 HZ2
                      go_wp2
                      go_roundw
                      case rel => first | exact ⟨j + 1, _, _, _, _, rfl, rfl, by go_num, by omega, by omega, by omega, by omega, H7.out.more⟩ | exact ⟨j + 1, _, _, _, _, rfl, rfl, by go_num, by omega, by omega, by omega, by omega, H7⟩
                      case measure => simp [intOf]; omega
        · go_wp2
          go_ret
          exact ⟨rfl, HBE.out.alloc HBE.out.size _⟩
      · go_wp2
        go_ret
        exact ⟨rfl, HBE.out.alloc HBE.out.size _⟩
    · obtain ⟨r, hrr⟩ : ∃ r, inB S key = r := ⟨_, rfl⟩
      have hh := has_any HP.out.store key HKEY.out
      rw [hrr] at hh
      have HH : Hid (Calls _ _ _ _ _) := hh
      have HR : Hid (∀ w', Below wr.heap.size wr w' → Calls Try.prog 8 #[.slice ad k cp, .string key] w' fun e w2 => e = .returned (.bool r) ∧ w2 = w') := fun w' hb => by
        rw [← hrr]
        obtain ⟨g1, _, _, g2⟩ := (HP.out.row.below hb).parts
        exact refHas_any ad k cp S key w' g1 g2 (by omega)
      have HBE : Hid (Below w.heap.size w wr) := HP.out.bel
      clear hh hrr HP
      by_cases h1 : j < n
      all_goals
        have h2 : j < n → 60 ≤ j := by omega
        first | (have h3 : 60 ≤ j := h2 h1) | skip
        clear h2 hlt
        go_wp2_with fail
        refine HH.out.mono ?_
        rintro e w3 ⟨rfl, hb3⟩
        go_wp2_with fail
        refine (HR.out w3 hb3).mono ?_
        rintro e w4 ⟨rfl, rfl⟩
        cases r
        all_goals
          go_wp2
          go_ret
          exact ⟨rfl, HBE.out.trans (hb3.mono HBE.out.size)⟩

theorem blobsPlays_walk (q : Int) (a : Option Addr) (n cap : Nat) (key : ByteArray) (w : World) (_ : (Lit.int .i64 q).wf = true) (hd : DeedsIn w a n ∧ n ≤ maxLen) (hkey : key.size ≤ maxLen) :
    Calls Try.prog 3 #[.int .i64 q, .slice a n cap, .string key] w fun e w' => e = .returned (.bool true) ∧ Below w.heap.size w w' := by
  by_cases h : q < 0 ∨ 65536 < q
  · exact plays_bad q a n cap key w h
  · obtain ⟨m, rfl⟩ : ∃ m : Nat, q = (m : Int) := ⟨q.toNat, by omega⟩
    exact plays_main m a n cap key w (by omega) hd.1 hd.2 hkey
end Go.Proofs.Ytkmlekgfbmoimaa.Blobs
