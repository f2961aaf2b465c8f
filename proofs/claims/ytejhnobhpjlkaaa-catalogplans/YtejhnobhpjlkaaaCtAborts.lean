/-
  The walk of CatalogAborts.
-/
import Derived.Test.YtejhnobhpjlkaaaCtLw
import Derived.Test.YtejhnobhpjlkaaaCtUp
namespace Go.Proofs.Ytejhnobhpjlkaaa.Cat
open Go.RowKit Route Tree Order

/-- What was told in between stays: blocks from B0 on that were there at w4; the catalog's lie elsewhere. -/
structure Keep (B0 : Nat) (w4 : World) (p : Nat) (v : Value) (Z : List SZ) (w : World) : Prop where
  frame : ∀ k, B0 ≤ k → k < w4.heap.size → w.heap[k]? = w4.heap[k]?
  owns : ∀ k, Owns p v Z k → k < B0 ∨ w4.heap.size ≤ k
  size : w4.heap.size ≤ w.heap.size

theorem Keep.below {B0 : Nat} {w4 w w' : World} {p : Nat} {v : Value} {Z : List SZ} (h : Keep B0 w4 p v Z w) (hb : Below w.heap.size w w') : Keep B0 w4 p v Z w' :=
  ⟨fun k h1 h2 => (hb.block k (Nat.lt_of_lt_of_le h2 h.size)).trans (h.frame k h1 h2), h.owns, Nat.le_trans h.size hb.size⟩
theorem Keep.did {B0 B : Nat} {w4 w w' : World} {p : Nat} {v v' : Value} {Z Z' : List SZ} {r : Rq} {y : An} (h : Keep B0 w4 p v Z w) (hD : Did B p v Z r w y v' Z' w') : Keep B0 w4 p v' Z' w' := by
  have hz := h.size
  refine ⟨fun k h1 h2 => (hD.next.turn.block k (by omega) fun ho => ?_).trans (h.frame k h1 h2), fun k hk => ?_, Nat.le_trans h.size hD.next.turn.size⟩
  · have := h.owns k ho
    omega
  · rcases hD.next.owns k hk with h1 | h1
    · exact h.owns k h1
    · right; omega

theorem SRow.frame {B0 : Nat} {v0 : Value} {Z0 : List SZ} {w4 w : World} (h : SRow B0 v0 Z0 w4) (hf : ∀ k, B0 ≤ k → k < w4.heap.size → w.heap[k]? = w4.heap[k]?) : SRow B0 v0 Z0 w := by
  have hk : ∀ {e s n : Nat} {u : Value} {us : List Value}, w4.ownsRow B0 e s u n us → w.ownsRow B0 e s u n us := fun {e s n u us} ho => own_keep ho fun g hg => hf g (ho.lt g hg).1 (ho.lt g hg).2
  exact ⟨hk h.own, fun z hz => ⟨hk (h.ents z hz).1, fun y hy => hk ((h.ents z hz).2 y hy)⟩, h.apart⟩

/-- What was begun. -/
theorem full_begin {S : List Snap} {c : Int} {nm : ByteArray} (h : (full S ⟨c, 1, 1, 0, nm, ⟨#[]⟩, []⟩).1.code = 0) : may ⟨c, 1, 1, 0, nm, ⟨#[]⟩, []⟩ = true ∧ place c nm S = none ∧ (full S ⟨c, 1, 1, 0, nm, ⟨#[]⟩, []⟩).2 = S ++ [(c, nm, false, [])] := by
  rw [full_else (.inl (by show (1 : Int) ≠ 9; decide))] at h ⊢
  cases hm : may ⟨c, 1, 1, 0, nm, ⟨#[]⟩, []⟩ with
  | false =>
    have e : step S ⟨c, 1, 1, 0, nm, ⟨#[]⟩, []⟩ = (no 1, S) := by simp [step, hm]
    rw [e] at h
    simp [no] at h
  | true =>
    have e : step S ⟨c, 1, 1, 0, nm, ⟨#[]⟩, []⟩ = if (place c nm S).isSome = true then (no 4, S) else if 8 ≤ count c S then (no 5, S) else (no 0, S ++ [(c, nm, false, [])]) := by simp [step, hm]
    rw [e] at h ⊢
    by_cases h1 : (place c nm S).isSome = true
    · rw [if_pos h1] at h; simp [no] at h
    rw [if_neg h1] at h ⊢
    by_cases h2 : 8 ≤ count c S
    · rw [if_pos h2] at h; simp [no] at h
    rw [if_neg h2]
    exact ⟨rfl, by cases q : place c nm S with | none => rfl | some i => rw [q] at h1; simp at h1, rfl⟩

/-- An entry added to what stands last. -/
theorem full_add {S : List Snap} {c : Int} {nm pt : ByteArray} {ks : List ByteArray} {E : List Ent} (h : place c nm S = none) : ∃ E', (full (S ++ [(c, nm, false, E)]) ⟨c, 1, 2, 0, nm, pt, ks⟩).2 = S ++ [(c, nm, false, E')] := by
  rw [full_else (.inl (by show (2 : Int) ≠ 9; decide))]
  have hx : isOne c nm (c, nm, false, E) = true := by simp [isOne]
  have hf : found c nm false (S ++ [(c, nm, false, E)]) = (S.length, 0) := by rw [found_at hx (place_miss h)]; rfl
  have hs : snapAt (S ++ [(c, nm, false, E)]) S.length = (c, nm, false, E) := snap_at
  cases hm : may ⟨c, 1, 2, 0, nm, pt, ks⟩ with
  | false =>
    refine ⟨E, ?_⟩
    have e : step (S ++ [(c, nm, false, E)]) ⟨c, 1, 2, 0, nm, pt, ks⟩ = (no 1, S ++ [(c, nm, false, E)]) := by simp [step, hm]
    rw [e]
  | true =>
    have e : step (S ++ [(c, nm, false, E)]) ⟨c, 1, 2, 0, nm, pt, ks⟩ = if fault E pt (keysSize ks) ≠ 0 then (no (fault E pt (keysSize ks)), S ++ [(c, nm, false, E)]) else (no 0, (S ++ [(c, nm, false, E)]).set S.length (c, nm, false, putE E (pt, (keysSize ks : Int), ks))) := by
      simp [step, hm, hf, hs]
    rw [e]
    by_cases h0 : fault E pt (keysSize ks) ≠ 0
    · rw [if_pos h0]; exact ⟨E, rfl⟩
    · rw [if_neg h0]; exact ⟨_, set_at⟩

/-- What stands last, open, and aborted. -/
theorem full_abort {S : List Snap} {c : Int} {nm : ByteArray} {E : List Ent} (h : place c nm S = none) (hm : may ⟨c, 1, 1, 0, nm, ⟨#[]⟩, []⟩ = true) : full (S ++ [(c, nm, false, E)]) ⟨c, 1, 4, 0, nm, ⟨#[]⟩, []⟩ = (no 0, S) := by
  rw [full_else (.inl (by show (4 : Int) ≠ 9; decide))]
  have hx : isOne c nm (c, nm, false, E) = true := by simp [isOne]
  have hf : found c nm false (S ++ [(c, nm, false, E)]) = (S.length, 0) := by rw [found_at hx (place_miss h)]; rfl
  have hm4 : may ⟨c, 1, 4, 0, nm, ⟨#[]⟩, []⟩ = true := by simpa [may, mayOp] using hm
  have he : (S ++ [(c, nm, false, E)]).eraseIdx S.length = S ++ [] := erase_at
  rw [List.append_nil] at he
  simp [step, hm4, hf, he]

theorem keys_one {w : World} {x : ByteArray} : KeysAt (w.alloc (.cells #[.string x] 9)) (some ⟨w.heap.size, 0, none⟩) 1 1 [x] :=
  ⟨rfl, .inr ⟨_, rfl, fun i hi => by
    obtain rfl : i = 0 := by simpa using hi
    simp [Addr.add]⟩, by decide, Nat.le_refl _⟩

/-- A client's operation of a law, called with its parts at hand. -/
theorem own_call {w0 w : World} {B p : Nat} {v : Value} {Z : List SZ} (h : Lw w0 B p v Z w) {c k m : Int} {nm pt : ByteArray} {ka : Option Addr} {kn kc : Nat} {ks : List ByteArray} (hnm : nm.size ≤ 100000) (hpt : pt.size ≤ 100000) (hk : KeysAt w ka kn kc ks) :
    Calls Try.prog 11 #[.pointer (some ⟨p, 0, none⟩), .int .i64 c, .agg #[.int .i64 k, .string nm, .string pt, .slice ka kn kc, .int .i64 m]] w fun e w' => ∃ (y : An) (v' : Value) (Z' : List SZ), e = .returned (.agg #[.int .i64 y.a, .int .i64 y.b, .slice y.s2 y.n2 y.c2, .slice y.s3 y.n3 y.c3, .slice y.s4 y.n4 y.c4]) ∧ Hid (Did B p v Z ⟨c, 1, k, m, nm, pt, ks⟩ w y v' Z' w') := by
  refine (did_any h.cat h.fit h.inv hnm hpt hk (Below.refl _ _)).mono ?_
  rintro e w' ⟨y, v', Z', rfl, _, hD⟩
  exact ⟨y, v', Z', rfl, hD⟩

set_option maxHeartbeats 8000000 in
set_option maxRecDepth 100000 in
theorem catalogAborts_main (a : Option Addr) (n cap : Nat) (client : Int) (nm : ByteArray) (pa : Option Addr) (pn pcap : Nat) (pl : List ByteArray) (L : List Rq) (w : World) (hn : n = L.length) (hl : DeedsIn w a L) (hm : n ≤ 9223372036854775807) (hnm : nm.size ≤ maxLen) (hpn : pn = pl.length) (hpl : Route.Lies w pa pl) (hpm : pn ≤ 9223372036854775807) (hps : ∀ s ∈ pl, s.size ≤ maxLen) :
    Calls Try.prog 7 #[.slice a n cap, .int .i64 client, .string nm, .slice pa pn pcap] w fun e w' => e = .returned (.bool true) ∧ Below w.heap.size w w' := by
  have HN : Hid (n = L.length) := hn
  have HL : Hid (DeedsIn w a L) := hl
  have HPN : Hid (pn = pl.length) := hpn
  have HPL : Hid (Route.Lies w pa pl) := hpl
  have HPS : Hid (∀ s ∈ pl, s.size ≤ maxLen) := hps
  have HU : Hid (Calls _ _ _ _ _) := up_any w
  obtain ⟨y, hy⟩ : ∃ y, y = nm.size := ⟨_, rfl⟩
  have HY : Hid (y = nm.size) := hy
  have hlen := Order.len_text nm y hy
  have hym : y ≤ 9223372036854775807 := by rw [hy]; exact hnm
  clear hn hl hpn hpl hps hy hnm
  go_enter Try.func7, Try.ntmps7
  go_wp2_with fail
  refine HU.out.mono ?_
  rintro e w1 ⟨rfl, hb1⟩
  have HS : Hid (Calls _ _ _ _ _) := shortD_any a n cap L w1 HN.out (HL.out.below hb1) hm
  have HB1 : Hid (Below w.heap.size w w1) := hb1
  clear HU hb1
  go_wp2_with fail
  refine HS.out.mono ?_
  rintro e w2 ⟨b, rfl, H2⟩
  have HB2 : Hid (Below w.heap.size w w2) := HB1.out.trans (H2.out.2.mono HB1.out.size)
  clear HS
  go_wp2_with fail
  refine (new_any w2).mono ?_
  rintro e w3 ⟨rfl, hw3⟩
  have HA : Hid (Lw w w2.heap.size w2.heap.size (.slice none 0 0) [] w3) := by
    rw [hw3]
    exact ⟨cat_new (Nat.le_refl _), Inv.nil, HB2.out.alloc HB2.out.size _, HB2.out.size, by simp⟩
  cases b
  · clear hw3
    go_wp2
    go_ret
    exact ⟨by rfl, HA.out.bel⟩
  have HSH : Hid (∀ j, j < n → j < 80 → ShortR (rqAt L j)) := H2.out.1 rfl
  generalize w2.heap.size = p at *
  clear hw3 H2 HB2 HB1
  by_cases hy2 : 2000 < y
  · go_wp2
    go_ret
    exact ⟨by rfl, HA.out.bel⟩
  have HNM : Hid (nm.size ≤ 100000) := by show _ ≤ _; rw [← HY.out]; omega
  by_cases hp50 : 50 < pn
  · go_wp2
    go_ret
    exact ⟨by rfl, HA.out.bel⟩
  go_wp2
  clear hlen
  go_loopw [12] (fun t12 wr => ∃ (i : Nat) (v : Value) (Z : List SZ), t12 = .int .i64 (i : Int) ∧ i ≤ n ∧ Hid (Lw w p p v Z wr)) (fun t12 _ => n - (intOf t12).toNat)
  case atStart => exact ⟨0, _, _, rfl, Nat.zero_le _, HA⟩
  case round =>
    obtain ⟨i, v, Z, rfl, hi, HP⟩ := hrel
    clear HA
    by_cases hlt : i < n ∧ i < 80
    · obtain ⟨hin, hi80⟩ := hlt
      obtain ⟨x, hx, hdd⟩ := HL.out.at (j := i) (by rw [← HN.out]; exact hin)
      subst hx
      have hsr := HSH.out i hin hi80
      have hix := index_deed x n cap i hin
      generalize rqAt L i = r at hdd hsr
      generalize x.add (i * 6) = q at hdd hix
      obtain ⟨c, t, k, m, nm, pt, ks⟩ := r
      obtain ⟨ka, kn, kc, ⟨g0, g1, g2, g3, g4, g5⟩, hqb, HD⟩ := deed_call HP.out hdd hsr
      clear hdd hsr
      go_wp2_with fail
      go_region_held (fun W => W.cell? q = some (.int .i64 c) ∧ W.cell? ⟨q.block, q.off + 1, none⟩ = some (.int .i64 k) ∧ W.cell? ⟨q.block, q.off + 1 + 1, none⟩ = some (.string nm) ∧ W.cell? ⟨q.block, q.off + 1 + 2, none⟩ = some (.string pt) ∧ W.cell? ⟨q.block, q.off + 1 + 3, none⟩ = some (.slice ka kn kc) ∧ W.cell? ⟨q.block, q.off + 1 + 4, none⟩ = some (.int .i64 m))
        (first | with_reducible assumption | simp [g0, g1, g2, g3, g4, g5])
        (first | (go_at_call 11; refine (HD.out _ (by exact (Below.refl _ _).drew)).mono ?_; rintro e w5 ⟨⟨ya, yb, s2, n2, c2, s3, n3, c3, s4, n4, c4⟩, v5, Z5, rfl, hc5, hq5, hx5, HD5⟩))
      all_goals
        have HP5 : Hid (Lw w p p v5 Z5 w5) := HP.out.did HD5.out
        clear hc5 hq5 hx5 HD5 HD HP hqb g0 g1 g2 g3 g4 g5 hix
        go_wp2
        go_roundw
        case rel => exact ⟨i + 1, v5, Z5, by go_num, by omega, HP5⟩
        case measure => simp [intOf]; omega
    · have hout : n ≤ i ∨ (i < n ∧ 80 ≤ i) := by omega
      have HW : Hid (Calls _ _ _ _ _) := snaps_law HP.out
      clear hlt
      rcases hout with ho | ⟨ho, ho2⟩
      all_goals
        go_wp2_with fail
        refine HW.out.mono ?_
        rintro e w4 ⟨a0, n0, c0, Z0, rfl, hn0, hn64, H4⟩
        have HQ : Hid (Lw w p p v Z w4) := HP.out.below H4.out.2.2
        obtain ⟨B0, HB0⟩ : ∃ B0, Hid (B0 = wr.heap.size) := ⟨_, rfl⟩
        have HWAS : Hid (SRow B0 (.slice a0 n0 c0) Z0 w4 ∧ n0 = Z0.length ∧ Z0.map snapOf = Z.map snapOf) := ⟨by rw [HB0.out]; exact H4.out.2.1, hn0, H4.out.1⟩
        have HK : Hid (Keep B0 w4 p v Z w4) := ⟨fun _ _ _ => rfl, fun k hk => .inl (by rw [HB0.out]; exact (HP.out.cat.owns hk).2), Nat.le_refl _⟩
        have HI : Hid (Inv (Z.map snapOf)) := HQ.out.inv
        have HD : Hid (Calls _ _ _ _ _) := own_call HQ.out (c := client) (k := 1) (m := 0) (pt := ⟨#[]⟩) HNM.out (by decide) (keys_none w4)
        clear hn0 hn64 H4 HW HP ho
        go_wp2_with fail
        refine HD.out.mono ?_
        rintro e w5 ⟨⟨ya, yb, s2, n2, c2, s3, n3, c3, s4, n4, c4⟩, v5, Z5, rfl, HD5⟩
        have H6 : Hid (Did p p v Z ⟨client, 1, 1, 0, nm, ⟨#[]⟩, []⟩ w4 ⟨ya, yb, s2, n2, c2, s3, n3, c3, s4, n4, c4⟩ v5 Z5 (w5.alloc (.cells #[.int .i64 ya, .int .i64 yb, .slice s2 n2 c2, .slice s3 n3 c3, .slice s4 n4 c4] 30)) ∧ ABox (w5.alloc (.cells #[.int .i64 ya, .int .i64 yb, .slice s2 n2 c2, .slice s3 n3 c3, .slice s4 n4 c4] 30)) w5.heap.size ⟨ya, yb, s2, n2, c2, s3, n3, c3, s4, n4, c4⟩) := HD5.out.lay
        have HQ6 : Hid (Lw w p p v5 Z5 (w5.alloc (.cells #[.int .i64 ya, .int .i64 yb, .slice s2 n2 c2, .slice s3 n3 c3, .slice s4 n4 c4] 30))) := HQ.out.did H6.out.1
        have HK6 : Hid (Keep B0 w4 p v5 Z5 (w5.alloc (.cells #[.int .i64 ya, .int .i64 yb, .slice s2 n2 c2, .slice s3 n3 c3, .slice s4 n4 c4] 30))) := HK.out.did H6.out.1
        obtain ⟨b0, b1, b2, b3, b4⟩ := H6.out.2.cells
        have q1 := H6.out.1.ans.parts.1
        simp only at b0 b1 b2 b3 b4 q1
        by_cases hcode : (full (Z.map snapOf) ⟨client, 1, 1, 0, nm, ⟨#[]⟩, []⟩).1.code = 0
        · obtain ⟨hmay, hpl, hsn⟩ := full_begin hcode
          have HMAY : Hid (may ⟨client, 1, 1, 0, nm, ⟨#[]⟩, []⟩ = true ∧ place client nm (Z.map snapOf) = none) := ⟨hmay, hpl⟩
          have HS6 : Hid (Z5.map snapOf = Z.map snapOf ++ [(client, nm, false, [])]) := H6.out.1.snaps.trans hsn
          have q1' : ya = 0 := by rw [q1, hcode]; rfl
          subst q1'
          clear q1 hcode hmay hpl hsn H6 HD5 HD HQ HK
          go_wp2
          clear b0 b1 b2 b3 b4
          go_loopw [8, 15] (fun t8 t15 wx => ∃ (j : Nat) (v' : Value) (Z' : List SZ) (E : List Ent), t8 = .bool false ∧ t15 = .int .i64 (j : Int) ∧ j ≤ pn ∧ Hid (Lw w p p v' Z' wx) ∧ Hid (Keep B0 w4 p v' Z' wx) ∧ Hid (Z'.map snapOf = Z.map snapOf ++ [(client, nm, false, E)])) (fun _ t15 _ => pn - (intOf t15).toNat)
          case atStart => exact ⟨0, _, _, _, rfl, rfl, Nat.zero_le _, HQ6, HK6, HS6⟩
          case round =>
            obtain ⟨j, v', Z', E, rfl, rfl, hj, HQ7, HK7, HS7⟩ := hrel
            clear HQ6 HK6 HS6
            by_cases hjn : j < pn
            · obtain ⟨bb, off, hb, hc⟩ := (HPL.out.below HQ7.out.bel (Nat.le_refl _)).at (by rw [← HPN.out]; omega)
              subst hb
              have hcell := hc j (by rw [← HPN.out]; exact hjn)
              obtain ⟨s, hs⟩ : ∃ s, s = pl.getD j ByteArray.empty := ⟨_, rfl⟩
              rw [← hs] at hcell
              have hsm : s.size ≤ maxLen := HPS.out s (by rw [hs]; simp [List.getD_eq_getElem?_getD, List.getElem?_eq_getElem (show j < pl.length by rw [← HPN.out]; exact hjn)])
              obtain ⟨z, hz⟩ : ∃ z, z = s.size := ⟨_, rfl⟩
              have hls := Order.len_text s z hz
              have hzm : z ≤ 9223372036854775807 := by rw [hz]; exact hsm
              have HZ : Hid (z = s.size) := hz
              clear hs hc hsm hz
              by_cases hz2 : 2000 < z
              · go_wp2
                go_ret
                exact ⟨rfl, HQ7.out.bel⟩
              · have hal : Below _ _ _ := (Below.refl _ _).alloc (Nat.le_refl wr.heap.size) (.cells #[.string ⟨#[120]⟩] 9)
                have HQ8 : Hid (Lw w p p v' Z' (wr.alloc (.cells #[.string ⟨#[120]⟩] 9))) := HQ7.out.below hal
                have HK8 : Hid (Keep B0 w4 p v' Z' (wr.alloc (.cells #[.string ⟨#[120]⟩] 9))) := HK7.out.below hal
                have HD : Hid (Calls _ _ _ _ _) := own_call HQ8.out (c := client) (k := 2) (m := 0) (pt := s) HNM.out (by rw [← HZ.out]; omega) (keys_one (x := ⟨#[120]⟩))
                clear hal
                go_wp2_with fail
                refine HD.out.mono ?_
                rintro e w9 ⟨⟨ya, yb, s2, n2, c2, s3, n3, c3, s4, n4, c4⟩, v9, Z9, rfl, HD9⟩
                have HQ9 : Hid (Lw w p p v9 Z9 w9) := HQ8.out.did HD9.out
                have HK9 : Hid (Keep B0 w4 p v9 Z9 w9) := HK8.out.did HD9.out
                obtain ⟨E9, hE9⟩ := full_add (E := E) (pt := s) (ks := [⟨#[120]⟩]) HMAY.out.2
                have HS9 : Hid (Z9.map snapOf = Z.map snapOf ++ [(client, nm, false, E9)]) := by
                  have e := HD9.out.snaps
                  rw [HS7.out] at e
                  exact e.trans hE9
                clear hE9 HD9 HD HQ8 HK8 HQ7 HK7 HS7 hcell hls
                go_wp2
                go_roundw
                case rel => exact ⟨j + 1, v9, Z9, E9, rfl, by go_num, by omega, HQ9, HK9, HS9⟩
                case measure => simp [intOf]; omega
            · have HD : Hid (Calls _ _ _ _ _) := own_call HQ7.out (c := client) (k := 4) (m := 0) (pt := ⟨#[]⟩) HNM.out (by decide) (keys_none wr)
              go_wp2_with fail
              refine HD.out.mono ?_
              rintro e w5 ⟨⟨ya, yb, s2, n2, c2, s3, n3, c3, s4, n4, c4⟩, v5, Z5, rfl, HD5⟩
              have H6 : Hid (Did p p v' Z' ⟨client, 1, 4, 0, nm, ⟨#[]⟩, []⟩ wr ⟨ya, yb, s2, n2, c2, s3, n3, c3, s4, n4, c4⟩ v5 Z5 (w5.alloc (.cells #[.int .i64 ya, .int .i64 yb, .slice s2 n2 c2, .slice s3 n3 c3, .slice s4 n4 c4] 30)) ∧ ABox (w5.alloc (.cells #[.int .i64 ya, .int .i64 yb, .slice s2 n2 c2, .slice s3 n3 c3, .slice s4 n4 c4] 30)) w5.heap.size ⟨ya, yb, s2, n2, c2, s3, n3, c3, s4, n4, c4⟩) := HD5.out.lay
              have HQ8 : Hid (Lw w p p v5 Z5 (w5.alloc (.cells #[.int .i64 ya, .int .i64 yb, .slice s2 n2 c2, .slice s3 n3 c3, .slice s4 n4 c4] 30))) := HQ7.out.did H6.out.1
              have HK8 : Hid (Keep B0 w4 p v5 Z5 (w5.alloc (.cells #[.int .i64 ya, .int .i64 yb, .slice s2 n2 c2, .slice s3 n3 c3, .slice s4 n4 c4] 30))) := HK7.out.did H6.out.1
              obtain ⟨b0, b1, b2, b3, b4⟩ := H6.out.2.cells
              have q1 := H6.out.1.ans.parts.1
              simp only at b0 b1 b2 b3 b4 q1
              have hf : full (Z'.map snapOf) ⟨client, 1, 4, 0, nm, ⟨#[]⟩, []⟩ = (no 0, Z.map snapOf) := by rw [HS7.out]; exact full_abort HMAY.out.2 HMAY.out.1
              have HS8 : Hid (Z5.map snapOf = Z.map snapOf) := by
                have e := H6.out.1.snaps
                rw [hf] at e
                exact e
              have q1' : ya = 0 := by rw [q1, hf]; rfl
              subst q1'
              have HSN : Hid (Calls _ _ _ _ _) := snaps_law HQ8.out
              clear q1 hf H6 HD5 HD HQ7 HK7 HS7
              go_wp2_with fail
              refine HSN.out.mono ?_
              rintro e w7 ⟨a7, n7, c7, Z7, rfl, hn7, _, H7⟩
              have hlen : n7 = n0 ∧ n0 = (Z.map snapOf).length := by
                have e1 := congrArg List.length H7.out.1
                have e2 := congrArg List.length HWAS.out.2.2
                have e3 := congrArg List.length HS8.out
                have e4 := HWAS.out.2.1
                simp only [List.length_map] at e1 e2 e3 ⊢
                omega
              obtain ⟨rfl, hnl⟩ := hlen
              have HW7 : SRow B0 (.slice a0 n7 c0) Z0 w7 := HWAS.out.1.frame (HK8.out.below H7.out.2.2).frame
              have HSM : Hid (Calls _ _ _ _ _) := same_law H7.out.2.1 HW7 (H7.out.1.trans HS8.out) HWAS.out.2.2 HI.out hnl
              have HQ9 : Hid (Lw w p p v5 Z5 w7) := HQ8.out.below H7.out.2.2
              clear hn7 hnl H7 HW7 HQ8 HK8 HSN b0 b1 b2 b3 b4
              go_wp2_with fail
              refine HSM.out.mono ?_
              rintro e w8 ⟨rfl, hb8⟩
              have HQ10 : Hid (Lw w p p v5 Z5 w8) := HQ9.out.below hb8
              clear hb8 HSM
              go_wp2
              go_ret
              exact ⟨rfl, HQ10.out.bel⟩
        · have hya : (ya != 0) = true := by rw [q1]; simp; omega
          clear q1 hcode H6 HD5 HD HQ HK HK6
          go_wp2
          go_ret
          exact ⟨rfl, HQ6.out.bel⟩

theorem catalogAborts_walk (a : Option Addr) (n cap : Nat) (client : Int) (nm : ByteArray) (pa : Option Addr) (pl : List ByteArray) (pn pcap : Nat) (w : World) (h : ∃ L : List Rq, n = L.length ∧ DeedsIn w a L ∧ n ≤ 9223372036854775807) {P : Prop} (_ : P) (h2 : nm.size ≤ maxLen) (h3 : pn = pl.length) (h4 : Route.Lies w pa pl) (h5 : pn ≤ pcap) (h6 : pcap ≤ maxLen) (_ : pa = none → pcap = 0) (h7 : ∀ s ∈ pl, s.size ≤ maxLen) :
    Calls Try.prog 7 #[.slice a n cap, .int .i64 client, .string nm, .slice pa pn pcap] w fun e w' => e = .returned (.bool true) ∧ Below w.heap.size w w' := by
  obtain ⟨L, l1, l2, l3⟩ := h
  exact catalogAborts_main a n cap client nm pa pn pcap pl L w l1 l2 l3 h2 h3 h4 (Nat.le_trans h5 h6) h7
end Go.Proofs.Ytejhnobhpjlkaaa.Cat
