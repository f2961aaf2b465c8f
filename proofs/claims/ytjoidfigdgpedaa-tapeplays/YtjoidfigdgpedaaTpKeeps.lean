/-
  The walk of TapeKeeps.
-/
import Derived.Test.YtjoidfigdgpedaaTpTwice
namespace Go.Proofs.Ytjoidfigdgpedaa
open Go.RowKit

/-- A tape, and a row beside it, whatever the row holds. -/
def Beside (W0 w : World) (tp : Nat) (l : List UInt8) (sy : Nat) (r : Option Nat) (B : Nat) (v : Value) (k : Nat) : Prop :=
  St W0 w tp l sy r ∧ ∃ yl : List UInt8, Hid (k = yl.length) ∧ Row B w v yl

theorem TapeAt.apart {B B' : Nat} {w w' : World} {tp sy : Nat} {l l' : List UInt8} {r : Option Nat} {v : Value} (h : TapeAt B w tp l sy r) (hr : Row B' w' v l') (hB : w.heap.size ≤ B') : Apart v tp r := by
  obtain ⟨u, hh, _, ho, hv, _⟩ := h
  have hlt : tp < w.heap.size := (Array.getElem?_eq_some_iff.1 hh).1
  intro k hk
  have h1 := (hr.lt k hk).1
  refine ⟨by omega, fun e => ?_⟩
  have := (ho.lt k (by rw [hv]; exact e.symm)).2
  omega

theorem Row.set {B g k cap : Nat} {yl : List UInt8} {w : World} (h : Row B w (.slice (some ⟨g, 0, none⟩) k cap) yl) (hk : k = yl.length) (j c : Nat) (hc : c < 256) :
    ∃ yl' : List UInt8, Hid (k = yl'.length) ∧ Row B (w.setCell ⟨g, j, none⟩ (.int .u8 (c : Int))) (.slice (some ⟨g, 0, none⟩) k cap) yl' := by
  refine ⟨yl.set j (UInt8.ofNat c), by show _ = _; rw [hk]; simp, ?_⟩
  have h1 : w.ownsRow B 5 1 (.slice (some ⟨g, 0, none⟩) k cap) k (bv yl) := by have h2 : World.ownsRow _ _ _ _ _ _ _ := h; rw [← hk] at h2; exact h2
  have h2 := (h1.stored j (.int .u8 (c : Int))).1
  have e : bv (yl.set j (UInt8.ofNat c)) = (bv yl).set j (.int .u8 (c : Int)) := by
    simp only [bv, List.map_set, u8_small hc]
  show World.ownsRow _ _ _ _ _ _ _
  rw [e, List.length_set, ← hk]
  exact h2

theorem Beside.at_ {W0 w : World} {tp sy B k cap : Nat} {l : List UInt8} {r : Option Nat} {a : Option Addr} (h : Beside W0 w tp l sy r B (.slice a k cap) k) (ha : Apart (.slice a k cap) tp r) (hB : W0.heap.size ≤ B) (j : Nat) (hj : j < k) :
    ∃ g d : Nat, a = some ⟨g, 0, none⟩ ∧ d < 256 ∧ w.cell? ⟨g, j, none⟩ = some (.int .u8 (d : Int)) ∧ w.frozen? ⟨g, j, none⟩ = false ∧ Hid (∀ c : Nat, c < 256 → Beside W0 (w.setCell ⟨g, j, none⟩ (.int .u8 (c : Int))) tp l sy r B (.slice a k cap) k) := by
  obtain ⟨⟨ht, hb⟩, yl, hk, hr⟩ := h
  obtain ⟨a', k', cap', hv, _, _, _, _, hnil, hat⟩ := hr.form
  simp only [Value.slice.injEq] at hv
  obtain ⟨rfl, rfl, rfl⟩ := hv
  cases a with
  | none => exact absurd (hnil rfl).1 (by omega)
  | some x =>
    obtain ⟨g, rfl, hg1, hg2⟩ := hat x rfl
    have hk' : k = yl.length := hk
    have hr2 : w.ownsRow B 5 1 (.slice (some ⟨g, 0, none⟩) k cap) k (bv yl) := by have h2 : World.ownsRow _ _ _ _ _ _ _ := hr; rw [← hk'] at h2; exact h2
    refine ⟨g, (yl[j]'(by omega)).toNat, rfl, (yl[j]'(by omega)).toNat_lt, ?_, hr2.frozenAt j, fun c hc => ?_⟩
    · rw [hr2.cellAt j (by omega)]
      simp [bv, List.getElem?_eq_getElem (show j < yl.length by omega)]
    · obtain ⟨hne, hnr⟩ := ha g rfl
      refine ⟨⟨ht.far (heap_setCell_other w ⟨g, j, none⟩ tp _ (fun e => hne e.symm)) (fun q hq => heap_setCell_other w ⟨g, j, none⟩ q _ (fun e => hnr (by rw [hq, e]))), hb.setCell (show W0.heap.size ≤ g by omega) _⟩, ?_⟩
      exact hr.set hk' j c hc

theorem slice_head {W : World} {a : Option Addr} {k cap n : Nat} (h1 : n ≤ k) (h2 : k ≤ cap) (h3 : cap ≤ maxLen) (hnil : a = none → k = 0 ∧ cap = 0) (q : Int) (hq : q = (n : Int)) :
    (Instr.slice 26 (.slice a k cap) none (some (.int .i64 q)) none).run Try.prog W = .ok (.slice a n cap) W := by
  subst hq
  unfold maxLen at h3
  have el : Try.prog.elem 26 = 5 := by kernel_rfl
  have := run_slice_h (P := Try.prog) W 26 a k cap (by kernel_rfl) .i64 (n : Int) (by omega) (by omega)
  rw [this, el, Try.sizeOf5]
  cases a with
  | none => obtain ⟨rfl, rfl⟩ := hnil rfl; obtain rfl : n = 0 := by omega
            simp [sliced, Result.andThen]
  | some x => 
    have e : x.add 0 = x := by unfold Addr.add; split <;> simp_all
    simp [sliced, Result.andThen, e]

theorem slice_tail {W0 : World} {B k cap n : Nat} {l : List UInt8} {a : Option Addr} (hr : Row B W0 (.slice a k cap) l) (hk : k = l.length) (h1 : n ≤ k) :
    ∃ a' cap', (∀ W, (Instr.slice 26 (.slice a k cap) (some (.int .i64 (n : Int))) none none).run Try.prog W = .ok (.slice a' (k - n) cap') W) ∧ Lies W0 a' (l.drop n) := by
  obtain ⟨a1, k1, cap1, hv, _, hkc, hcm, hl, hnil, hat⟩ := hr.form
  simp only [Value.slice.injEq] at hv
  obtain ⟨rfl, rfl, rfl⟩ := hv
  unfold maxLen at hcm
  have el : Try.prog.elem 26 = 5 := by kernel_rfl
  refine ⟨if cap = n then a else a.map (·.add n), cap - n, fun W => ?_, ?_⟩
  · have := run_slice_l (P := Try.prog) W 26 a k cap (by kernel_rfl) .i64 (n : Int) (by omega) (by omega)
    rw [this, el, Try.sizeOf5]
    by_cases h : cap = n
    · simp [sliced, h, Result.andThen]
    · simp [sliced, h, Result.andThen]
  · by_cases h : cap = n
    · rw [if_pos h]; exact .inl (List.eq_nil_of_length_eq_zero (by rw [List.length_drop]; omega))
    · rw [if_neg h]
      rcases hl with rfl | ⟨x, rfl, hx⟩
      · exact .inl (by simp)
      · obtain ⟨g, rfl, _⟩ := hat x rfl
        refine .inr ⟨_, rfl, fun j u hj => ?_⟩
        have := hx (n + j) u (by simpa [bv, List.getElem?_drop] using hj)
        rw [Go.WideShapes.add_plain] at this
        show W0.cell? (((⟨g, 0, none⟩ : Addr).add n).add j) = some u
        rw [Go.WideShapes.add_plain, Go.WideShapes.add_plain, Nat.add_assoc]
        exact this

/-- What a crash behind a sync and an append leaves. -/
theorem left_is {la lb X : List UInt8} {n : Int} (h : X = (la ++ lb).take (stay (la ++ lb) la.length n)) : ∃ t, t ≤ lb.length ∧ X = la ++ lb.take t := by
  refine ⟨min n.toNat lb.length, by omega, ?_⟩
  rw [h, List.take_append]
  have e1 : stay (la ++ lb) la.length n - la.length = min n.toNat lb.length := by unfold stay; simp
  have e2 : la.take (stay (la ++ lb) la.length n) = la := List.take_of_length_le (by unfold stay; omega)
  rw [e1, e2]

set_option maxHeartbeats 8000000 in
set_option maxRecDepth 100000 in
theorem tapeKeeps_core (a0 : Option Addr) (la : List UInt8) (k0 c0 : Nat) (a1 : Option Addr) (lb : List UInt8) (k1 c1 : Nat) (n : Int) (w : World)
    (ha : Hid (k0 = la.length)) (hla : Lies w a0 la) (hna : a0 = none → k0 = 0 ∧ c0 = 0) (hb : Hid (k1 = lb.length)) (hlb : Lies w a1 lb) (hnb : a1 = none → k1 = 0 ∧ c1 = 0) (hkc1 : k1 ≤ c1) (hcm1 : c1 ≤ maxLen)
    (hn : -9223372036854775808 ≤ n ∧ n ≤ 9223372036854775807) (hk0 : k0 ≤ 2000) (hk1 : k1 ≤ 2000) :
    Calls Try.prog 5 #[.slice a0 k0 c0, .slice a1 k1 c1, .int .i64 n] w fun e w' => e = .returned (.bool true) ∧ Below w.heap.size w w' := by
  have HLA : Hid (Lies w a0 la) := hla
  have HLB : Hid (Lies w a1 lb) := hlb
  have HNA : Hid (a0 = none → k0 = 0 ∧ c0 = 0) := hna
  have HNB : Hid (a1 = none → k1 = 0 ∧ c1 = 0) := hnb
  have HN : Hid (_ ∧ _) := hn
  have HC1 : Hid (k1 ≤ c1 ∧ c1 ≤ maxLen) := ⟨hkc1, hcm1⟩
  clear hla hlb hna hnb hn hcm1 hkc1
  go_enter Try.func5, Try.ntmps5
  go_wp2_with fail
  refine (up_any w).mono ?_
  rintro e w1 ⟨rfl, hb1⟩
  have H1 : Hid (Calls _ _ _ _ _) := new_st w w1 hb1
  clear hb1
  go_wp2_with fail
  refine H1.out.mono ?_
  rintro e w2 ⟨tp, rfl, h2, _, _⟩
  have hL0 : Lies (w2.alloc (.cells #[] 5)) a0 la := HLA.out.below (h2.alloc _).2 (Nat.le_refl _)
  have hR0 : Row w2.heap.size (w2.alloc (.cells #[] 5)) (.slice (some ⟨w2.heap.size, 0, none⟩) 0 0) [] := Row.made _ _ (Nat.le_refl _)
  have hS0 : w2.heap.size ≤ (w2.alloc (.cells #[] 5)).heap.size := by simp
  have hlen0 : ([] : List UInt8).length + k0 ≤ 140737488355328 := by simp; omega
  have HP : Hid (∀ v4 w4, Row w2.heap.size w4 v4 ([] ++ la) → (w2.alloc (.cells #[] 5)).grownBy w4 (Value.slice (some ⟨w2.heap.size, 0, none⟩) 0 0).ownBlock →
      ∃ a4 cap4, v4 = .slice a4 k0 cap4 ∧ St w w4 tp [] 0 none ∧ Row w2.heap.size w4 (.slice a4 k0 cap4) la) := by
    intro v4 w4 hr hg
    rw [List.nil_append] at hr
    obtain ⟨a4, k4, cap4, rfl, hk4, _⟩ := hr.form
    have e : k4 = k0 := by rw [hk4.out, ha.out]
    subst e
    have hB : Below w2.heap.size w2 w4 := ((Below.refl _ _).alloc (Nat.le_refl _) _).grown hg (by simp) (fun k hk => by simp [Value.ownBlock] at hk; omega)
    exact ⟨a4, cap4, rfl, h2.later hB, hr⟩
  have HT2 : Hid (St w w2 tp [] 0 none) := h2
  clear h2 H1
  go_wp2_with (at_builtin; refine wpList_grow rfl (.tmp 35) (.tmp 36) rfl w2.heap.size (.slice (some ⟨w2.heap.size, 0, none⟩) 0 0) [] rfl hR0 hS0 la a0 k0 c0 rfl ha hL0 HNA.out hlen0 ?_; intro v4 w4 hr4 hg4 _; obtain ⟨a4, cap4, rfl, hs4, hr4'⟩ := HP.out v4 w4 hr4 hg4; clear hr4 hg4; go_wp2_with fail)
  have hA4 : Apart (.slice a4 k0 cap4) tp none := HT2.out.1.apart hr4' (Nat.le_refl _)
  have HW2 : Hid (w.heap.size ≤ w2.heap.size) := HT2.out.2.size
  have H4 : Hid (Calls Try.prog 13 #[.pointer (some ⟨tp, 0, none⟩), .slice a4 k0 cap4] w4 fun e w' => e = .returned .nilIface ∧ ∃ r', St w w' tp ([] ++ la) 0 r' ∧ Turns tp none r' w4 w') := by
    obtain ⟨a', k', cap', hv, hk', _, _, hl4, hnil4, _⟩ := hr4'.form
    simp only [Value.slice.injEq] at hv
    obtain ⟨rfl, rfl, rfl⟩ := hv
    exact append_st hs4 ha hl4 hnil4 (by have := ha.out; simp; omega)
  refine H4.out.mono ?_
  rintro e w5 ⟨rfl, r5, h5, ht5⟩
  obtain ⟨hr5, hA5⟩ := ht5.row_kept hr4' hA4
  rw [List.nil_append] at h5
  have HBs : Hid (Beside w w5 tp la 0 r5 w2.heap.size (.slice a4 k0 cap4) k0) := ⟨h5, la, ha, hr5⟩
  have HA5 : Hid (Apart (.slice a4 k0 cap4) tp r5) := hA5
  clear hA4 H4 h5 ht5 hr5 hA5 hs4 hr4' HT2 HP hL0 hR0 hS0 hlen0
  go_wp2
  go_loopw [11] (fun i wr => ∃ j : Nat, j ≤ k0 ∧ i = .int .i64 j ∧ Beside w wr tp la 0 r5 w2.heap.size (.slice a4 k0 cap4) k0) (fun i _ => k0 - (intOf i).toNat)
  case atStart => exact ⟨0, Nat.zero_le _, rfl, HBs.out⟩
  case round =>
    obtain ⟨j, hj, rfl, hbr⟩ := hrel
    by_cases hlt : j < k0
    · obtain ⟨g, d, hag, hd, hcell, hfr, hset⟩ := hbr.at_ HA5.out HW2.out j hlt
      subst hag
      obtain ⟨c, hc⟩ : ∃ c : Nat, c = (d + 1) % 256 := ⟨_, rfl⟩
      have hc256 : c < 256 := by omega
      have hwr : IntKind.u8.wrap ((d : Int) + 1) = (c : Int) := by rw [IntKind.wrap_u8, hc]; omega
      clear hc hbr HBs
      go_wp2
      go_roundw
      case rel => exact ⟨j + 1, by omega, by go_num, hset.out c hc256⟩
      case measure => simp [intOf]; omega
    · have h6 : St w wr tp la 0 r5 := hbr.1
      have H6 : Hid (Calls _ _ _ _ _) := sync_st h6
      clear hbr h6 HBs
      go_wp2_with fail
      refine H6.out.mono ?_
      rintro e w7 ⟨rfl, h7, _⟩
      have H7 : Hid (Calls _ _ _ _ _) := append_st h7 hb (HLB.out.below h7.2 (Nat.le_refl _)) HNB.out (by have h1 := ha.out; have h2 := hb.out; omega)
      clear h7 H6
      go_wp2_with fail
      refine H7.out.mono ?_
      rintro e w8 ⟨rfl, r8, h8, _⟩
      have H8 : Hid (Calls _ _ _ _ _) := crash_left HN.out h8
      clear h8 H7
      go_wp2_with fail
      refine H8.out.mono ?_
      rintro e w9 ⟨rfl, X, hX, h9, _⟩
      obtain ⟨t, ht, hXt⟩ := left_is hX.out
      have HX : Hid (X = la ++ lb.take t) := hXt
      have ht1 : t ≤ k1 := by rw [hb.out]; exact ht
      have H9 : Hid (Calls _ _ _ _ _) := bytes_st h9
      have HS9 : Hid (St w w9 tp X X.length r8) := h9
      clear h9 H8 hX hXt ht
      go_wp2_with fail
      refine H9.out.mono ?_
      rintro e w10 ⟨a10, k10, cap10, rfl, hk10, hr10, hb10, h10, hc10⟩
      have hkt : Hid (k10 = k0 + t) := by show _ = _; rw [hk10.out, HX.out, List.length_append, List.length_take, ← ha.out, ← hb.out]; omega
      obtain ⟨A, hA⟩ : ∃ A : ByteArray, A = ⟨la.toArray⟩ := ⟨_, rfl⟩
      obtain ⟨T, hT⟩ : ∃ T : ByteArray, T = ⟨(lb.take t).toArray⟩ := ⟨_, rfl⟩
      obtain ⟨O, hO⟩ : ∃ O : ByteArray, O = ⟨X.toArray⟩ := ⟨_, rfl⟩
      have HO : Hid (O = ⟨X.toArray⟩) := hO
      have hle : k10 ≤ cap10 ∧ cap10 ≤ maxLen ∧ Lies w10 a10 X ∧ (a10 = none → k10 = 0 ∧ cap10 = 0) := by
        obtain ⟨a', k', cap', hv, _, h1, h2, h3, h4, _⟩ := hr10.form
        simp only [Value.slice.injEq] at hv
        obtain ⟨rfl, rfl, rfl⟩ := hv
        exact ⟨h1, h2, h3, h4⟩
      obtain ⟨g1, g2, g3, g4⟩ := hle
      have s1 : ∀ W, (Instr.slice 26 (.slice a10 k10 cap10) none (some (.int .i64 (k0 : Int))) none).run Try.prog W = .ok (.slice a10 k0 cap10) W := fun W => slice_head (by have := hkt.out; omega) g1 g2 g4 _ rfl
      have hd : ∀ q, Below w10.heap.size w10 (w10.drewN q) := below_drewN (Below.refl _ _)
      have e1 : ∀ q, (convert 26 9 (.slice a10 k0 cap10)).run Try.prog (w10.drewN q) = .ok (.string A) (w10.drewN q) := fun q => conv_named (l := la) (by have := (g3.below (hd q) (Nat.le_refl _)).take k0; rw [HX.out, ha.out, List.take_left] at this; exact this) ha.out hA
      have e2 : ∀ q, (convert 26 9 (.slice a0 k0 c0)).run Try.prog (w10.drewN q) = .ok (.string A) (w10.drewN q) := fun q => conv_named (HLA.out.below (h10.later (hd q)).2 (Nat.le_refl _)) ha.out hA
      obtain ⟨a11, cap11, s2, hl11⟩ := slice_tail (n := k0) hr10 hk10.out (by have := hkt.out; omega)
      have hkk : k10 - k0 = t := by have := hkt.out; omega
      rw [hkk] at s2
      have hdrop : X.drop k0 = lb.take t := by rw [HX.out, ha.out, List.drop_left]
      rw [hdrop] at hl11
      have htl : t = (lb.take t).length := by rw [List.length_take, ← hb.out]; omega
      have e3 : ∀ q, (convert 26 9 (.slice a11 t cap11)).run Try.prog (w10.drewN q) = .ok (.string T) (w10.drewN q) := fun q => conv_named (hl11.below (hd q) (Nat.le_refl _)) htl hT
      have s3 : ∀ W, (Instr.slice 26 (.slice a1 k1 c1) none (some (.int .i64 ((k10 : Int) - (k0 : Int)))) none).run Try.prog W = .ok (.slice a1 t c1) W := fun W => slice_head ht1 HC1.out.1 HC1.out.2 HNB.out _ (by have := hkt.out; omega)
      have e4 : ∀ q, (convert 26 9 (.slice a1 t c1)).run Try.prog (w10.drewN q) = .ok (.string T) (w10.drewN q) := fun q => conv_named ((HLB.out.below (h10.later (hd q)).2 (Nat.le_refl _)).take t) htl hT
      have d1 : decide (k10 < k0) = false := decide_eq_false (by have := hkt.out; omega)
      have d2 : decide ((k0 : Int) + (k1 : Int) < (k10 : Int)) = false := decide_eq_false (by have := hkt.out; omega)
      have wr1 : IntKind.i64.wrap ((k0 : Int) + (k1 : Int)) = (k0 : Int) + (k1 : Int) := by rw [IntKind.wrap_i64]; omega
      have wr2 : IntKind.i64.wrap ((k10 : Int) - (k0 : Int)) = (k10 : Int) - (k0 : Int) := by have := hkt.out; rw [IntKind.wrap_i64]; omega
      have HC : Hid (∀ W, Below w10.heap.size w10 W → (convert 26 9 (.slice a10 k10 cap10)).run Try.prog W = .ok (.string O) W) := fun W hW => conv_named (g3.below hW (Nat.le_refl _)) hk10.out hO
      have HA10 : Hid (Apart (.slice a10 k10 cap10) tp r8) := HS9.out.1.apart hr10 (Nat.le_refl _)
      have HB10 : Hid (∀ W, Below w10.heap.size w10 W → Beside w W tp X X.length r8 w9.heap.size (.slice a10 k10 cap10) k10) := fun W hW => ⟨h10.later hW, X, hk10, hr10.below hW (Nat.le_refl _)⟩
      have HW9 : Hid (w.heap.size ≤ w9.heap.size) := HS9.out.2.size
      have hkm : k10 ≤ 4000 := by have := hkt.out; omega
      clear H9 HS9 hr10 hb10 h10 hc10 hk10 hl11 g1 g2 g3 g4 hA hT hO hdrop htl hkk ht1 hd
      go_wp2
      go_quiet (fail)
      have hdq : Below w10.heap.size w10 (w10.drewN nq) := below_drewN (Below.refl _ _) nq
      have cO := HC.out _ hdq
      have HB11 : Hid (Beside w (w10.drewN nq) tp X X.length r8 w9.heap.size (.slice a10 k10 cap10) k10) := HB10.out _ hdq
      clear hdq HC HB10 e1 e2 e3 e4 s1 s2 s3 d1 d2 wr1 wr2
      generalize w10.drewN nq = w11 at cO HB11 ⊢
      go_wp2
      go_loopw [15] (fun i wr => ∃ j : Nat, j ≤ k10 ∧ i = .int .i64 j ∧ Beside w wr tp X X.length r8 w9.heap.size (.slice a10 k10 cap10) k10) (fun i _ => k10 - (intOf i).toNat)
      case atStart => exact ⟨0, Nat.zero_le _, rfl, HB11.out⟩
      case round =>
        obtain ⟨j2, hj2, rfl, hbr2⟩ := hrel
        by_cases hlt2 : j2 < k10
        · obtain ⟨g, d, hag, hd, hcell, hfr, hset⟩ := hbr2.at_ HA10.out HW9.out j2 hlt2
          subst hag
          obtain ⟨c, hc⟩ : ∃ c : Nat, c = (d + 1) % 256 := ⟨_, rfl⟩
          have hc256 : c < 256 := by omega
          have hwr : IntKind.u8.wrap ((d : Int) + 1) = (c : Int) := by rw [IntKind.wrap_u8, hc]; omega
          clear hc hbr2 HB11 cO
          go_wp2
          go_roundw
          case rel => exact ⟨j2 + 1, by omega, by go_num, hset.out c hc256⟩
          case measure => simp [intOf]; omega
        · have h12 : St w wr tp X X.length r8 := hbr2.1
          have H12 : Hid (Calls _ _ _ _ _) := bytes_st h12
          clear h12 hbr2 HB11 cO
          go_wp2_with fail
          refine H12.out.mono ?_
          rintro e w13 ⟨a13, k13, cap13, rfl, _, _, _, h13, hc13⟩
          have H13 : Hid (Calls Try.prog 15 #[.pointer (some ⟨tp, 0, none⟩)] w13 fun e w' => e = .returned (.int .i64 (O.size : Int)) ∧ w' = w13) := by show Calls _ _ _ _ _; rw [HO.out]; exact synced_st h13
          have hE : Hid (Below w.heap.size w w13) := h13.2
          rw [← HO.out] at hc13
          clear h13 H12
          go_wp2_with fail
          refine H13.out.mono ?_
          rintro e w14 ⟨rfl, rfl⟩
          go_wp2
          go_ret
          exact ⟨rfl, hE.out⟩

set_option maxHeartbeats 400000 in
theorem tapeKeeps_far (a0 : Option Addr) (k0 c0 : Nat) (a1 : Option Addr) (k1 c1 : Nat) (n : Int) (w : World) (h : 2000 < k0 ∨ 2000 < k1) :
    Calls Try.prog 5 #[.slice a0 k0 c0, .slice a1 k1 c1, .int .i64 n] w fun e w' => e = .returned (.bool true) ∧ Below w.heap.size w w' := by
  have h' : (2000 < k0) ∨ (k0 ≤ 2000 ∧ 2000 < k1) := by omega
  clear h
  rcases h' with h | ⟨h1, h2⟩
  all_goals
    go_enter Try.func5, Try.ntmps5
    go_wp2_with fail
    refine (up_any w).mono ?_
    rintro e w1 ⟨rfl, hb1⟩
    have H1 : Hid (Calls _ _ _ _ _) := new_st w w1 hb1
    clear hb1
    go_wp2_with fail
    refine H1.out.mono ?_
    rintro e w2 ⟨tp, rfl, h2, _, _⟩
    have hE : Hid (Below w.heap.size w w2) := h2.2
    clear h2 H1
    go_wp2
    go_ret
    exact ⟨rfl, hE.out⟩

theorem tapeKeeps_walk (a0 : Option Addr) (la : List UInt8) (k0 c0 : Nat) (a1 : Option Addr) (lb : List UInt8) (k1 c1 : Nat) (n : Int) (w : World)
    (ha : Hid (k0 = la.length)) (hla : Lies w a0 la) (_ : k0 ≤ c0) (_ : c0 ≤ maxLen) (hna : a0 = none → k0 = 0 ∧ c0 = 0) (hb : Hid (k1 = lb.length)) (hlb : Lies w a1 lb) (h3 : k1 ≤ c1) (h4 : c1 ≤ maxLen) (hnb : a1 = none → k1 = 0 ∧ c1 = 0)
    (hn1 : -9223372036854775808 ≤ n) (hn2 : n ≤ 9223372036854775807) :
    Calls Try.prog 5 #[.slice a0 k0 c0, .slice a1 k1 c1, .int .i64 n] w fun e w' => e = .returned (.bool true) ∧ Below w.heap.size w w' := by
  by_cases h : 2000 < k0 ∨ 2000 < k1
  · exact tapeKeeps_far a0 k0 c0 a1 k1 c1 n w h
  · exact tapeKeeps_core a0 la k0 c0 a1 lb k1 c1 n w ha hla hna hb hlb hnb h3 h4 ⟨hn1, hn2⟩ (by omega) (by omega)
end Go.Proofs.Ytjoidfigdgpedaa
