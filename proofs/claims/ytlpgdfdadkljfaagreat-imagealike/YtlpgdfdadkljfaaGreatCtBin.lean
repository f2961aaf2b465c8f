/-
  Where an entry is put: the library's BinarySearchFunc over rows of entries.
-/
import Derived.Test.YtlpgdfdadkljfaaGreatMgF
import Derived.Test.YtlpgdfdadkljfaaGreatShelf2
namespace Go.Proofs.YtlpgdfdadkljfaaGreat.Cat
open Go.RowKit Route Tree

theorem compare_less : ∀ (x y : List UInt8), decide (Lib.compareBytes x y < 0) = Op.bytesLess x y
  | [], [] => by simp [Op.bytesLess, Lib.compareBytes]
  | [], _ :: _ => by simp [Op.bytesLess, Lib.compareBytes]
  | _ :: _, [] => by simp [Op.bytesLess, Lib.compareBytes]
  | a :: x, b :: y => by
    have ih := compare_less x y
    rw [Op.bytesLess, Lib.compareBytes]
    by_cases h1 : a < b
    · simp [h1]
    · by_cases h2 : b < a
      · have h3 : a ≠ b := fun e => by subst e; exact h1 h2
        simp [h1, h2, h3]
      · have h3 : a = b := UInt8.le_antisymm (UInt8.not_lt.1 h2) (UInt8.not_lt.1 h1)
        subst h3
        simp only [h1, if_false]
        rw [ih]
        simp

/-- What the comparison tells. -/
def cmpI (p q : ByteArray) : Int := Lib.compareBytes p.data.toList q.data.toList
theorem cmpI_lt (p q : ByteArray) : decide (cmpI p q < 0) = lt p q := by rw [cmpI, compare_less, lt, ByteArray.toList_eq, ByteArray.toList_eq]

set_option maxHeartbeats 1000000 in
theorem cmp_any (p q : ByteArray) (sz : Int) (ka : Option Addr) (kn kc : Nat) (w : World) :
    Calls Tryz.prog 43 #[.agg #[.string p, .int .i64 sz, .slice ka kn kc], .string q] w fun e w' => e = .returned (.int .i64 (cmpI p q)) ∧ Below w.heap.size w w' := by
  have hc := fun W => Tryz.strings_Compare p q W
  have hcf : cmpI p q = Lib.compareBytes p.data.toList q.data.toList := rfl
  rw [← hcf] at hc
  generalize cmpI p q = r at hc
  clear hcf
  go_enter Tryz.func43, Tryz.ntmps43
  go_wp2_with (go_at_call 44; refine (hc _).mono ?_; rintro e w' ⟨rfl, rfl⟩)
  go_ret
  exact ⟨rfl, (Below.refl _ _).alloc (Nat.le_refl _) _⟩

theorem spot_is {E : List Ent} {p : ByteArray} {k : Nat} (hk : k ≤ E.length) (h1 : ∀ t, t < k → lt (entOf E t).1 p = true) (h2 : k < E.length → lt (entOf E k).1 p = false) : spot E p = k := by
  unfold spot
  have : ∀ (E : List Ent) (k : Nat), k ≤ E.length → (∀ t, t < k → lt (entOf E t).1 p = true) → (k < E.length → lt (entOf E k).1 p = false) → (E.takeWhile fun e => lt e.1 p).length = k := by
    intro E
    induction E with
    | nil => intro k hk _ _; simp at hk; simp [hk]
    | cons a E ih =>
      intro k hk h1 h2
      cases k with
      | zero =>
        have := h2 (by simp)
        simp [entOf] at this
        simp [this]
      | succ k =>
        have h0 := h1 0 (by omega)
        simp [entOf] at h0
        rw [List.takeWhile_cons, if_pos h0, List.length_cons, ih k (by simpa using hk) (fun t ht => by have := h1 (t + 1) (by omega); simpa [entOf] using this) (fun hk => by have := h2 (by simpa using hk); simpa [entOf] using this)]
  exact this E k hk h1 h2

set_option maxHeartbeats 8000000 in
set_option maxRecDepth 100000 in
theorem search_any (ea : Option Addr) (en ec : Nat) (E : List Ent) (p : ByteArray) (w : World) (hen : en = E.length) (hl : LiesE w ea E) (hm : en ≤ 1000000) (hs : E.Pairwise fun x y => lt x.1 y.1 = true) :
    Calls Tryz.prog 42 #[.slice ea en ec, .string p, .func (.func 43) #[] #[]] w fun e w' => ∃ b, e = .returned (.tuple #[.int .i64 (spot E p : Nat), .bool b]) ∧ Below w.heap.size w w' := by
  have HN : Hid (en = E.length) := hen
  have HL : Hid (LiesE w ea E) := hl
  have HM : Hid (∀ a b, a ≤ b → b < en → lt (entOf E b).1 p = true → lt (entOf E a).1 p = true) := fun a b hab hb h => by
    rcases Nat.lt_or_ge a b with h1 | h1
    · have ha : a < E.length := by omega
      have hb' : b < E.length := by omega
      rw [ent_get ha]
      rw [ent_get hb'] at h
      exact lt_trans (List.pairwise_iff_getElem.1 hs a b ha hb' h1) h
    · obtain rfl : a = b := by omega
      exact h
  have HP : Hid (∀ (q : ByteArray) (sz : Int) (ka : Option Addr) (kn kc : Nat) W, Calls Tryz.prog 43 #[.agg #[.string q, .int .i64 sz, .slice ka kn kc], .string p] W fun e w' => e = .returned (.int .i64 (cmpI q p)) ∧ Below W.heap.size W w') := fun q sz ka kn kc W => cmp_any q p sz ka kn kc W
  clear hen hl hs
  go_enter Tryz.func42, Tryz.ntmps42
  go_wp2
  go_loopw [9, 10] (fun t9 t10 wr => ∃ lo hi : Nat, t9 = .int .i64 (lo : Int) ∧ t10 = .int .i64 (hi : Int) ∧ lo ≤ hi ∧ hi ≤ en ∧ Hid (Below w.heap.size w wr) ∧ Hid ((∀ t, t < lo → lt (entOf E t).1 p = true) ∧ ∀ t, hi ≤ t → t < en → lt (entOf E t).1 p = false)) (fun t9 t10 _ => (intOf t10).toNat - (intOf t9).toNat)
  case atStart => exact ⟨0, en, rfl, rfl, Nat.zero_le _, Nat.le_refl _, Below.refl _ _, (⟨fun t ht => by omega, fun t h1 h2 => by omega⟩ : (∀ t, t < 0 → lt (entOf E t).1 p = true) ∧ ∀ t, en ≤ t → t < en → lt (entOf E t).1 p = false)⟩
  case round =>
    obtain ⟨lo, hi, rfl, rfl, hlh, hin, HB, HI⟩ := hrel
    by_cases hlt : lo < hi
    · have hmid : (lo + hi) / 2 < en := by omega
      obtain ⟨x, hx, g0, g1, ka, kc, g2, _⟩ := (HL.out.below HB.out (Nat.le_refl _)).at (j := (lo + hi) / 2) (by rw [← HN.out]; exact hmid)
      subst hx
      generalize hy : entOf E ((lo + hi) / 2) = y at g0 g1 g2
      have HY : Hid (entOf E ((lo + hi) / 2) = y) := hy
      obtain ⟨q, sz, ks⟩ := y
      simp only at g0 g1 g2
      generalize ks.length = kn at g2
      have hcl := HP.out q sz ka kn kc wr
      have hc := cmpI_lt q p
      generalize cmpI q p = r at hcl hc
      have HC : Hid (decide (r < 0) = lt q p) := hc
      clear hy hc
      by_cases hr : r < 0
      · go_wp2_with fail
        refine hcl.mono ?_
        rintro e w2 ⟨rfl, hb2⟩
        have HB2 : Hid (Below w.heap.size w w2) := HB.out.trans (hb2.mono HB.out.size)
        have HI2 : Hid ((∀ t, t < (lo + hi) / 2 + 1 → lt (entOf E t).1 p = true) ∧ ∀ t, hi ≤ t → t < en → lt (entOf E t).1 p = false) := ⟨fun t ht => HM.out t ((lo + hi) / 2) (by omega) hmid (by rw [HY.out]; show lt q p = true; rw [← HC.out]; simpa using hr), HI.out.2⟩
        clear hb2 hcl g0 g1 g2
        go_wp2
        go_roundw
        case rel => exact ⟨(lo + hi) / 2 + 1, hi, by rw [show ((lo : Int) + (hi : Int)) / 2 + 1 = (((lo + hi) / 2 + 1 : Nat) : Int) by omega], rfl, by omega, hin, HB2, HI2⟩
        case measure => simp [intOf]; omega
      · go_wp2_with fail
        refine hcl.mono ?_
        rintro e w2 ⟨rfl, hb2⟩
        have HB2 : Hid (Below w.heap.size w w2) := HB.out.trans (hb2.mono HB.out.size)
        have HI2 : Hid ((∀ t, t < lo → lt (entOf E t).1 p = true) ∧ ∀ t, (lo + hi) / 2 ≤ t → t < en → lt (entOf E t).1 p = false) := ⟨HI.out.1, fun t h1 h2 => by
          cases h : lt (entOf E t).1 p with
          | false => rfl
          | true =>
            have := HM.out ((lo + hi) / 2) t h1 h2 h
            rw [HY.out] at this
            have h3 := HC.out
            rw [show lt q p = true from this] at h3
            exfalso
            have h4 : r < 0 := by simpa using h3
            omega⟩
        clear hb2 hcl g0 g1 g2
        go_wp2
        go_roundw
        case rel => exact ⟨lo, (lo + hi) / 2, rfl, by rw [show ((lo : Int) + (hi : Int)) / 2 = (((lo + hi) / 2 : Nat) : Int) by omega], by omega, by omega, HB2, HI2⟩
        case measure => simp [intOf]; omega
    · obtain rfl : hi = lo := by omega
      have HH : Hid (spot E p = hi) := spot_is (by rw [← HN.out]; exact hin) HI.out.1 fun h => HI.out.2 hi (Nat.le_refl _) (by rw [HN.out]; exact h)
      by_cases hn : hi < en
      · obtain ⟨x, hx, g0, g1, ka, kc, g2, _⟩ := (HL.out.below HB.out (Nat.le_refl _)).at (j := hi) (by rw [← HN.out]; exact hn)
        subst hx
        generalize entOf E hi = y at g0 g1 g2
        obtain ⟨q, sz, ks⟩ := y
        simp only at g0 g1 g2
        generalize ks.length = kn at g2
        have hix := index_ent x en ec hi hn
        generalize x.add (hi * 3) = ad at g0 g1 g2 hix
        have hcl := HP.out q sz ka kn kc wr
        generalize cmpI q p = r at hcl
        by_cases hr : r = 0
        · subst hr
          go_wp2_with fail
          refine hcl.mono ?_
          rintro e w2 ⟨rfl, hb2⟩
          have HB2 : Hid (Below w.heap.size w w2) := HB.out.trans (hb2.mono HB.out.size)
          clear hb2 hcl hix g0 g1 g2
          go_wp2
          go_ret2
          exact ⟨true, by first | (rw [HH.out]; done) | (rw [HH.out]; rfl), HB2.out⟩
        · have hd : (r == 0) = false := by simp [hr]
          clear hr
          go_wp2_with fail
          refine hcl.mono ?_
          rintro e w2 ⟨rfl, hb2⟩
          have HB2 : Hid (Below w.heap.size w w2) := HB.out.trans (hb2.mono HB.out.size)
          clear hb2 hcl hix g0 g1 g2
          go_wp2
          go_ret2
          exact ⟨false, by first | (rw [HH.out]; done) | (rw [HH.out]; rfl), HB2.out⟩
      · go_wp2
        go_ret2
        exact ⟨false, by first | (rw [HH.out]; done) | (rw [HH.out]; rfl), HB.out⟩
end Go.Proofs.YtlpgdfdadkljfaaGreat.Cat
