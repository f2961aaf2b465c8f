/-
  What the laws of order are walked by: the answer's Short and Same, and the law's own up.
-/
import Derived.Test.YtanlanolblbckaaOrGet
import Derived.Test.YtanlanolblbckaaOrRef2
namespace Go.Proofs.Ytanlanolblbckaa.Order
open Go.RowKit Route

/-- What is known of an operation that is short. -/
def ShortR (r : Rq) : Prop := r.nm.size ≤ 2000 ∧ r.pt.size ≤ 2000 ∧ r.ks.length ≤ 100

/-- A request that came in. -/
structure ReqAt (w : World) (a : Option Addr) (kn cap : Nat) (r : Rq) : Prop where
  len : kn = r.ks.length
  lies : Route.Lies w a r.ks
  nm : r.nm.size ≤ maxLen
  pt : r.pt.size ≤ maxLen
  kc : kn ≤ cap
  cm : cap ≤ maxLen
  sz : ∀ s ∈ r.ks, s.size ≤ maxLen
  nil : a = none → cap = 0

theorem ReqAt.keys {w : World} {a : Option Addr} {kn cap : Nat} {r : Rq} (h : ReqAt w a kn cap r) (hs : ShortR r) : KeysAt w a kn cap r.ks :=
  ⟨h.len, h.lies, by rw [h.len]; have := hs.2.2; omega, h.kc⟩
theorem ReqAt.below {w w' : World} {a : Option Addr} {kn cap : Nat} {r : Rq} (h : ReqAt w a kn cap r) (hb : Below w.heap.size w w') : ReqAt w' a kn cap r :=
  ⟨h.len, h.lies.below hb (Nat.le_refl _), h.nm, h.pt, h.kc, h.cm, h.sz, h.nil⟩

/-- What Short tells. -/
def ShPost (r : Rq) (w : World) (e : Ending) (w' : World) : Prop := ∃ b, e = .returned (.bool b) ∧ Hid ((b = true → ShortR r) ∧ Below w.heap.size w w')

set_option maxHeartbeats 2000000 in
set_option maxRecDepth 100000 in
theorem short_any (r : Rq) (a : Option Addr) (kn cap : Nat) (w : World) (h : ReqAt w a kn cap r) :
    Calls Try.prog 9 #[.agg #[.int .i64 r.k, .string r.nm, .string r.pt, .slice a kn cap, .int .i64 r.n]] w (ShPost r w) := by
  have HW : Hid (Below w.heap.size w (w.alloc (.cells #[.int .i64 r.k, .string r.nm, .string r.pt, .slice a kn cap, .int .i64 r.n] 24))) := (Below.refl _ _).alloc (Nat.le_refl _) _
  obtain ⟨c, t, k, m, nm, pt, ks⟩ := r
  obtain ⟨x, hx⟩ : ∃ x, x = nm.size := ⟨_, rfl⟩
  obtain ⟨y, hy⟩ : ∃ y, y = pt.size := ⟨_, rfl⟩
  have l1 := len_text nm x hx
  have l2 := len_text pt y hy
  have hxm : x ≤ 9223372036854775807 := by rw [hx]; exact h.nm
  have hym : y ≤ 9223372036854775807 := by rw [hy]; exact h.pt
  have hkm : kn ≤ 9223372036854775807 := Nat.le_trans h.kc h.cm
  have HK : Hid (kn = ks.length) := h.len
  have HL : Hid (Route.Lies w a ks) := h.lies
  have HZ : Hid (∀ s ∈ ks, s.size ≤ maxLen) := h.sz
  have HX : Hid (x = nm.size) := hx
  have HY : Hid (y = pt.size) := hy
  clear h hx hy
  by_cases h1 : 2000 < x
  · go_enter Try.func9, Try.ntmps9
    go_wp2
    go_ret
    exact ⟨_, rfl, fun e => (by cases e), HW.out⟩
  · by_cases h2 : 2000 < y
    · go_enter Try.func9, Try.ntmps9
      go_wp2
      go_ret
      exact ⟨_, rfl, fun e => (by cases e), HW.out⟩
    · by_cases h3 : 100 < kn
      · go_enter Try.func9, Try.ntmps9
        go_wp2
        go_ret
        exact ⟨_, rfl, fun e => (by cases e), HW.out⟩
      · have HS : Hid (ShortR ⟨c, t, k, m, nm, pt, ks⟩) := ⟨by show nm.size ≤ _; rw [← HX.out]; omega, by show pt.size ≤ _; rw [← HY.out]; omega, by show ks.length ≤ _; rw [← HK.out]; omega⟩
        clear HX HY
        go_enter Try.func9, Try.ntmps9
        go_wp2
        go_loop [2, 3] (fun t2 t3 => t2 = .bool false ∧ ∃ j : Nat, t3 = .int .i64 j ∧ j ≤ kn) (fun _ t3 => kn - (intOf t3).toNat)
        case atStart => exact ⟨rfl, 0, rfl, by omega⟩
        case round =>
          obtain ⟨rfl, j, rfl, hj⟩ := hrel
          by_cases hjk : j < kn
          · have hjl : j < ks.length := by rw [← HK.out]; exact hjk
            obtain ⟨b, off, rfl, hc⟩ := HL.out.at (by omega)
            have hcell := cell_later HW.out (hc j hjl)
            obtain ⟨s, hs⟩ : ∃ s, s = ks.getD j ByteArray.empty := ⟨_, rfl⟩
            rw [← hs] at hcell
            have hsm : s.size ≤ maxLen := HZ.out s (by rw [hs]; simp [List.getD_eq_getElem?_getD, List.getElem?_eq_getElem hjl])
            obtain ⟨z, hz⟩ : ∃ z, z = s.size := ⟨_, rfl⟩
            have hlen := len_text s z hz
            have hzm : z ≤ 9223372036854775807 := by rw [hz]; exact hsm
            clear hs hjl hc hz hsm
            by_cases hz2 : 2000 < z
            · go_wp2
              go_ret
              exact ⟨_, rfl, fun e => (by cases e), HW.out⟩
            · go_wp2
              go_round
              case rel => exact ⟨rfl, j + 1, by go_num, by omega⟩
              case measure => simp [intOf]; omega
          · go_wp2
            go_ret
            exact ⟨_, rfl, fun _ => HS.out, HW.out⟩

/-- Are two requests the same? -/
def sameR (r s : Rq) : Bool := decide (r.c = s.c) && decide (r.t = s.t) && decide (r.k = s.k) && decide (r.nm = s.nm) && decide (r.pt = s.pt) && decide (r.n = s.n) && decide (r.ks = s.ks)
theorem sameR_iff {r s : Rq} : sameR r s = true ↔ r = s := by
  obtain ⟨c, t, k, m, nm, pt, ks⟩ := r
  obtain ⟨c', t', k', m', nm', pt', ks'⟩ := s
  simp only [sameR, Bool.and_eq_true, decide_eq_true_eq, Rq.mk.injEq]
  constructor
  · rintro ⟨⟨⟨⟨⟨⟨h1, h2⟩, h3⟩, h4⟩, h5⟩, h6⟩, h7⟩; exact ⟨h1, h2, h3, h6, h4, h5, h7⟩
  · rintro ⟨h1, h2, h3, h6, h4, h5, h7⟩; exact ⟨⟨⟨⟨⟨⟨h1, h2⟩, h3⟩, h4⟩, h5⟩, h6⟩, h7⟩

set_option maxHeartbeats 4000000 in
set_option maxRecDepth 100000 in
theorem same_any (r s : Rq) (a a' : Option Addr) (kn cap kn' cap' : Nat) (w : World) (h : KeysAt w a kn cap r.ks) (h' : KeysAt w a' kn' cap' s.ks) :
    Calls Try.prog 16 #[.agg (rv r a kn cap), .agg (rv s a' kn' cap')] w fun e w' => e = .returned (.bool (sameR r s)) ∧ Below w.heap.size w w' := by
  obtain ⟨b, hb⟩ : ∃ b, b = sameR r s := ⟨_, rfl⟩
  have HB : Hid (b = sameR r s) := hb
  rw [← hb]
  clear hb
  have HW : Hid (Below w.heap.size w ((w.alloc (.cells (rv r a kn cap) 26)).alloc (.cells (rv s a' kn' cap') 26))) := by
    have h1 : Below w.heap.size w (w.alloc (.cells (rv r a kn cap) 26)) := (Below.refl _ _).alloc (Nat.le_refl _) _
    exact h1.alloc h1.size _
  have HC : Hid (∀ W, Below w.heap.size w W → Calls Try.prog 26 #[.slice a kn cap, .slice a' kn' cap'] W fun e w' => e = .returned (.bool (decide (r.ks = s.ks))) ∧ Below W.heap.size W w') := fun W hW =>
    sameL_any a r.ks kn cap a' s.ks kn' cap' W h.len (h.lies.below hW (Nat.le_refl _)) h'.len (h'.lies.below hW (Nat.le_refl _)) h.most h'.most
  clear h h'
  obtain ⟨c, t, k, m, nm, pt, ks⟩ := r
  obtain ⟨c', t', k', m', nm', pt', ks'⟩ := s
  simp only [sameR, rv] at HB HW HC ⊢
  have close : Hid (∀ x : Bool, x = false → b = x → b = false) := fun x h1 h2 => h2.trans h1
  by_cases e1 : c = c'
  · subst e1
    by_cases e2 : t = t'
    · subst e2
      by_cases e3 : k = k'
      · subst e3
        by_cases e4 : nm = nm'
        · subst e4
          by_cases e5 : pt = pt'
          · subst e5
            by_cases e6 : m = m'
            · subst e6
              generalize hd : decide (ks = ks') = d at *
              have hr : b = d := by rw [HB.out]; simp
              subst hr
              clear HB hd close
              go_enter Try.func16, Try.ntmps16
              go_wp2_with fail
              refine (HC.out _ HW.out).mono ?_
              rintro e w1 ⟨rfl, hb1⟩
              go_wp2
              go_ret
              exact ⟨rfl, HW.out.trans (hb1.mono HW.out.size)⟩
            · have hr : b = false := by rw [HB.out, decide_eq_false e6]; simp
              subst hr
              have d6 : (m == m') = false := by simpa using e6
              clear HB close
              go_enter Try.func16, Try.ntmps16
              go_wp2
              go_ret
              exact ⟨rfl, HW.out⟩
          · have hr : b = false := by rw [HB.out, decide_eq_false e5]; simp
            subst hr
            have d5 : (pt.toList == pt'.toList) = false := by rw [str_eq]; exact decide_eq_false e5
            clear HB close
            go_enter Try.func16, Try.ntmps16
            go_wp2
            go_ret
            exact ⟨rfl, HW.out⟩
        · have hr : b = false := by rw [HB.out, decide_eq_false e4]; simp
          subst hr
          have d4 : (nm.toList == nm'.toList) = false := by rw [str_eq]; exact decide_eq_false e4
          clear HB close
          go_enter Try.func16, Try.ntmps16
          go_wp2
          go_ret
          exact ⟨rfl, HW.out⟩
      · have hr : b = false := by rw [HB.out, decide_eq_false e3]; simp
        subst hr
        have d3 : (k == k') = false := by simpa using e3
        clear HB close
        go_enter Try.func16, Try.ntmps16
        go_wp2
        go_ret
        exact ⟨rfl, HW.out⟩
    · have hr : b = false := by rw [HB.out, decide_eq_false e2]; simp
      subst hr
      have d2 : (t == t') = false := by simpa using e2
      clear HB close
      go_enter Try.func16, Try.ntmps16
      go_wp2
      go_ret
      exact ⟨rfl, HW.out⟩
  · have hr : b = false := by rw [HB.out, decide_eq_false e1]; simp
    subst hr
    have d1 : (c == c') = false := by simpa using e1
    clear HB close
    go_enter Try.func16, Try.ntmps16
    go_wp2
    go_ret
    exact ⟨rfl, HW.out⟩

theorem up_may : may ⟨1, 2, 5, 0, ByteArray.empty, ByteArray.empty, []⟩ = true := by decide +kernel
theorem up_enc : enc ⟨1, 2, 5, 0, ByteArray.empty, ByteArray.empty, []⟩ = [1, 2, 5, 0, 0, 0, 0] := by decide +kernel
theorem none_not : ¬ IsReq [] := by
  rintro ⟨r, _, h⟩
  have h1 := congrArg List.length h
  have h2 := digs_pos r.c.toNat
  simp only [enc, List.length_append, List.length_nil] at h1
  omega

set_option maxHeartbeats 2000000 in
set_option maxRecDepth 100000 in
theorem up_any (w : World) : Calls Try.prog 8 #[] w fun e w' => e = .returned (.bool true) ∧ Below w.heap.size w w' := by
  have q1 := eqNil
  have q2 := eqForm
  have HP : Hid (Calls Try.prog 11 #[.agg #[.int .i64 1, .int .i64 2, .int .i64 5, .string ⟨#[]⟩, .string ⟨#[]⟩, .slice none 0 0, .int .i64 0]] w fun e w' => ∃ v, e = .returned (.tuple #[v, .nilIface]) ∧ Buf w.heap.size v [1, 2, 5, 0, 0, 0, 0] w w') := by
    have := put_ok ⟨1, 2, 5, 0, ByteArray.empty, ByteArray.empty, []⟩ none 0 0 w ⟨rfl, .inl rfl, by omega, by omega⟩ up_may
    rw [up_enc] at this
    exact this
  have HG : Hid (∀ w, Calls _ _ _ _ _) := fun w => get_no (w := w) (a := none) (n := 0) (cap := 0) none_not rfl (.inl rfl) (by omega) (by omega) (Nat.zero_le _)
  go_enter Try.func8, Try.ntmps8
  go_wp2_with fail
  refine HP.out.mono ?_
  rintro e w1 ⟨v, rfl, hb1⟩
  obtain ⟨a1, c1, rfl, _, _, hl1, _⟩ := hb1.form
  have HB1 : Hid (Below w.heap.size w w1) := hb1.2.1
  have HL1 : Hid (Lies w1 a1 [1, 2, 5, 0, 0, 0, 0]) := hl1
  clear hb1 hl1 HP
  go_wp2_with fail
  refine (HG.out _).mono ?_
  rintro e w2 ⟨rfl, hb2⟩
  have HB2 : Hid (Below w.heap.size w w2) := HB1.out.trans (hb2.mono HB1.out.size)
  have hcv : ∀ o, (convert 32 9 (.slice a1 7 c1)).run Try.prog (w2.alloc o) = .ok (.string ⟨#[1, 2, 5, 0, 0, 0, 0]⟩) (w2.alloc o) := fun o =>
    conv_lies (cap := c1) ((HL1.out.below hb2 (Nat.le_refl _)).below ((Below.refl _ _).alloc (Nat.le_refl _) _) (Nat.le_refl _))
  clear HG hb2 HL1 HB1
  go_wp2
  go_ret
  exact ⟨rfl, HB2.out.alloc HB2.out.size _⟩
end Go.Proofs.Ytanlanolblbckaa.Order
