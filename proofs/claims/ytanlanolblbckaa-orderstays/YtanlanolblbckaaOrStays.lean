/-
  The walk of OrderStays.
-/
import Derived.Test.YtanlanolblbckaaOrMem
import Derived.Deep.RegionHeld3
namespace Go.Proofs.Ytanlanolblbckaa.Order
open Go.RowKit Route

/-- An error's value, of which it is known whether it is nil. -/
def Err (E : Value) (m : Bool) : Prop := (∀ W, (binOp .eql 30 E .nilIface).run Try.prog W = .ok (.bool m) W) ∧ (∀ t W, (eqGuard .eql 30 (.tmp t) (.const .nilIface) E .nilIface).run Try.prog W = .ok () W)
theorem err_nil : Err .nilIface true := ⟨eqNil, fun _ _ => by kernel_rfl⟩
theorem err_arg : Err (.iface 36 (.int .i64 1)) false := ⟨eqArgNil, fun _ _ => by kernel_rfl⟩
theorem err_form : Err (.iface 36 (.int .i64 2)) false := ⟨eqFormNil, fun _ _ => by kernel_rfl⟩

/-- Put, whatever it answers. -/
theorem put_any (r : Rq) (hs : ShortR r) : ∃ (L : List UInt8) (E : Value) (m : Bool), Err E m ∧ L.length ≤ 10000 ∧ ∀ a kn cap w, KeysAt w a kn cap r.ks →
    Calls Try.prog 11 #[.agg (rv r a kn cap)] w fun e w' => ∃ v, e = .returned (.tuple #[v, E]) ∧ Buf w.heap.size v L w w' := by
  cases hm : may r with
  | true => exact ⟨enc r, _, _, err_nil, enc_len hm, fun a kn cap w hk => put_ok r a kn cap w hk hm⟩
  | false =>
    refine ⟨[], _, _, err_arg, Nat.zero_le _, fun a kn cap w hk => (put_no r a kn cap w (by have := hs.1; omega) (by have := hs.2.1; omega) hk hm).mono ?_⟩
    rintro e w' ⟨rfl, hb⟩
    exact ⟨_, rfl, World.ownsRow_nil _ _ _ _, hb, hb.size⟩

/-- Get, whatever it answers. -/
theorem get_any (l : List UInt8) : ∃ (r2 : Rq) (F : Value) (m : Bool), Err F m ∧ ∀ w a n cap, n = l.length → Lies w a l → n ≤ 100000 → n ≤ cap → cap ≤ maxLen →
    Calls Try.prog 14 #[.slice a n cap] w fun e w' => ∃ ka kn kc, e = .returned (.tuple #[.agg (rv r2 ka kn kc), F]) ∧ Hid (KeysAt w' ka kn kc r2.ks ∧ (∀ y, ka = some y → w.heap.size ≤ y.block) ∧ Below w.heap.size w w') := by
  by_cases hq : IsReq l
  · obtain ⟨r2, hm2, he2⟩ := hq
    exact ⟨r2, _, _, err_nil, fun w a n cap h1 h2 h3 h4 h5 => get_ok r2 hm2 he2 h1 h2 h3 h4 h5⟩
  · refine ⟨⟨0, 0, 0, 0, ⟨#[]⟩, ⟨#[]⟩, []⟩, _, _, err_form, fun w a n cap h1 h2 h3 h4 h5 => (get_no hq h1 h2 h3 h4 h5).mono ?_⟩
    rintro e w' ⟨rfl, hb⟩
    exact ⟨none, 0, 0, rfl, ⟨rfl, .inl rfl, by omega, by omega⟩, fun y hy => (by cases hy), hb⟩

/-- The law's own copy beside the request. -/
structure Own (w W : World) (b1 : Nat) (r : Rq) (a : Option Addr) (kn cap : Nat) (a3 : Option Addr) (k3 c3 : Nat) : Prop where
  one : W.heap[w.heap.size]? = some (.cells (rv r a kn cap) 26 (0, 0))
  own : W.heap[b1]? = some (.cells (rv r a3 k3 c3) 26 (0, 0))
  keys : KeysAt W a3 k3 c3 r.ks
  bel : Below w.heap.size w W
theorem Own.below {w W W' : World} {b1 : Nat} {r : Rq} {a : Option Addr} {kn cap : Nat} {a3 : Option Addr} {k3 c3 : Nat} (h : Own w W b1 r a kn cap a3 k3 c3) (hb : Below W.heap.size W W') : Own w W' b1 r a kn cap a3 k3 c3 :=
  ⟨bcells h.one hb, bcells h.own hb, h.keys.below hb, h.bel.trans (hb.mono h.bel.size)⟩

/-- Outside some blocks nothing turned. -/
structure Ko (lo hi : Nat) (w w' : World) : Prop where
  size : w.heap.size ≤ w'.heap.size
  block : ∀ k, k < w.heap.size → (k < lo ∨ hi ≤ k) → w'.heap[k]? = w.heap[k]?
theorem Ko.refl (lo hi : Nat) (w : World) : Ko lo hi w w := ⟨Nat.le_refl _, fun _ _ _ => rfl⟩
theorem Ko.setCell {lo hi : Nat} {w w' : World} (h : Ko lo hi w w') (g i : Nat) (u : Value) (h1 : lo ≤ g) (h2 : g < hi) : Ko lo hi w (w'.setCell ⟨g, i, none⟩ u) :=
  ⟨by simpa using h.size, fun k hk ho => (Below.heap_setCell _ _ _ _ (by show k ≠ g; omega)).trans (h.block k hk ho)⟩

/-- The keys of the copy are stored. -/
theorem own_made {w w2 w3 : World} {r : Rq} {a : Option Addr} {kn cap : Nat} {a3 : Option Addr} {k3 c3 : Nat} (h : Bx1 w w2 (rv r a kn cap)) (hr : ShortR r)
    (hst : Strs (w2.alloc (.cells (rv r a kn cap) 26)).heap.size (.slice a3 k3 c3) ([] ++ r.ks) (w2.alloc (.cells (rv r a kn cap) 26)) w3) :
    Own w (w3.setCell ⟨w2.heap.size, 5, none⟩ (.slice a3 k3 c3)) w2.heap.size r a kn cap a3 k3 c3 := by
  have hA : Below w2.heap.size w2 (w2.alloc (.cells (rv r a kn cap) 26)) := (Below.refl _ _).alloc (Nat.le_refl _) _
  have hz : (w2.alloc (.cells (rv r a kn cap) 26)).heap.size = w2.heap.size + 1 := by simp
  have h1 : w3.heap[w.heap.size]? = some (.cells (rv r a kn cap) 26 (0, 0)) := bcells (bcells h.one hA) hst.2.1
  have h2 : w3.heap[w2.heap.size]? = some (.cells (rv r a kn cap) 26 (0, 0)) := bcells (heap_alloc_new w2 _) hst.2.1
  have hlt := (Array.getElem?_eq_some_iff.1 h.one).1
  have hrow := hst.1
  rw [List.nil_append] at hrow
  refine ⟨(Below.heap_setCell _ _ _ _ (by show w.heap.size ≠ w2.heap.size; omega)).trans h1, ?_, ?_, ?_⟩
  · simp [World.setCell, Array.getElem?_modify, h2]
  · refine row_keys (B := w2.heap.size + 1) (row_keep (B := w2.heap.size + 1) (by rw [← hz]; exact hrow) fun g h1 _ => Below.heap_setCell _ _ _ _ (by show g ≠ w2.heap.size; omega)) (by have := hst.2.2; rw [hz] at this; simpa using this) (by have := hr.2.2; omega)
  · have hb : Below w.heap.size w w3 := (h.bel.trans (hA.mono h.bel.size)).trans (hst.2.1.mono (Nat.le_trans h.bel.size hA.size))
    exact hb.setCell h.bel.size _

set_option maxHeartbeats 8000000 in
set_option maxRecDepth 100000 in
theorem orderStays_walk (r : Rq) (a : Option Addr) (kn cap : Nat) (ab : Option Addr) (l : List UInt8) (nb capb : Nat) (w : World) (h : ReqAt w a kn cap r) (hn : nb = l.length) (hl : Lies w ab l) (hnc : nb ≤ capb) (hcm : capb ≤ maxLen) (hbn : ab = none → capb = 0) :
    Calls Try.prog 6 #[.agg (rv r a kn cap), .slice ab nb capb] w fun e w' => e = .returned (.bool true) ∧ Below w.heap.size w w' := by
  have HR : Hid (ReqAt w a kn cap r) := h
  have HN : Hid (nb = l.length) := hn
  have HL : Hid (∀ W, Below w.heap.size w W → Lies W ab l) := fun W hb => hl.below hb (Nat.le_refl _)
  have HCM : Hid (capb ≤ maxLen) := hcm
  have HBN : Hid (ab = none → capb = 0) := hbn
  have HU : Hid (∀ w, Calls _ _ _ _ _) := up_any
  have BX : Hid (Bx1 w _ (rv r a kn cap)) := Bx1.start w _
  have hnb : nb ≤ 9223372036854775807 := Nat.le_trans hnc hcm
  clear h hn hl hcm hbn
  go_enter Try.func6, Try.ntmps6
  go_wp2_with fail
  refine (HU.out _).mono ?_
  rintro e w1 ⟨rfl, hb1⟩
  have BX1 : Hid (Bx1 w w1 (rv r a kn cap)) := BX.out.below hb1
  clear BX hb1 HU
  obtain ⟨x0, x1, x2, x3, x4, x5, x6⟩ := seven BX1.out.one
  have H1 : Hid (Calls _ _ _ _ _) := short_any r a kn cap w1 (HR.out.below BX1.out.bel)
  go_wp2_with fail
  refine H1.out.mono ?_
  rintro e w2 ⟨b2, rfl, hh⟩
  have BX2 : Hid (Bx1 w w2 (rv r a kn cap)) := BX1.out.below hh.out.2
  have HS1 : Hid (b2 = true → ShortR r) := hh.out.1
  clear x0 x1 x2 x3 x4 x5 x6 hh BX1 H1
  obtain ⟨x0, x1, x2, x3, x4, x5, x6⟩ := seven BX2.out.one
  cases b2 with
  | false =>
    go_wp2
    go_ret
    exact ⟨rfl, BX2.out.bel⟩
  | true =>
    by_cases hbig : 5000 < nb
    · go_wp2
      go_ret
      exact ⟨rfl, BX2.out.bel⟩
    · have hr : ShortR r := HS1.out (by first | rfl | trivial)
      have HSR : Hid (ShortR r) := hr
      have HKR : Hid (∀ W, Below w.heap.size w W → KeysAt W a kn cap r.ks) := fun W hb => (HR.out.keys hr).below hb
      obtain ⟨L, E, m, hE, hLL, hput⟩ := put_any r hr
      obtain ⟨r2, F, m2, hF, hget⟩ := get_any l
      have HPUT : Hid (∀ a kn cap w, KeysAt w a kn cap r.ks → Calls Try.prog 11 #[.agg (rv r a kn cap)] w fun e w' => ∃ v, e = .returned (.tuple #[v, E]) ∧ Buf w.heap.size v L w w') := hput
      have HGET : Hid (∀ w a n cap, n = l.length → Lies w a l → n ≤ 100000 → n ≤ cap → cap ≤ maxLen → Calls Try.prog 14 #[.slice a n cap] w fun e w' => ∃ ka kn kc, e = .returned (.tuple #[.agg (rv r2 ka kn kc), F]) ∧ Hid (KeysAt w' ka kn kc r2.ks ∧ (∀ y, ka = some y → w.heap.size ≤ y.block) ∧ Below w.heap.size w w')) := hget
      have e1 := hE.1
      have e2 := hE.2
      have f1 := hF.1
      have f2 := hF.2
      have HLL : Hid (L.length ≤ 10000) := hLL
      have hz2 : w.heap.size < w2.heap.size := (Array.getElem?_eq_some_iff.1 BX2.out.one).1
      have HK2 : Hid (KeysAt w2 a kn cap r.ks) := HKR.out _ BX2.out.bel
      have hkn : kn ≤ 100 := by rw [HK2.out.len]; exact hr.2.2
      have HNA : Hid (a = none → cap = 0) := HR.out.nil
      have HF2 : Hid (Strs (w2.alloc (.cells (rv r a kn cap) 26)).heap.size (.slice (some ⟨w2.heap.size + 1, 0, none⟩) 0 0) [] (w2.alloc (.cells (rv r a kn cap) 26)) ((w2.alloc (.cells (rv r a kn cap) 26)).alloc (.cells #[] 9))) := by
        have hz : (w2.alloc (.cells (rv r a kn cap) 26)).heap.size = w2.heap.size + 1 := by simp
        rw [← hz]
        exact ⟨World.ownsRow_made _ #[] 0 (Nat.le_refl _) (Nat.zero_le _) rfl, (Below.refl _ _).alloc (Nat.le_refl _) _, by simp⟩
      have HLK : Hid (Route.Lies ((w2.alloc (.cells (rv r a kn cap) 26)).alloc (.cells #[] 9)) a r.ks) :=
        (HK2.out.lies.below ((Below.refl _ _).alloc (Nat.le_refl _) _) (Nat.le_refl _)).below ((Below.refl _ _).alloc (Nat.le_refl _) _) (Nat.le_refl _)
      have hlen0 : ([] : List ByteArray).length + kn ≤ 1000000000000 := by rw [List.length_nil]; omega
      have HOM : Hid (∀ v w3, Strs (w2.alloc (.cells (rv r a kn cap) 26)).heap.size v ([] ++ r.ks) (w2.alloc (.cells (rv r a kn cap) 26)) w3 → ∃ a3 k3 c3, v = .slice a3 k3 c3 ∧ (w3.cell? ⟨w2.heap.size, 0, none⟩ = some (.int .i64 r.c) ∧ w3.cell? ⟨w2.heap.size, 1, none⟩ = some (.int .i64 r.t) ∧ w3.cell? ⟨w2.heap.size, 2, none⟩ = some (.int .i64 r.k) ∧ w3.cell? ⟨w2.heap.size, 3, none⟩ = some (.string r.nm) ∧ w3.cell? ⟨w2.heap.size, 4, none⟩ = some (.string r.pt) ∧ w3.cell? ⟨w2.heap.size, 5, none⟩ = some (.slice a kn cap) ∧ w3.cell? ⟨w2.heap.size, 6, none⟩ = some (.int .i64 r.n)) ∧ w3.frozen? ⟨w2.heap.size, 5, none⟩ = false ∧ Hid (Own w (w3.setCell ⟨w2.heap.size, 5, none⟩ (.slice a3 k3 c3)) w2.heap.size r a kn cap a3 k3 c3)) := fun v w3 hst => by
        obtain ⟨a3, c3, rfl, _⟩ := hst.lies
        have hb := seven' (bcells (heap_alloc_new w2 (.cells (rv r a kn cap) 26)) hst.2.1)
        exact ⟨a3, _, c3, rfl, hb.1, hb.2 5, own_made BX2.out HSR.out hst⟩
      have HKN : Hid (kn = r.ks.length) := HK2.out.len
      have HKC : Hid (kn ≤ cap) := HK2.out.nm
      clear hr HS1 HR hput hget hE hF hLL HSR HK2
      go_wp2_with (first | (at_builtin; refine wpList_strs rfl (.tmp 33) (.tmp 36) rfl (w2.alloc (.cells (rv r a kn cap) 26)).heap.size _ [] rfl (w2.alloc (.cells (rv r a kn cap) 26)) HF2.out r.ks a kn cap rfl HKN.out HLK.out HNA.out HKC.out hlen0 ?_; intro v3 w3 hst3; obtain ⟨a3, k3, c3, rfl, ⟨y0, y1, y2, y3, y4, y5, y6⟩, z5, HO3⟩ := HOM.out v3 w3 hst3; clear hst3))
      clear HF2 HLK HOM x0 x1 x2 x3 x4 x5 x6 HKC HNA hlen0
      have P3 : Hid (Calls _ _ _ _ _) := HPUT.out a3 k3 c3 _ HO3.out.keys
      refine P3.out.mono ?_
      rintro e w4 ⟨v4, rfl, hb4⟩
      clear P3 y0 y1 y2 y3 y4 y5 y6 z5
      generalize w3.setCell ⟨w2.heap.size, 5, none⟩ (.slice a3 k3 c3) = W3 at *
      generalize w2.heap.size = b1 at *
      obtain ⟨D, hD⟩ : ∃ D : ByteArray, D = ⟨L.toArray⟩ := ⟨_, rfl⟩
      have HD : Hid (D = ⟨L.toArray⟩) := hD
      obtain ⟨a4, k4, c4, rfl, hk4, _, _, hl4, hg4⟩ := hb4.words
      have cv4 := conv_at (cap := c4) hl4 hk4.out hD
      have HG4 : Hid (0 < k4 → ∃ g, a4 = some ⟨g, 0, none⟩ ∧ W3.heap.size ≤ g) := hg4
      have hk40 : k4 ≤ 10000 := by rw [hk4.out]; exact HLL.out
      have HB4 : Hid (∃ yl : List UInt8, k4 = yl.length ∧ Buf W3.heap.size (.slice a4 k4 c4) yl W3 w4) := ⟨L, hk4.out, hb4⟩
      clear hl4 hk4 hb4 hg4 hD
      go_wp2
      clear cv4
      go_loopw [11] (fun i wr => ∃ (j : Nat), j ≤ k4 ∧ i = .int .i64 j ∧ Hid (∃ yl : List UInt8, k4 = yl.length ∧ Buf W3.heap.size (.slice a4 k4 c4) yl W3 wr)) (fun i _ => k4 - (intOf i).toNat)
      case atStart => exact ⟨0, Nat.zero_le _, rfl, HB4⟩
      case round =>
        obtain ⟨j, hj, rfl, HY⟩ := hrel
        clear HB4
        by_cases hlt : j < k4
        · obtain ⟨g, rfl, hB⟩ := HG4.out (by omega)
          obtain ⟨yl, hyl, hbr⟩ := HY.out
          obtain ⟨d, hd, hcell, hfr⟩ := hbr.at_ hyl j hlt
          obtain ⟨c, hc⟩ : ∃ c : Nat, c = (d + 1) % 256 := ⟨_, rfl⟩
          have hc256 : c < 256 := by omega
          have hwr : IntKind.u8.wrap ((d : Int) + 1) = (c : Int) := by rw [IntKind.wrap_u8, hc]; omega
          clear hc
          have HB' : Hid (∃ yl : List UInt8, k4 = yl.length ∧ Buf W3.heap.size (.slice (some ⟨g, 0, none⟩) k4 c4) yl W3 (wr.setCell ⟨g, j, none⟩ (.int .u8 (c : Int)))) := hbr.set hyl hB j c hc256
          clear hbr hyl HY
          go_wp2
          go_roundw
          case rel => exact ⟨j + 1, by omega, by go_num, HB'⟩
          case measure => simp [intOf]; omega
        · have hb4w : Below W3.heap.size W3 wr := by
            obtain ⟨yl, _, hbr⟩ := HY.out
            exact hbr.2.1
          have HO4 : Hid (Own w wr b1 r a kn cap a3 k3 c3) := HO3.out.below hb4w
          clear HY hb4w HO3
          obtain ⟨y0, y1, y2, y3, y4, y5, y6⟩ := seven HO4.out.own
          have P4 : Hid (Calls _ _ _ _ _) := HPUT.out a3 k3 c3 wr HO4.out.keys
          clear HPUT
          go_wp2_with fail
          refine P4.out.mono ?_
          rintro e w5 ⟨v5, rfl, hb5⟩
          clear P4 y0 y1 y2 y3 y4 y5 y6
          obtain ⟨a5, k5, c5, rfl, hk5, _, _, hl5, _⟩ := hb5.words
          have HO5 : Hid (Own w w5 b1 r a kn cap a3 k3 c3) := HO4.out.below hb5.2.1
          have HCV : Hid (∀ W, Below w5.heap.size w5 W → (convert 32 9 (.slice a5 k5 c5)).run Try.prog W = .ok (.string D) W) := fun W hb => conv_at (cap := c5) (hl5.below hb (Nat.le_refl _)) hk5.out HD.out
          clear hl5 hk5 hb5 HO4
          have HF5 : Hid (Buf w5.heap.size (.slice (some ⟨w5.heap.size, 0, none⟩) 0 0) [] w5 (w5.alloc (.cells #[] 5))) := Buf.fresh w5 _ rfl
          have HL5 : Hid (Lies (w5.alloc (.cells #[] 5)) ab l) := (HL.out _ HO5.out.bel).below ((Below.refl _ _).alloc (Nat.le_refl _) _) (Nat.le_refl _)
          have hlen1 : ([] : List UInt8).length + nb ≤ 140737488355328 := by rw [List.length_nil]; omega
          go_wp2_with (at_builtin; refine wpList_bytes_any rfl (.tmp 66) (.tmp 67) rfl w5.heap.size _ [] rfl w5 HF5.out l ab nb capb rfl HN.out HL5.out HBN.out hnc hlen1 ?_; rw [List.nil_append]; intro v6 w6 hb6; obtain ⟨a6, k6, c6, rfl, hk6, hkc6, hcm6, hl6, hg6⟩ := hb6.words)
          have hk60 : k6 ≤ 5000 := by rw [hk6.out, ← HN.out]; omega
          have G6 : Hid (Calls _ _ _ _ _) := HGET.out w6 a6 k6 c6 hk6.out hl6 (by omega) hkc6 hcm6
          have HB6 : Hid (Buf w5.heap.size (.slice a6 k6 c6) l w5 w6) := hb6
          have HK6 : Hid (k6 = l.length) := hk6
          have HG6 : Hid (0 < k6 → ∃ g, a6 = some ⟨g, 0, none⟩ ∧ w5.heap.size ≤ g) := hg6
          clear HF5 HL5 hlen1 hb6 hk6 hl6 hg6 hkc6 hcm6
          go_wp2_with fail
          refine G6.out.mono ?_
          rintro e w7 ⟨ka7, kn7, kc7, rfl, hh⟩
          obtain ⟨hk7, hnew7, hb7⟩ := hh.out
          clear G6 hh
          have HA7 : Hid (Below w7.heap.size w7 (w7.alloc (.cells (rv r2 ka7 kn7 kc7) 26))) := (Below.refl _ _).alloc (Nat.le_refl _) _
          have HX7 : Hid ((w7.alloc (.cells (rv r2 ka7 kn7 kc7) 26)).heap[w7.heap.size]? = some (.cells (rv r2 ka7 kn7 kc7) 26 (0, 0))) := heap_alloc_new w7 _
          have HK7 : Hid (KeysAt (w7.alloc (.cells (rv r2 ka7 kn7 kc7) 26)) ka7 kn7 kc7 r2.ks ∧ ∀ y, ka7 = some y → w6.heap.size ≤ y.block) := ⟨hk7.below HA7.out, hnew7⟩
          have HB7 : Hid (∃ yl : List UInt8, k6 = yl.length ∧ Buf w5.heap.size (.slice a6 k6 c6) yl w5 (w7.alloc (.cells (rv r2 ka7 kn7 kc7) 26)) ∧ Ko w5.heap.size w6.heap.size (w7.alloc (.cells (rv r2 ka7 kn7 kc7) 26)) (w7.alloc (.cells (rv r2 ka7 kn7 kc7) 26))) := ⟨l, HK6.out, (HB6.out.later hb7).later HA7.out, Ko.refl _ _ _⟩
          have HG7 : Hid (∀ g, a6 = some ⟨g, 0, none⟩ → g < w6.heap.size) := fun g hg => by
            obtain ⟨a9, c9, e9, _, _, _, _, h9⟩ := HB6.out.form
            injection e9 with e91 _ _
            subst e91
            exact (h9 _ hg).2
          have hz7 : w6.heap.size ≤ w7.heap.size := hb7.size
          clear hk7 hnew7 hb7 HA7 HB6
          go_wp2
          generalize w7.alloc (.cells (rv r2 ka7 kn7 kc7) 26) = W7 at *
          generalize w7.heap.size = b7 at *
          go_loopw [17] (fun i wr => ∃ (j : Nat), j ≤ k6 ∧ i = .int .i64 j ∧ Hid (∃ yl : List UInt8, k6 = yl.length ∧ Buf w5.heap.size (.slice a6 k6 c6) yl w5 wr ∧ Ko w5.heap.size w6.heap.size W7 wr)) (fun i _ => k6 - (intOf i).toNat)
          case atStart => exact ⟨0, Nat.zero_le _, rfl, HB7⟩
          case round =>
            obtain ⟨j, hj, rfl, HY⟩ := hrel
            clear HB7
            by_cases hlt : j < k6
            · obtain ⟨g, rfl, hB⟩ := HG6.out (by omega)
              have hgl := HG7.out g rfl
              obtain ⟨yl, hyl, hbr, hko⟩ := HY.out
              obtain ⟨d, hd, hcell, hfr⟩ := hbr.at_ hyl j hlt
              obtain ⟨c, hc⟩ : ∃ c : Nat, c = (d + 1) % 256 := ⟨_, rfl⟩
              have hc256 : c < 256 := by omega
              have hwr : IntKind.u8.wrap ((d : Int) + 1) = (c : Int) := by rw [IntKind.wrap_u8, hc]; omega
              clear hc
              obtain ⟨yl', hy', hb'⟩ := hbr.set hyl hB j c hc256
              have HB' : Hid (∃ yl : List UInt8, k6 = yl.length ∧ Buf w5.heap.size (.slice (some ⟨g, 0, none⟩) k6 c6) yl w5 (wr.setCell ⟨g, j, none⟩ (.int .u8 (c : Int))) ∧ Ko w5.heap.size w6.heap.size W7 (wr.setCell ⟨g, j, none⟩ (.int .u8 (c : Int)))) := ⟨yl', hy', hb', hko.setCell g j _ hB hgl⟩
              clear hbr hyl HY hko hy' hb'
              go_wp2
              go_roundw
              case rel => exact ⟨j + 1, by omega, by go_num, HB'⟩
              case measure => simp [intOf]; omega
            · obtain ⟨yl, _, hbr, hko⟩ := HY.out
              have hb5w : Below w5.heap.size w5 wr := hbr.2.1
              have HO8 : Hid (Own w wr b1 r a kn cap a3 k3 c3) := HO5.out.below hb5w
              have HC8 : Hid (∀ W, Below wr.heap.size wr W → (convert 32 9 (.slice a5 k5 c5)).run Try.prog W = .ok (.string D) W) := fun W hb => HCV.out W (hb5w.trans (hb.mono hb5w.size))
              have HX8 : Hid (wr.heap[b7]? = some (.cells (rv r2 ka7 kn7 kc7) 26 (0, 0))) := (hko.block b7 (Array.getElem?_eq_some_iff.1 HX7.out).1 (.inr (by omega))).trans HX7.out
              have HK8 : Hid (KeysAt wr ka7 kn7 kc7 r2.ks) := by
                obtain ⟨⟨g1, g2, g3, g4⟩, hnew⟩ := HK7.out
                exact ⟨g1, lies_new g2 hnew fun g h1 h2 => hko.block g h2 (.inr h1), g3, g4⟩
              have G8 : Hid (Calls _ _ _ _ _) := HGET.out wr ab nb capb HN.out (HL.out _ HO8.out.bel) (by omega) hnc HCM.out
              clear HY hbr hko hb5w HO5 HCV HX7 HK7 HGET
              go_wp2_with fail
              refine G8.out.mono ?_
              rintro e w8 ⟨ka9, kn9, kc9, rfl, hh⟩
              obtain ⟨hk9, _, hb8⟩ := hh.out
              clear G8 hh
              obtain ⟨w9, hw9⟩ : ∃ w9, w9 = w8.alloc (.cells (rv r2 ka9 kn9 kc9) 26) := ⟨_, rfl⟩
              have hA9 : Below w8.heap.size w8 w9 := by rw [hw9]; exact (Below.refl _ _).alloc (Nat.le_refl _) _
              have hb9 : Below wr.heap.size wr w9 := hb8.trans (hA9.mono hb8.size)
              have HO9 : Hid (Own w w9 b1 r a kn cap a3 k3 c3) := HO8.out.below hb9
              have HX9 : Hid (w9.heap[b7]? = some (.cells (rv r2 ka7 kn7 kc7) 26 (0, 0))) := bcells HX8.out hb9
              have HY9 : Hid (w9.heap[w8.heap.size]? = some (.cells (rv r2 ka9 kn9 kc9) 26 (0, 0))) := by rw [hw9]; exact heap_alloc_new w8 _
              have HK9 : Hid (KeysAt w9 ka7 kn7 kc7 r2.ks ∧ KeysAt w9 ka9 kn9 kc9 r2.ks) := ⟨HK8.out.below hb9, hk9.below hA9⟩
              have HC9 : Hid (∀ W, Below w9.heap.size w9 W → (convert 32 9 (.slice a5 k5 c5)).run Try.prog W = .ok (.string D) W) := fun W hb => HC8.out W (hb9.trans (hb.mono hb9.size))
              obtain ⟨b9, hb9e⟩ : ∃ b9, b9 = w8.heap.size := ⟨_, rfl⟩
              rw [← hb9e] at HY9
              have HS : Hid (∀ W, Below w9.heap.size w9 W → (fun W => Below w9.heap.size w9 W ∧ (convert 32 9 (.slice a5 k5 c5)).run Try.prog W = .ok (.string D) W ∧ W.cell? ⟨w.heap.size, 0, none⟩ = some (.int .i64 r.c) ∧ W.cell? ⟨w.heap.size, 1, none⟩ = some (.int .i64 r.t) ∧ W.cell? ⟨w.heap.size, 2, none⟩ = some (.int .i64 r.k) ∧ W.cell? ⟨w.heap.size, 3, none⟩ = some (.string r.nm) ∧ W.cell? ⟨w.heap.size, 4, none⟩ = some (.string r.pt) ∧ W.cell? ⟨w.heap.size, 5, none⟩ = some (.slice a kn cap) ∧ W.cell? ⟨w.heap.size, 6, none⟩ = some (.int .i64 r.n) ∧ W.cell? ⟨b1, 0, none⟩ = some (.int .i64 r.c) ∧ W.cell? ⟨b1, 1, none⟩ = some (.int .i64 r.t) ∧ W.cell? ⟨b1, 2, none⟩ = some (.int .i64 r.k) ∧ W.cell? ⟨b1, 3, none⟩ = some (.string r.nm) ∧ W.cell? ⟨b1, 4, none⟩ = some (.string r.pt) ∧ W.cell? ⟨b1, 5, none⟩ = some (.slice a3 k3 c3) ∧ W.cell? ⟨b1, 6, none⟩ = some (.int .i64 r.n) ∧ W.cell? ⟨b7, 0, none⟩ = some (.int .i64 r2.c) ∧ W.cell? ⟨b7, 1, none⟩ = some (.int .i64 r2.t) ∧ W.cell? ⟨b7, 2, none⟩ = some (.int .i64 r2.k) ∧ W.cell? ⟨b7, 3, none⟩ = some (.string r2.nm) ∧ W.cell? ⟨b7, 4, none⟩ = some (.string r2.pt) ∧ W.cell? ⟨b7, 5, none⟩ = some (.slice ka7 kn7 kc7) ∧ W.cell? ⟨b7, 6, none⟩ = some (.int .i64 r2.n) ∧ W.cell? ⟨b9, 0, none⟩ = some (.int .i64 r2.c) ∧ W.cell? ⟨b9, 1, none⟩ = some (.int .i64 r2.t) ∧ W.cell? ⟨b9, 2, none⟩ = some (.int .i64 r2.k) ∧ W.cell? ⟨b9, 3, none⟩ = some (.string r2.nm) ∧ W.cell? ⟨b9, 4, none⟩ = some (.string r2.pt) ∧ W.cell? ⟨b9, 5, none⟩ = some (.slice ka9 kn9 kc9) ∧ W.cell? ⟨b9, 6, none⟩ = some (.int .i64 r2.n)) W) := fun W hb => by
                have hB := HO9.out.below hb
                obtain ⟨x0, x1, x2, x3, x4, x5, x6⟩ := seven hB.one
                obtain ⟨y0, y1, y2, y3, y4, y5, y6⟩ := seven hB.own
                obtain ⟨u0, u1, u2, u3, u4, u5, u6⟩ := seven (bcells HX9.out hb)
                obtain ⟨v0, v1, v2, v3, v4, v5, v6⟩ := seven (bcells HY9.out hb)
                exact ⟨hb, HC9.out W hb, x0, x1, x2, x3, x4, x5, x6, y0, y1, y2, y3, y4, y5, y6, u0, u1, u2, u3, u4, u5, u6, v0, v1, v2, v3, v4, v5, v6⟩
              have HM1 : Hid (∀ W, Below w9.heap.size w9 W → Calls Try.prog 16 #[.agg (rv r a3 k3 c3), .agg (rv r a kn cap)] W fun e w' => e = .returned (.bool true) ∧ (fun W => Below w9.heap.size w9 W ∧ (convert 32 9 (.slice a5 k5 c5)).run Try.prog W = .ok (.string D) W ∧ W.cell? ⟨w.heap.size, 0, none⟩ = some (.int .i64 r.c) ∧ W.cell? ⟨w.heap.size, 1, none⟩ = some (.int .i64 r.t) ∧ W.cell? ⟨w.heap.size, 2, none⟩ = some (.int .i64 r.k) ∧ W.cell? ⟨w.heap.size, 3, none⟩ = some (.string r.nm) ∧ W.cell? ⟨w.heap.size, 4, none⟩ = some (.string r.pt) ∧ W.cell? ⟨w.heap.size, 5, none⟩ = some (.slice a kn cap) ∧ W.cell? ⟨w.heap.size, 6, none⟩ = some (.int .i64 r.n) ∧ W.cell? ⟨b1, 0, none⟩ = some (.int .i64 r.c) ∧ W.cell? ⟨b1, 1, none⟩ = some (.int .i64 r.t) ∧ W.cell? ⟨b1, 2, none⟩ = some (.int .i64 r.k) ∧ W.cell? ⟨b1, 3, none⟩ = some (.string r.nm) ∧ W.cell? ⟨b1, 4, none⟩ = some (.string r.pt) ∧ W.cell? ⟨b1, 5, none⟩ = some (.slice a3 k3 c3) ∧ W.cell? ⟨b1, 6, none⟩ = some (.int .i64 r.n) ∧ W.cell? ⟨b7, 0, none⟩ = some (.int .i64 r2.c) ∧ W.cell? ⟨b7, 1, none⟩ = some (.int .i64 r2.t) ∧ W.cell? ⟨b7, 2, none⟩ = some (.int .i64 r2.k) ∧ W.cell? ⟨b7, 3, none⟩ = some (.string r2.nm) ∧ W.cell? ⟨b7, 4, none⟩ = some (.string r2.pt) ∧ W.cell? ⟨b7, 5, none⟩ = some (.slice ka7 kn7 kc7) ∧ W.cell? ⟨b7, 6, none⟩ = some (.int .i64 r2.n) ∧ W.cell? ⟨b9, 0, none⟩ = some (.int .i64 r2.c) ∧ W.cell? ⟨b9, 1, none⟩ = some (.int .i64 r2.t) ∧ W.cell? ⟨b9, 2, none⟩ = some (.int .i64 r2.k) ∧ W.cell? ⟨b9, 3, none⟩ = some (.string r2.nm) ∧ W.cell? ⟨b9, 4, none⟩ = some (.string r2.pt) ∧ W.cell? ⟨b9, 5, none⟩ = some (.slice ka9 kn9 kc9) ∧ W.cell? ⟨b9, 6, none⟩ = some (.int .i64 r2.n)) w') := fun W hb => by
                have hB := HO9.out.below hb
                have := same_any r r a3 a k3 c3 kn cap W hB.keys (HKR.out _ hB.bel)
                rw [sameR_iff.2 rfl] at this
                refine this.mono ?_
                rintro e w' ⟨rfl, hb'⟩
                exact ⟨rfl, HS.out w' (hb.trans (hb'.mono hb.size))⟩
              have HM2 : Hid (∀ W, Below w9.heap.size w9 W → Calls Try.prog 16 #[.agg (rv r2 ka7 kn7 kc7), .agg (rv r2 ka9 kn9 kc9)] W fun e w' => e = .returned (.bool true) ∧ (fun W => Below w9.heap.size w9 W ∧ (convert 32 9 (.slice a5 k5 c5)).run Try.prog W = .ok (.string D) W ∧ W.cell? ⟨w.heap.size, 0, none⟩ = some (.int .i64 r.c) ∧ W.cell? ⟨w.heap.size, 1, none⟩ = some (.int .i64 r.t) ∧ W.cell? ⟨w.heap.size, 2, none⟩ = some (.int .i64 r.k) ∧ W.cell? ⟨w.heap.size, 3, none⟩ = some (.string r.nm) ∧ W.cell? ⟨w.heap.size, 4, none⟩ = some (.string r.pt) ∧ W.cell? ⟨w.heap.size, 5, none⟩ = some (.slice a kn cap) ∧ W.cell? ⟨w.heap.size, 6, none⟩ = some (.int .i64 r.n) ∧ W.cell? ⟨b1, 0, none⟩ = some (.int .i64 r.c) ∧ W.cell? ⟨b1, 1, none⟩ = some (.int .i64 r.t) ∧ W.cell? ⟨b1, 2, none⟩ = some (.int .i64 r.k) ∧ W.cell? ⟨b1, 3, none⟩ = some (.string r.nm) ∧ W.cell? ⟨b1, 4, none⟩ = some (.string r.pt) ∧ W.cell? ⟨b1, 5, none⟩ = some (.slice a3 k3 c3) ∧ W.cell? ⟨b1, 6, none⟩ = some (.int .i64 r.n) ∧ W.cell? ⟨b7, 0, none⟩ = some (.int .i64 r2.c) ∧ W.cell? ⟨b7, 1, none⟩ = some (.int .i64 r2.t) ∧ W.cell? ⟨b7, 2, none⟩ = some (.int .i64 r2.k) ∧ W.cell? ⟨b7, 3, none⟩ = some (.string r2.nm) ∧ W.cell? ⟨b7, 4, none⟩ = some (.string r2.pt) ∧ W.cell? ⟨b7, 5, none⟩ = some (.slice ka7 kn7 kc7) ∧ W.cell? ⟨b7, 6, none⟩ = some (.int .i64 r2.n) ∧ W.cell? ⟨b9, 0, none⟩ = some (.int .i64 r2.c) ∧ W.cell? ⟨b9, 1, none⟩ = some (.int .i64 r2.t) ∧ W.cell? ⟨b9, 2, none⟩ = some (.int .i64 r2.k) ∧ W.cell? ⟨b9, 3, none⟩ = some (.string r2.nm) ∧ W.cell? ⟨b9, 4, none⟩ = some (.string r2.pt) ∧ W.cell? ⟨b9, 5, none⟩ = some (.slice ka9 kn9 kc9) ∧ W.cell? ⟨b9, 6, none⟩ = some (.int .i64 r2.n)) w') := fun W hb => by
                have := same_any r2 r2 ka7 ka9 kn7 kc7 kn9 kc9 W (HK9.out.1.below hb) (HK9.out.2.below hb)
                rw [sameR_iff.2 rfl] at this
                refine this.mono ?_
                rintro e w' ⟨rfl, hb'⟩
                exact ⟨rfl, HS.out w' (hb.trans (hb'.mono hb.size))⟩
              have HM : Hid (∀ (x y : Value) W, ((x = .agg (rv r a3 k3 c3) ∧ y = .agg (rv r a kn cap)) ∨ (x = .agg (rv r2 ka7 kn7 kc7) ∧ y = .agg (rv r2 ka9 kn9 kc9))) → Below w9.heap.size w9 W → Calls Try.prog 16 #[x, y] W fun e w' => e = .returned (.bool true) ∧ (fun W => Below w9.heap.size w9 W ∧ (convert 32 9 (.slice a5 k5 c5)).run Try.prog W = .ok (.string D) W ∧ W.cell? ⟨w.heap.size, 0, none⟩ = some (.int .i64 r.c) ∧ W.cell? ⟨w.heap.size, 1, none⟩ = some (.int .i64 r.t) ∧ W.cell? ⟨w.heap.size, 2, none⟩ = some (.int .i64 r.k) ∧ W.cell? ⟨w.heap.size, 3, none⟩ = some (.string r.nm) ∧ W.cell? ⟨w.heap.size, 4, none⟩ = some (.string r.pt) ∧ W.cell? ⟨w.heap.size, 5, none⟩ = some (.slice a kn cap) ∧ W.cell? ⟨w.heap.size, 6, none⟩ = some (.int .i64 r.n) ∧ W.cell? ⟨b1, 0, none⟩ = some (.int .i64 r.c) ∧ W.cell? ⟨b1, 1, none⟩ = some (.int .i64 r.t) ∧ W.cell? ⟨b1, 2, none⟩ = some (.int .i64 r.k) ∧ W.cell? ⟨b1, 3, none⟩ = some (.string r.nm) ∧ W.cell? ⟨b1, 4, none⟩ = some (.string r.pt) ∧ W.cell? ⟨b1, 5, none⟩ = some (.slice a3 k3 c3) ∧ W.cell? ⟨b1, 6, none⟩ = some (.int .i64 r.n) ∧ W.cell? ⟨b7, 0, none⟩ = some (.int .i64 r2.c) ∧ W.cell? ⟨b7, 1, none⟩ = some (.int .i64 r2.t) ∧ W.cell? ⟨b7, 2, none⟩ = some (.int .i64 r2.k) ∧ W.cell? ⟨b7, 3, none⟩ = some (.string r2.nm) ∧ W.cell? ⟨b7, 4, none⟩ = some (.string r2.pt) ∧ W.cell? ⟨b7, 5, none⟩ = some (.slice ka7 kn7 kc7) ∧ W.cell? ⟨b7, 6, none⟩ = some (.int .i64 r2.n) ∧ W.cell? ⟨b9, 0, none⟩ = some (.int .i64 r2.c) ∧ W.cell? ⟨b9, 1, none⟩ = some (.int .i64 r2.t) ∧ W.cell? ⟨b9, 2, none⟩ = some (.int .i64 r2.k) ∧ W.cell? ⟨b9, 3, none⟩ = some (.string r2.nm) ∧ W.cell? ⟨b9, 4, none⟩ = some (.string r2.pt) ∧ W.cell? ⟨b9, 5, none⟩ = some (.slice ka9 kn9 kc9) ∧ W.cell? ⟨b9, 6, none⟩ = some (.int .i64 r2.n)) w') := fun x y W hxy hb => by
                rcases hxy with ⟨rfl, rfl⟩ | ⟨rfl, rfl⟩
                · exact HM1.out W hb
                · exact HM2.out W hb
              have HBW : Hid (∀ W, Below w9.heap.size w9 W → Below w.heap.size w W) := fun W hb => (HO9.out.below hb).bel
              clear hA9 hb9 hb8 hk9 HO8 HX8 HK8 HC8 HC9 HKR HO9 HX9 HY9 HK9
              go_wp2
              rw [← hw9, ← hb9e]
              clear hw9 hb9e
              clear HM1 HM2
              go_region_held3 (fun W => Below w9.heap.size w9 W ∧ (convert 32 9 (.slice a5 k5 c5)).run Try.prog W = .ok (.string D) W ∧ W.cell? ⟨w.heap.size, 0, none⟩ = some (.int .i64 r.c) ∧ W.cell? ⟨w.heap.size, 1, none⟩ = some (.int .i64 r.t) ∧ W.cell? ⟨w.heap.size, 2, none⟩ = some (.int .i64 r.k) ∧ W.cell? ⟨w.heap.size, 3, none⟩ = some (.string r.nm) ∧ W.cell? ⟨w.heap.size, 4, none⟩ = some (.string r.pt) ∧ W.cell? ⟨w.heap.size, 5, none⟩ = some (.slice a kn cap) ∧ W.cell? ⟨w.heap.size, 6, none⟩ = some (.int .i64 r.n) ∧ W.cell? ⟨b1, 0, none⟩ = some (.int .i64 r.c) ∧ W.cell? ⟨b1, 1, none⟩ = some (.int .i64 r.t) ∧ W.cell? ⟨b1, 2, none⟩ = some (.int .i64 r.k) ∧ W.cell? ⟨b1, 3, none⟩ = some (.string r.nm) ∧ W.cell? ⟨b1, 4, none⟩ = some (.string r.pt) ∧ W.cell? ⟨b1, 5, none⟩ = some (.slice a3 k3 c3) ∧ W.cell? ⟨b1, 6, none⟩ = some (.int .i64 r.n) ∧ W.cell? ⟨b7, 0, none⟩ = some (.int .i64 r2.c) ∧ W.cell? ⟨b7, 1, none⟩ = some (.int .i64 r2.t) ∧ W.cell? ⟨b7, 2, none⟩ = some (.int .i64 r2.k) ∧ W.cell? ⟨b7, 3, none⟩ = some (.string r2.nm) ∧ W.cell? ⟨b7, 4, none⟩ = some (.string r2.pt) ∧ W.cell? ⟨b7, 5, none⟩ = some (.slice ka7 kn7 kc7) ∧ W.cell? ⟨b7, 6, none⟩ = some (.int .i64 r2.n) ∧ W.cell? ⟨b9, 0, none⟩ = some (.int .i64 r2.c) ∧ W.cell? ⟨b9, 1, none⟩ = some (.int .i64 r2.t) ∧ W.cell? ⟨b9, 2, none⟩ = some (.int .i64 r2.k) ∧ W.cell? ⟨b9, 3, none⟩ = some (.string r2.nm) ∧ W.cell? ⟨b9, 4, none⟩ = some (.string r2.pt) ∧ W.cell? ⟨b9, 5, none⟩ = some (.slice ka9 kn9 kc9) ∧ W.cell? ⟨b9, 6, none⟩ = some (.int .i64 r2.n)) (first | assumption | exact HS.out _ (Below.refl _ _).drew | exact HS.out _ (Below.refl _ _))
                (first | (go_at_call 16; refine (HM.out _ _ _ (by first | exact .inl ⟨rfl, rfl⟩ | exact .inr ⟨rfl, rfl⟩) (by first | exact Below.refl _ _ | exact (Below.refl _ _).drew | (rename_i hS; exact hS.1) | exact hS10.1 | exact hS10.1.drew)).mono ?_; rintro e w10 ⟨rfl, hS10⟩))
              all_goals
                have HB11 : Hid (Below w9.heap.size w9 w10) := hS10.1
                clear hS10
                go_wp2
                go_ret
                exact ⟨rfl, HBW.out _ HB11.out⟩
end Go.Proofs.Ytanlanolblbckaa.Order
