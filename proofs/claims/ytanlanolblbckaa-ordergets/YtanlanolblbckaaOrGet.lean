/-
  The contract of Get.
-/
import Derived.Test.YtanlanolblbckaaOrReq
namespace Go.Proofs.Ytanlanolblbckaa.Order
open Go.RowKit Route

theorem reqOf_sizes (l : List UInt8) (m1 m2 m3 m4 m7 m8 : Nat) : (reqOf l m1 m2 m3 m4 m7 m8).1.nm.size ≤ 4096 ∧ (reqOf l m1 m2 m3 m4 m7 m8).1.pt.size ≤ 4096 ∧ (reqOf l m1 m2 m3 m4 m7 m8).2.1 ≤ l.length := by
  have pa := (num_le (l := l) (m := m1) (p := 0) (f := false) (Nat.zero_le _)).2
  have pb := (num_le (l := l) (m := m2) (f := (num l m1 0 false).2.2) pa).2
  have pc := (num_le (l := l) (m := m3) (f := (num l m2 (num l m1 0 false).2.1 (num l m1 0 false).2.2).2.2) pb).2
  unfold reqOf
  simp only
  generalize num l m3 (num l m2 (num l m1 0 false).2.1 (num l m1 0 false).2.2).2.1 (num l m2 (num l m1 0 false).2.1 (num l m1 0 false).2.2).2.2 = c at *
  have pd := (num_le (l := l) (m := m4) (f := c.2.2) pc).2
  generalize num l m4 c.2.1 c.2.2 = d at *
  have pe := tex_le (l := l) (m := 4096) (f := d.2.2) pd
  generalize tex l 4096 d.2.1 d.2.2 = e at *
  have pg := tex_le (l := l) (m := 4096) (f := e.2.2) pe.2
  generalize tex l 4096 e.2.1 e.2.2 = g at *
  have pj := (num_le (l := l) (m := m7) (f := g.2.2) pg.2).2
  generalize num l m7 g.2.1 g.2.2 = j at *
  exact ⟨pe.1, pg.1, (texs_le _ _ _ pj).1⟩

/-- What Get begins with: the result's box, and the reader's. -/
theorem get_start {w : World} {a : Option Addr} {n cap : Nat} {l : List UInt8} (hn : n = l.length) (hl : Lies w a l) (hlim : n ≤ 100000) (hnc : n ≤ cap) (hcm : cap ≤ maxLen) (T : TypeId) :
    Rd T ((w.alloc (.cells zero7 26)).alloc (.cells #[.slice a n cap, .int .i64 0, .bool false] T)) (w.heap.size + 1) a n cap l 0 false ∧
    ((w.alloc (.cells zero7 26)).alloc (.cells #[.slice a n cap, .int .i64 0, .bool false] T)).heap[w.heap.size]? = some (.cells zero7 26 (0, 0)) ∧
    Below w.heap.size w ((w.alloc (.cells zero7 26)).alloc (.cells #[.slice a n cap, .int .i64 0, .bool false] T)) ∧
    ((w.alloc (.cells zero7 26)).alloc (.cells #[.slice a n cap, .int .i64 0, .bool false] T)).heap.size = w.heap.size + 2 := by
  have hb1 : Below w.heap.size w (w.alloc (.cells zero7 26)) := (Below.refl _ _).alloc (Nat.le_refl _) _
  have hb2 : Below w.heap.size w ((w.alloc (.cells zero7 26)).alloc (.cells #[.slice a n cap, .int .i64 0, .bool false] T)) := hb1.alloc hb1.size _
  have hz : (w.alloc (.cells zero7 26)).heap.size = w.heap.size + 1 := by simp
  refine ⟨⟨?_, hn, hl.below hb2 (Nat.le_refl _), hlim, hnc, hcm, Nat.zero_le _, ?_⟩, (Below.heap_alloc _ _ _ (by rw [hz]; omega)).trans (heap_alloc_new w _), hb2, by simp⟩
  · rw [← hz]; exact heap_alloc_new _ _
  · rcases hl with h0 | ⟨x, rfl, hx⟩
    · exact .inl h0
    · cases l with
      | nil => exact .inl rfl
      | cons b r =>
        refine .inr fun y hy => ?_
        have hlt := World.block_lt_of_cell? w _ (hx 0 _ rfl)
        injection hy with hy
        subst hy
        have : (x.add 0).block = x.block := by unfold Addr.add; split <;> rfl
        omega

theorem lies_new {W W' : World} {a : Option Addr} {ks : List ByteArray} {B : Nat} (h : Route.Lies W a ks) (hn : ∀ y, a = some y → B ≤ y.block) (hk : ∀ g, B ≤ g → g < W.heap.size → W'.heap[g]? = W.heap[g]?) : Route.Lies W' a ks := by
  rcases h with h | ⟨x, rfl, h⟩
  · exact .inl h
  · refine .inr ⟨x, rfl, fun j hj => ?_⟩
    have hc := h j hj
    have hb : (x.add j).block = x.block := by unfold Addr.add; split <;> rfl
    have hlt := World.block_lt_of_cell? W _ hc
    rw [hb] at hlt
    rw [World.cell?_of_block (w := W) (by rw [hb]; exact hk _ (hn x rfl) hlt)]
    exact hc

set_option maxHeartbeats 2000000 in
set_option maxRecDepth 100000 in
theorem get_core {w : World} {a : Option Addr} {n cap : Nat} {l : List UInt8} (r : Rq) (x : Nat) (f : Bool) (hR : reqOf l 7 1000 9 100 16 64 = (r, x, f)) (hn : n = l.length) (hl : Lies w a l) (hlim : n ≤ 100000) (hnc : n ≤ cap) (hcm : cap ≤ maxLen) (Q : Ending → World → Prop)
    (hyes : f = false → n ≤ x → may r = true → ∀ ka kn kc w', KeysAt w' ka kn kc r.ks → (∀ y, ka = some y → w.heap.size ≤ y.block) → Below w.heap.size w w' → Q (.returned (.tuple #[.agg (rv r ka kn kc), .nilIface])) w')
    (hno : (f = false → n ≤ x → may r = false) → ∀ w', Below w.heap.size w w' → Q (.returned (.tuple #[.agg zero7, .iface 36 (.int .i64 2)])) w') :
    Calls Try.prog 14 #[.slice a n cap] w Q := by
  obtain ⟨h1, h2, h3, h4⟩ := get_start hn hl hlim hnc hcm 53
  have hsz := reqOf_sizes l 7 1000 9 100 16 64
  rw [hR] at hsz
  simp only at hsz
  have HC := req_call h1
  rw [hR] at HC
  have HC' : Hid (Calls _ _ _ _ _) := HC
  have H2 : Hid (_ = _) := h2
  have H3 : Hid (Below _ _ _) := h3
  have H4 : Hid (_ = _) := h4
  have hxn : x ≤ n := by rw [hn]; exact hsz.2.2
  have HS : Hid (r.nm.size ≤ 100000 ∧ r.pt.size ≤ 100000) := ⟨by have := hsz.1; show r.nm.size ≤ _; omega, by have := hsz.2.1; show r.pt.size ≤ _; omega⟩
  have HY : Hid (f = false → n ≤ x → may r = true → ∀ ka kn kc w', KeysAt w' ka kn kc r.ks → (∀ y, ka = some y → w.heap.size ≤ y.block) → Below w.heap.size w w' → Q (.returned (.tuple #[.agg (rv r ka kn kc), .nilIface])) w') := hyes
  have HN : Hid ((f = false → n ≤ x → may r = false) → ∀ w', Below w.heap.size w w' → Q (.returned (.tuple #[.agg zero7, .iface 36 (.int .i64 2)])) w') := hno
  obtain ⟨c, t, k, m, nm, pt, ks⟩ := r
  clear hR hn hl hcm hyes hno h1 h2 h3 h4 hsz HC hnc
  go_enter Try.func14, Try.ntmps14
  go_wp2_with fail
  refine HC'.out.mono ?_
  rintro e w2 ⟨ka, kn, kc, rfl, hh⟩
  obtain ⟨hrd, htn, hkk, hnew⟩ := hh.out
  clear HC' hh
  have hz2 : w.heap.size + 2 ≤ w2.heap.size := by have := htn.size; rw [H4.out] at this; exact this
  have hres : w2.heap[w.heap.size]? = some (.cells zero7 26 (0, 0)) := (htn.block w.heap.size (by rw [H4.out]; omega) (by omega)).trans H2.out
  have hb2 : Below w.heap.size w w2 := H3.out.trans (htn.below (Nat.le_succ _) H3.out.size)
  obtain ⟨W, hW⟩ : ∃ W, W = w2.alloc (.cells #[.int .i64 c, .int .i64 t, .int .i64 k, .string nm, .string pt, .slice ka kn kc, .int .i64 m] 26) := ⟨_, rfl⟩
  have hbW : Below w2.heap.size w2 W := by rw [hW]; exact (Below.refl _ _).alloc (Nat.le_refl _) _
  have HB : Hid (Below w.heap.size w W) := hb2.trans (hbW.mono (by omega))
  have HBX : Hid (W.heap[w2.heap.size]? = some (.cells #[.int .i64 c, .int .i64 t, .int .i64 k, .string nm, .string pt, .slice ka kn kc, .int .i64 m] 26 (0, 0))) := by rw [hW]; exact heap_alloc_new w2 _
  have HRS : Hid (W.heap[w.heap.size]? = some (.cells zero7 26 (0, 0))) := bcells hres hbW
  have HRD : Hid (Rd _ _ _ _ _ _ _ _ _) := hrd.below hbW
  have HKK : Hid (KeysAt W ka kn kc ks) := hkk.below hbW
  have HNW : Hid (∀ y, ka = some y → w.heap.size + 2 ≤ y.block) := fun y hy => by have h9 := hnew y hy; rw [H4.out] at h9; exact h9
  obtain ⟨c0, c1, c2, _, _, _⟩ := three hrd.box
  obtain ⟨⟨v0, v1, v2, v3, v4, v5, v6⟩, hv⟩ := seven' hres
  have q0 := hv 0
  have q1 := hv 1
  have q2 := hv 2
  have q3 := hv 3
  have q4 := hv 4
  have q5 := hv 5
  have q6 := hv 6
  have hz3 : w.heap.size < w2.heap.size := by omega
  have hz4 : w.heap.size + 1 < w2.heap.size := by omega
  have HRES : Hid (w2.heap[w.heap.size]? = some (.cells zero7 26 (0, 0))) := hres
  have HB2 : Hid (Below w.heap.size w w2) := hb2
  clear hrd htn hkk hres hb2 hnew H2 H3 H4 hv HRD
  subst hW
  cases f with
  | true =>
    have HQ : Hid (∀ w', Below w.heap.size w w' → Q (.returned (.tuple #[.agg zero7, .iface 36 (.int .i64 2)])) w') := HN.out fun h => by cases h
    clear HN HY
    go_wp2
    have hbox := put7_box HRES.out (.int .i64 0) (.int .i64 0) (.int .i64 0) (.string ⟨#[]⟩) (.string ⟨#[]⟩) (.slice none 0 0) (.int .i64 0)
    have htn := put7_tn w2 w.heap.size (.int .i64 0) (.int .i64 0) (.int .i64 0) (.string ⟨#[]⟩) (.string ⟨#[]⟩) (.slice none 0 0) (.int .i64 0)
    have hlt5 := (Array.getElem?_eq_some_iff.1 hbox).1
    have hbox6 := (Below.heap_alloc _ (.cells #[.int .i64 c, .int .i64 t, .int .i64 k, .string nm, .string pt, .slice ka kn kc, .int .i64 m] 26) _ hlt5).trans hbox
    have hb6 := (HB2.out.trans (htn.below (Nat.le_refl _) HB2.out.size)).alloc (Nat.le_of_lt hlt5) (.cells #[.int .i64 c, .int .i64 t, .int .i64 k, .string nm, .string pt, .slice ka kn kc, .int .i64 m] 26)
    generalize (((((((w2.setCell ⟨w.heap.size, 0, none⟩ (.int .i64 0)).setCell ⟨w.heap.size, 1, none⟩ (.int .i64 0)).setCell ⟨w.heap.size, 2, none⟩ (.int .i64 0)).setCell ⟨w.heap.size, 3, none⟩ (.string ⟨#[]⟩)).setCell ⟨w.heap.size, 4, none⟩ (.string ⟨#[]⟩)).setCell ⟨w.heap.size, 5, none⟩ (.slice none 0 0)).setCell ⟨w.heap.size, 6, none⟩ (.int .i64 0)).alloc (.cells #[.int .i64 c, .int .i64 t, .int .i64 k, .string nm, .string pt, .slice ka kn kc, .int .i64 m] 26) = W5 at hbox6 hb6 ⊢
    obtain ⟨g0, g1, g2, g3, g4, g5, g6⟩ := seven hbox6
    refine bodyPost_ret (v := .tuple #[.agg zero7, .iface 36 (.int .i64 2)]) (by simp [results, Try.results14, go_sem, g0, g1, g2, g3, g4, g5, g6]) rfl ?_
    exact HQ.out _ hb6
  | false =>
    by_cases hx2 : x < n
    · have HQ : Hid (∀ w', Below w.heap.size w w' → Q (.returned (.tuple #[.agg zero7, .iface 36 (.int .i64 2)])) w') := HN.out fun _ h => by omega
      clear HN HY
      go_wp2
      have hbox := put7_box HRES.out (.int .i64 0) (.int .i64 0) (.int .i64 0) (.string ⟨#[]⟩) (.string ⟨#[]⟩) (.slice none 0 0) (.int .i64 0)
      have htn := put7_tn w2 w.heap.size (.int .i64 0) (.int .i64 0) (.int .i64 0) (.string ⟨#[]⟩) (.string ⟨#[]⟩) (.slice none 0 0) (.int .i64 0)
      have hlt5 := (Array.getElem?_eq_some_iff.1 hbox).1
      have hbox6 := (Below.heap_alloc _ (.cells #[.int .i64 c, .int .i64 t, .int .i64 k, .string nm, .string pt, .slice ka kn kc, .int .i64 m] 26) _ hlt5).trans hbox
      have hb6 := (HB2.out.trans (htn.below (Nat.le_refl _) HB2.out.size)).alloc (Nat.le_of_lt hlt5) (.cells #[.int .i64 c, .int .i64 t, .int .i64 k, .string nm, .string pt, .slice ka kn kc, .int .i64 m] 26)
      generalize (((((((w2.setCell ⟨w.heap.size, 0, none⟩ (.int .i64 0)).setCell ⟨w.heap.size, 1, none⟩ (.int .i64 0)).setCell ⟨w.heap.size, 2, none⟩ (.int .i64 0)).setCell ⟨w.heap.size, 3, none⟩ (.string ⟨#[]⟩)).setCell ⟨w.heap.size, 4, none⟩ (.string ⟨#[]⟩)).setCell ⟨w.heap.size, 5, none⟩ (.slice none 0 0)).setCell ⟨w.heap.size, 6, none⟩ (.int .i64 0)).alloc (.cells #[.int .i64 c, .int .i64 t, .int .i64 k, .string nm, .string pt, .slice ka kn kc, .int .i64 m] 26) = W5 at hbox6 hb6 ⊢
      obtain ⟨g0, g1, g2, g3, g4, g5, g6⟩ := seven hbox6
      refine bodyPost_ret (v := .tuple #[.agg zero7, .iface 36 (.int .i64 2)]) (by simp [results, Try.results14, go_sem, g0, g1, g2, g3, g4, g5, g6]) rfl ?_
      exact HQ.out _ hb6
    · have hx3 : n ≤ x := by omega
      have HM : Hid (Calls _ _ _ _ _) := mayBe_any ⟨c, t, k, m, nm, pt, ks⟩ ka kn kc _ HS.out.1 HS.out.2 HKK.out
      cases hm : may ⟨c, t, k, m, nm, pt, ks⟩ with
      | false =>
        have HQ : Hid (∀ w', Below w.heap.size w w' → Q (.returned (.tuple #[.agg zero7, .iface 36 (.int .i64 2)])) w') := HN.out fun _ _ => hm
        clear HN HY
        rw [hm] at HM
        go_wp2_with fail
        refine HM.out.mono ?_
        rintro e w3 ⟨rfl, hb3⟩
        have HRS3 := bcells HRS.out hb3
        have HB3 : Below w.heap.size w w3 := HB.out.trans (hb3.mono HB.out.size)
        clear HRS HB v0 v1 v2 v3 v4 v5 v6 q0 q1 q2 q3 q4 q5 q6
        have HRS : Hid (w3.heap[w.heap.size]? = some (.cells zero7 26 (0, 0))) := HRS3
        have HB : Hid (Below w.heap.size w w3) := HB3
        obtain ⟨⟨v0, v1, v2, v3, v4, v5, v6⟩, hv⟩ := seven' HRS3
        have q0 := hv 0
        have q1 := hv 1
        have q2 := hv 2
        have q3 := hv 3
        have q4 := hv 4
        have q5 := hv 5
        have q6 := hv 6
        clear HRS3 HB3 hv
        go_wp2
        have hbox := put7_box HRS.out (.int .i64 0) (.int .i64 0) (.int .i64 0) (.string ⟨#[]⟩) (.string ⟨#[]⟩) (.slice none 0 0) (.int .i64 0)
        have htn := put7_tn w3 w.heap.size (.int .i64 0) (.int .i64 0) (.int .i64 0) (.string ⟨#[]⟩) (.string ⟨#[]⟩) (.slice none 0 0) (.int .i64 0)
        generalize (((((((w3.setCell ⟨w.heap.size, 0, none⟩ (.int .i64 0)).setCell ⟨w.heap.size, 1, none⟩ (.int .i64 0)).setCell ⟨w.heap.size, 2, none⟩ (.int .i64 0)).setCell ⟨w.heap.size, 3, none⟩ (.string ⟨#[]⟩)).setCell ⟨w.heap.size, 4, none⟩ (.string ⟨#[]⟩)).setCell ⟨w.heap.size, 5, none⟩ (.slice none 0 0)).setCell ⟨w.heap.size, 6, none⟩ (.int .i64 0)) = W5 at hbox htn ⊢
        obtain ⟨g0, g1, g2, g3, g4, g5, g6⟩ := seven hbox
        refine bodyPost_ret (v := .tuple #[.agg zero7, .iface 36 (.int .i64 2)]) (by simp [results, Try.results14, go_sem, g0, g1, g2, g3, g4, g5, g6]) rfl ?_
        exact HQ.out _ (HB.out.trans (htn.below (Nat.le_refl _) HB.out.size))
      | true =>
        have HQ : Hid (∀ ka kn kc w', KeysAt w' ka kn kc ks → (∀ y, ka = some y → w.heap.size ≤ y.block) → Below w.heap.size w w' → Q (.returned (.tuple #[.agg #[.int .i64 c, .int .i64 t, .int .i64 k, .string nm, .string pt, .slice ka kn kc, .int .i64 m], .nilIface])) w') := HY.out rfl hx3 hm
        clear HN HY
        rw [hm] at HM
        go_wp2_with fail
        refine HM.out.mono ?_
        rintro e w3 ⟨rfl, hb3⟩
        have HRS3 := bcells HRS.out hb3
        have HBX3 := bcells HBX.out hb3
        have HB3 : Below w.heap.size w w3 := HB.out.trans (hb3.mono HB.out.size)
        have HKK3 : Hid (KeysAt w3 ka kn kc ks) := HKK.out.below hb3
        clear HRS HB v0 v1 v2 v3 v4 v5 v6 q0 q1 q2 q3 q4 q5 q6
        have HRS : Hid (w3.heap[w.heap.size]? = some (.cells zero7 26 (0, 0))) := HRS3
        have HB : Hid (Below w.heap.size w w3) := HB3
        obtain ⟨⟨v0, v1, v2, v3, v4, v5, v6⟩, hv⟩ := seven' HRS3
        obtain ⟨y0, y1, y2, y3, y4, y5, y6⟩ := seven HBX3
        have q0 := hv 0
        have q1 := hv 1
        have q2 := hv 2
        have q3 := hv 3
        have q4 := hv 4
        have q5 := hv 5
        have q6 := hv 6
        clear HRS3 HB3 hv HBX3
        go_wp2
        have hbox := put7_box HRS.out (.int .i64 c) (.int .i64 t) (.int .i64 k) (.string nm) (.string pt) (.slice ka kn kc) (.int .i64 m)
        have htn := put7_tn w3 w.heap.size (.int .i64 c) (.int .i64 t) (.int .i64 k) (.string nm) (.string pt) (.slice ka kn kc) (.int .i64 m)
        generalize (((((((w3.setCell ⟨w.heap.size, 0, none⟩ (.int .i64 c)).setCell ⟨w.heap.size, 1, none⟩ (.int .i64 t)).setCell ⟨w.heap.size, 2, none⟩ (.int .i64 k)).setCell ⟨w.heap.size, 3, none⟩ (.string nm)).setCell ⟨w.heap.size, 4, none⟩ (.string pt)).setCell ⟨w.heap.size, 5, none⟩ (.slice ka kn kc)).setCell ⟨w.heap.size, 6, none⟩ (.int .i64 m)) = W5 at hbox htn ⊢
        obtain ⟨g0, g1, g2, g3, g4, g5, g6⟩ := seven hbox
        refine bodyPost_ret (v := .tuple #[.agg #[.int .i64 c, .int .i64 t, .int .i64 k, .string nm, .string pt, .slice ka kn kc, .int .i64 m], .nilIface]) (by simp [results, Try.results14, go_sem, g0, g1, g2, g3, g4, g5, g6]) rfl ?_
        refine HQ.out ka kn kc _ ?_ (fun y hy => Nat.le_trans (Nat.le_add_right _ 2) (HNW.out y hy)) (HB.out.trans (htn.below (Nat.le_refl _) HB.out.size))
        have hK := HKK3.out
        exact ⟨hK.len, lies_new hK.lies HNW.out fun g h1 h2 => htn.block g h2 (by omega), hK.most, hK.nm⟩

/-- The bytes of a request that may be. -/
theorem get_ok {w : World} {a : Option Addr} {n cap : Nat} {l : List UInt8} (r : Rq) (hm : may r = true) (he : l = enc r) (hn : n = l.length) (hl : Lies w a l) (hlim : n ≤ 100000) (hnc : n ≤ cap) (hcm : cap ≤ maxLen) :
    Calls Try.prog 14 #[.slice a n cap] w fun e w' => ∃ ka kn kc, e = .returned (.tuple #[.agg (rv r ka kn kc), .nilIface]) ∧ Hid (KeysAt w' ka kn kc r.ks ∧ (∀ y, ka = some y → w.heap.size ≤ y.block) ∧ Below w.heap.size w w') := by
  have hR := reqOf_read (l := l) (rest := []) (fits_prog hm) (by rw [he, List.append_nil])
  refine get_core r (enc r).length false hR hn hl hlim hnc hcm _ (fun _ _ _ ka kn kc w' h1 h2 h3 => ⟨ka, kn, kc, rfl, h1, h2, h3⟩) fun h => ?_
  have := h rfl (by rw [hn, he]; exact Nat.le_refl _)
  rw [hm] at this; cases this
/-- Others. -/
theorem get_no {w : World} {a : Option Addr} {n cap : Nat} {l : List UInt8} (hno : ¬ IsReq l) (hn : n = l.length) (hl : Lies w a l) (hlim : n ≤ 100000) (hnc : n ≤ cap) (hcm : cap ≤ maxLen) :
    Calls Try.prog 14 #[.slice a n cap] w fun e w' => e = .returned (.tuple #[.agg zero7, .iface 36 (.int .i64 2)]) ∧ Below w.heap.size w w' := by
  refine get_core (reqOf l 7 1000 9 100 16 64).1 (reqOf l 7 1000 9 100 16 64).2.1 (reqOf l 7 1000 9 100 16 64).2.2 rfl hn hl hlim hnc hcm _ (fun h1 h2 h3 => ?_) fun _ w' hb => ⟨rfl, hb⟩
  exact absurd ⟨_, h3, told_is h1 (by rw [← hn]; exact h2)⟩ hno
end Go.Proofs.Ytanlanolblbckaa.Order
