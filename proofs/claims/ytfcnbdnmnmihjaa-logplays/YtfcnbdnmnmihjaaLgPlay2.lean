/-
  What LogPlays needs of memory, on: one record more in the law's own row, in whatever order its parts are made; deeds; what the law's last test asks.
-/
import Derived.Test.YtfcnbdnmnmihjaaLgPlay1
namespace Go.Proofs.Ytfcnbdnmnmihjaa
open Go.RowKit

theorem copy_first {Lr : Nat → Prop} {w wX : World} {v0 : Value} {ar : Option Addr} {kr cr : Nat} {rs : List (List UInt8)} (hX : Below w.heap.size w wX) (h0 : Rws (fun k => w.heap.size ≤ k) wX v0 []) (hk : Hid (kr = rs.length)) (hs : SRows Lr w ar rs) (hL : ∀ k, Lr k → k < w.heap.size) (hnil : ar = none → kr = 0 ∧ cr = 0) (hlen : kr ≤ 1000000000) :
    ∃ a1 k1 c1 w1, (Builtin.append_ #[32, 32] 32 #[v0, .slice ar kr cr]).run Try.prog wX = .ok (.slice a1 k1 c1) w1 ∧ Rws (fun k => Lr k ∨ w.heap.size ≤ k) w1 (.slice a1 k1 c1) rs ∧ wX.grownBy w1 v0.ownBlock ∧ ((Value.slice a1 k1 c1).ownBlock = v0.ownBlock ∨ (Value.slice a1 k1 c1).ownBlock = some wX.heap.size) ∧ Below w.heap.size w w1 ∧ ∀ g, (Value.slice a1 k1 c1).ownBlock = some g → w.heap.size ≤ g := by
  have hv0 : ∀ g, v0.ownBlock = some g → w.heap.size ≤ g := by obtain ⟨us, _, h2, _⟩ := h0; exact h2
  obtain ⟨v1, w1, hrun, h1, g1, t1⟩ := run_rows (ty := 32) (L := fun k => Lr k ∨ w.heap.size ≤ k) (L2 := Lr) (c := cr) (h0.mono fun k hk => .inr hk) hk (hs.below hX (Nat.le_refl _)) (fun k hk => ⟨.inl hk, fun e => by have := hv0 k e; have := hL k hk; omega⟩) hnil (by simp; omega)
  have hsz := hX.size
  have h1' : Rws (fun k => Lr k ∨ w.heap.size ≤ k) w1 v1 rs := by rw [List.nil_append] at h1; exact h1.mono fun k hk => by rcases hk with hk | hk; exact hk; exact .inr (by omega)
  obtain ⟨a1, k1, c1, rfl, _⟩ := h1'.form
  refine ⟨a1, k1, c1, w1, hrun, h1', g1, t1, hX.grown g1 hX.size hv0, fun g hg => ?_⟩
  rcases t1 with e | e
  · exact hv0 g (by rw [← e]; exact hg)
  · rw [e] at hg; simp only [Option.some.injEq] at hg; omega

theorem copy_second {Lr Ku : Nat → Prop} {w wY : World} {a1 : Option Addr} {k1 c1 gu : Nat} {rs : List (List UInt8)} {u : Value} {b : List UInt8} (hY : Below w.heap.size w wY) (h1 : Rws (fun k => Lr k ∨ w.heap.size ≤ k) wY (.slice a1 k1 c1) rs) (ho : ∀ g, (Value.slice a1 k1 c1).ownBlock = some g → w.heap.size ≤ g ∧ g ≠ gu) (hgu : w.heap.size ≤ gu) (hc : wY.cell? ⟨gu, 0, none⟩ = some u) (hu : Slc Ku w u b) (hK : ∀ k, Ku k → k < w.heap.size) (hlen : rs.length ≤ 1000000000) :
    ∃ a2 k2 c2 w2, (Builtin.append_ #[32, 32] 32 #[.slice a1 k1 c1, .slice (some ⟨gu, 0, none⟩) 1 1]).run Try.prog wY = .ok (.slice a2 k2 c2) w2 ∧ Hid (Below w.heap.size w w2) ∧ Hid (Rws (fun k => (Lr k ∨ Ku k) ∨ w.heap.size ≤ k) w2 (.slice a2 k2 c2) (rs ++ [b])) := by
  have hs : SRows (fun k => Ku k ∨ k = gu) wY (some ⟨gu, 0, none⟩) [b] := by
    refine .inr ⟨_, rfl, .inr rfl, fun j hj => ?_⟩
    simp only [List.length_singleton] at hj
    obtain rfl : j = 0 := by omega
    exact ⟨u, by rw [Go.WideShapes.add_plain]; exact hc, (hu.below hY (Nat.le_refl _)).mono fun k hk => .inl hk⟩
  obtain ⟨v2, w2, hrun, h2, g2, _⟩ := run_rows (ty := 32) (L := fun k => (Lr k ∨ Ku k) ∨ w.heap.size ≤ k) (L2 := fun k => Ku k ∨ k = gu) (c := 1) (k := 1) (rs2 := [b]) (h1.mono fun k hk => hk.imp .inl id) rfl hs (fun k hk => by
    rcases hk with hk | hk
    · exact ⟨.inl (.inr hk), fun e => by have := (ho k e).1; have := hK k hk; omega⟩
    · subst hk; exact ⟨.inr hgu, fun e => (ho k e).2 rfl⟩) (fun h => by cases h) (by omega)
  obtain ⟨a2, k2, c2, rfl, _⟩ := h2.form
  have hsz := hY.size
  exact ⟨a2, k2, c2, w2, hrun, hY.grown g2 hY.size (fun g hg => (ho g hg).1), h2.mono fun k hk => by rcases hk with hk | hk; exact hk; exact .inr (by omega)⟩

/-- 'append(append([][]byte{}, rows...), b)', in the text's order. -/
theorem copyA {Lr Ku : Nat → Prop} {w : World} {ar : Option Addr} {kr cr : Nat} {rs : List (List UInt8)} {u : Value} {b : List UInt8} (hk : Hid (kr = rs.length)) (hs : SRows Lr w ar rs) (hL : ∀ k, Lr k → k < w.heap.size) (hnil : ar = none → kr = 0 ∧ cr = 0) (hlen : kr ≤ 1000000000) (hu : Slc Ku w u b) (hK : ∀ k, Ku k → k < w.heap.size) :
    ∃ a1 k1 c1 w1, (Builtin.append_ #[32, 32] 32 #[.slice (some ⟨w.heap.size, 0, none⟩) 0 0, .slice ar kr cr]).run Try.prog (w.alloc (.cells #[] 31)) = .ok (.slice a1 k1 c1) w1 ∧ Hid (Below w.heap.size w w1) ∧ Hid (∃ a2 k2 c2 w2, (Builtin.append_ #[32, 32] 32 #[.slice a1 k1 c1, .slice (some ⟨w1.heap.size, 0, none⟩) 1 1]).run Try.prog (w1.alloc (.cells #[u] 31)) = .ok (.slice a2 k2 c2) w2 ∧ Hid (Below w.heap.size w w2) ∧ Hid (Rws (fun k => (Lr k ∨ Ku k) ∨ w.heap.size ≤ k) w2 (.slice a2 k2 c2) (rs ++ [b]))) := by
  have hba : Below w.heap.size w (w.alloc (.cells #[] 31)) := (Below.refl _ _).alloc (Nat.le_refl _) _
  obtain ⟨a1, k1, c1, w1, hrun, h1, g1, t1, hb1, ho⟩ := copy_first (wX := w.alloc (.cells #[] 31)) hba (Rws.fresh w) hk hs hL hnil hlen
  have hlt := h1.lt
  have hb1' : Below w1.heap.size w1 (w1.alloc (.cells #[u] 31)) := (Below.refl _ _).alloc (Nat.le_refl _) _
  refine ⟨a1, k1, c1, w1, hrun, hb1, copy_second (hb1.alloc hb1.size _) (h1.below hb1' (Nat.le_refl _)) (fun g hg => ⟨ho g hg, by have := hlt g hg; omega⟩) hb1.size ?_ hu hK (by rw [← hk.out]; exact hlen)⟩
  rw [cell_of_row _ w1.heap.size 0 _ 31 (0, 0) (heap_alloc_new w1 _)]; rfl

theorem copyB {Lr Ku : Nat → Prop} {w : World} {ar : Option Addr} {kr cr : Nat} {rs : List (List UInt8)} {u : Value} {b : List UInt8} (hk : Hid (kr = rs.length)) (hs : SRows Lr w ar rs) (hL : ∀ k, Lr k → k < w.heap.size) (hnil : ar = none → kr = 0 ∧ cr = 0) (hlen : kr ≤ 1000000000) (hu : Slc Ku w u b) (hK : ∀ k, Ku k → k < w.heap.size) :
    ∃ a1 k1 c1 w1, (Builtin.append_ #[32, 32] 32 #[.slice (some ⟨w.heap.size, 0, none⟩) 0 0, .slice ar kr cr]).run Try.prog ((w.alloc (.cells #[] 31)).alloc (.cells #[u] 31)) = .ok (.slice a1 k1 c1) w1 ∧ Hid (Below w.heap.size w w1) ∧ Hid (∃ a2 k2 c2 w2, (Builtin.append_ #[32, 32] 32 #[.slice a1 k1 c1, .slice (some ⟨w.heap.size + 1, 0, none⟩) 1 1]).run Try.prog w1 = .ok (.slice a2 k2 c2) w2 ∧ Hid (Below w.heap.size w w2) ∧ Hid (Rws (fun k => (Lr k ∨ Ku k) ∨ w.heap.size ≤ k) w2 (.slice a2 k2 c2) (rs ++ [b]))) := by
  have hba : Below w.heap.size w (w.alloc (.cells #[] 31)) := (Below.refl _ _).alloc (Nat.le_refl _) _
  have hbb : Below w.heap.size w ((w.alloc (.cells #[] 31)).alloc (.cells #[u] 31)) := hba.alloc hba.size _
  have hsz : (w.alloc (.cells #[] 31)).heap.size = w.heap.size + 1 := by simp
  have hsz2 : ((w.alloc (.cells #[] 31)).alloc (.cells #[u] 31)).heap.size = w.heap.size + 2 := by simp
  obtain ⟨a1, k1, c1, w1, hrun, h1, g1, t1, hb1, ho⟩ := copy_first (wX := (w.alloc (.cells #[] 31)).alloc (.cells #[u] 31)) hbb ((Rws.fresh w).below ((Below.refl _ _).alloc (Nat.le_refl _) _) (Nat.le_refl _)) hk hs hL hnil hlen
  refine ⟨a1, k1, c1, w1, hrun, hb1, copy_second hb1 h1 (fun g hg => ⟨ho g hg, ?_⟩) (by omega) ?_ hu hK (by rw [← hk.out]; exact hlen)⟩
  · rcases t1 with e | e
    · rw [e] at hg; simp [Value.ownBlock] at hg; omega
    · rw [e, hsz2] at hg; simp only [Option.some.injEq] at hg; omega
  · have hblk : w1.heap[w.heap.size + 1]? = ((w.alloc (.cells #[] 31)).alloc (.cells #[u] 31)).heap[w.heap.size + 1]? := g1.block _ (by omega) (by simp [Value.ownBlock])
    have hn := heap_alloc_new (w.alloc (.cells #[] 31)) (.cells #[u] 31)
    rw [hsz] at hn
    rw [hn] at hblk
    rw [cell_of_row _ (w.heap.size + 1) 0 _ 31 (0, 0) hblk]; rfl

theorem copyC {Lr Ku : Nat → Prop} {w : World} {ar : Option Addr} {kr cr : Nat} {rs : List (List UInt8)} {u : Value} {b : List UInt8} (hk : Hid (kr = rs.length)) (hs : SRows Lr w ar rs) (hL : ∀ k, Lr k → k < w.heap.size) (hnil : ar = none → kr = 0 ∧ cr = 0) (hlen : kr ≤ 1000000000) (hu : Slc Ku w u b) (hK : ∀ k, Ku k → k < w.heap.size) :
    ∃ a1 k1 c1 w1, (Builtin.append_ #[32, 32] 32 #[.slice (some ⟨w.heap.size + 1, 0, none⟩) 0 0, .slice ar kr cr]).run Try.prog ((w.alloc (.cells #[u] 31)).alloc (.cells #[] 31)) = .ok (.slice a1 k1 c1) w1 ∧ Hid (Below w.heap.size w w1) ∧ Hid (∃ a2 k2 c2 w2, (Builtin.append_ #[32, 32] 32 #[.slice a1 k1 c1, .slice (some ⟨w.heap.size, 0, none⟩) 1 1]).run Try.prog w1 = .ok (.slice a2 k2 c2) w2 ∧ Hid (Below w.heap.size w w2) ∧ Hid (Rws (fun k => (Lr k ∨ Ku k) ∨ w.heap.size ≤ k) w2 (.slice a2 k2 c2) (rs ++ [b]))) := by
  have hba : Below w.heap.size w (w.alloc (.cells #[u] 31)) := (Below.refl _ _).alloc (Nat.le_refl _) _
  have hbb : Below w.heap.size w ((w.alloc (.cells #[u] 31)).alloc (.cells #[] 31)) := hba.alloc hba.size _
  have hsz : (w.alloc (.cells #[u] 31)).heap.size = w.heap.size + 1 := by simp
  have hsz2 : ((w.alloc (.cells #[u] 31)).alloc (.cells #[] 31)).heap.size = w.heap.size + 2 := by simp
  have hf := Rws.fresh (w.alloc (.cells #[u] 31))
  rw [hsz] at hf
  obtain ⟨a1, k1, c1, w1, hrun, h1, g1, t1, hb1, ho⟩ := copy_first (wX := (w.alloc (.cells #[u] 31)).alloc (.cells #[] 31)) hbb (hf.mono fun k hk => by omega) hk hs hL hnil hlen
  refine ⟨a1, k1, c1, w1, hrun, hb1, copy_second hb1 h1 (fun g hg => ⟨ho g hg, ?_⟩) (Nat.le_refl _) ?_ hu hK (by rw [← hk.out]; exact hlen)⟩
  · rcases t1 with e | e
    · rw [e] at hg; simp [Value.ownBlock] at hg; omega
    · rw [e, hsz2] at hg; simp only [Option.some.injEq] at hg; omega
  · have hblk : w1.heap[w.heap.size]? = (w.alloc (.cells #[u] 31)).heap[w.heap.size]? := (g1.block _ (by omega) (by simp [Value.ownBlock])).trans (Below.heap_alloc _ _ _ (by omega))
    rw [heap_alloc_new w _] at hblk
    rw [cell_of_row _ w.heap.size 0 _ 31 (0, 0) hblk]; rfl

/-- At the address a deed lies. -/
def DeedAt (w : World) (p : Addr) : Prop :=
  ∃ (c n : Int) (a : Option Addr) (k cap : Nat) (l : List UInt8), w.cell? p = some (.int .i64 c) ∧ w.cell? ⟨p.block, p.off + 1, none⟩ = some (.int .i64 n) ∧ w.cell? ⟨p.block, p.off + 2, none⟩ = some (.slice a k cap) ∧
    (-9223372036854775808 ≤ c ∧ c ≤ 9223372036854775807) ∧ (-9223372036854775808 ≤ n ∧ n ≤ 9223372036854775807) ∧ Slc (fun k => k < w.heap.size) w (.slice a k cap) l

/-- At the address n deeds lie. -/
def DeedsIn (w : World) (a : Option Addr) (n : Nat) : Prop := n = 0 ∨ ∃ x, a = some x ∧ ∀ j, j < n → DeedAt w (x.add (j * 3))

theorem cell_below {B : Nat} {w w' : World} {x : Addr} {v : Value} (hb : Below B w w') (hB : w.heap.size ≤ B) (h : w.cell? x = some v) : w'.cell? x = some v := by
  rw [hb.cell (by have := World.block_lt_of_cell? w _ h; omega)]; exact h

set_option maxRecDepth 100000 in
theorem index_deed (x : Addr) (n cap i : Nat) (hi : i < n) (w : World) : (Instr.indexAt 22 (.slice (some x) n cap) (.int .i64 (i : Int))).run Try.prog w = .ok (.pointer (some (x.add (i * 3)))) w := by
  rw [run_indexAt_slice w 22 x n cap .i64 i (by kernel_rfl), if_pos (by omega)]
  rfl
theorem size34 (w : World) : (sizeOf 34).run Try.prog w = .ok 3 w := by kernel_rfl
theorem agg34 (w : World) : (isAgg 34).run Try.prog w = .ok true w := by kernel_rfl

set_option maxHeartbeats 400000 in
theorem code_state (w : World) : Calls Try.prog 13 #[.iface 50 (.int .i64 6)] w fun e w' => e = .returned (.int .i64 6) ∧ w = w' := by
  have q0 : ∀ W, (binOp .eql 28 (.iface 50 (.int .i64 6)) .nilIface).run Try.prog W = .ok (.bool false) W := fun W => by kernel_rfl
  have q1 : ∀ W, (binOp .eql 28 (.iface 50 (.int .i64 6)) (.iface 50 (.int .i64 1))).run Try.prog W = .ok (.bool false) W := fun W => by kernel_rfl
  have q2 : ∀ W, (binOp .eql 28 (.iface 50 (.int .i64 6)) (.iface 50 (.int .i64 2))).run Try.prog W = .ok (.bool false) W := fun W => by kernel_rfl
  have q3 : ∀ W, (binOp .eql 28 (.iface 50 (.int .i64 6)) (.iface 50 (.int .i64 3))).run Try.prog W = .ok (.bool false) W := fun W => by kernel_rfl
  have q4 : ∀ W, (binOp .eql 28 (.iface 50 (.int .i64 6)) (.iface 50 (.int .i64 4))).run Try.prog W = .ok (.bool false) W := fun W => by kernel_rfl
  have q5 : ∀ W, (binOp .eql 28 (.iface 50 (.int .i64 6)) (.iface 50 (.int .i64 5))).run Try.prog W = .ok (.bool false) W := fun W => by kernel_rfl
  have q6 : ∀ W, (binOp .eql 28 (.iface 50 (.int .i64 6)) (.iface 50 (.int .i64 6))).run Try.prog W = .ok (.bool true) W := fun W => by kernel_rfl
  go_enter Try.func13, Try.ntmps13
  go_wp2
  refine wp_loop_rounds 6 ?_
  iterate 6 (rw [rounds_succ]; go_wp2)
  go_ret
  exact ⟨rfl, rfl⟩

/-- What the law's last test asks. -/
theorem Px.tail {W0 w : World} {tp lg : Nat} {l : List UInt8} {rs : List (List UInt8)} {torn : Bool} {ab ar : Option Addr} {kb cb kr cr : Nat} (h : Px W0 w tp lg l rs torn (DB (.slice ab kb cb) l (.slice ar kr cr) rs)) (hg : ∀ b ∈ rs, Good b) (hn : rs.length ≤ 1048576) :
    ∃ T : ByteArray, (convert 31 9 (.slice ab kb cb)).run Try.prog w.drew = .ok (.string T) w.drew ∧
      Hid (∀ W, (Below w.heap.size w W ∧ (convert 31 9 (.slice ab kb cb)).run Try.prog W = .ok (.string T) W) → Calls Try.prog 17 #[.pointer (some ⟨lg, 0, none⟩)] W fun e w' => ∃ a k cap, e = .returned (.slice a k cap) ∧ Hid (k = rs.length ∧ SRows (fun _ => True) w' a rs) ∧ (Below w.heap.size w w' ∧ (convert 31 9 (.slice ab kb cb)).run Try.prog w' = .ok (.string T) w')) ∧
      Hid (∀ W a k cap, (Below w.heap.size w W ∧ (convert 31 9 (.slice ab kb cb)).run Try.prog W = .ok (.string T) W) → (k = rs.length ∧ SRows (fun _ => True) W a rs) → Calls Try.prog 16 #[.slice a k cap, .slice ar kr cr] W fun e w' => e = .returned (.bool true) ∧ (Below w.heap.size w w' ∧ (convert 31 9 (.slice ab kb cb)).run Try.prog w' = .ok (.string T) w')) ∧
      Hid (∀ W, (Below w.heap.size w W ∧ (convert 31 9 (.slice ab kb cb)).run Try.prog W = .ok (.string T) W) → Calls Try.prog 18 #[.pointer (some ⟨tp, 0, none⟩)] W fun e w' => ∃ a k cap, e = .returned (.slice a k cap) ∧ (convert 31 9 (.slice a k cap)).run Try.prog w' = .ok (.string T) w' ∧ (Below w.heap.size w w' ∧ (convert 31 9 (.slice ab kb cb)).run Try.prog w' = .ok (.string T) w')) ∧
      Hid (∀ W, (Below w.heap.size w W ∧ (convert 31 9 (.slice ab kb cb)).run Try.prog W = .ok (.string T) W) → Calls Try.prog 19 #[.pointer (some ⟨tp, 0, none⟩)] W fun e w' => e = .returned (.int .i64 (kb : Int)) ∧ w' = W) := by
  have hgl : ∀ b ∈ rs, b.length ≤ 65536 := fun b hb => (hg b hb).2
  obtain ⟨r, rv, hs, hb0, hr0⟩ := h
  obtain ⟨a', k', cap', hv, hkb, _, _, _, _, _⟩ := id hb0
  simp only [Value.slice.injEq] at hv
  obtain ⟨rfl, rfl, rfl⟩ := hv
  obtain ⟨a', k', cap', hv, hkr, _, _, _, _⟩ := hr0.form
  simp only [Value.slice.injEq] at hv
  obtain ⟨rfl, rfl, rfl⟩ := hv
  have hcv : ∀ W, Below w.heap.size w W → (convert 31 9 (.slice ab kb cb)).run Try.prog W = .ok (.string ⟨l.toArray⟩) W := fun W hW => by
    obtain ⟨a', k', cap', hv, _, _, _, hl, _⟩ := hb0.below hW (Nat.le_refl _)
    simp only [Value.slice.injEq] at hv
    obtain ⟨rfl, rfl, rfl⟩ := hv
    exact conv_named hl hkb.out rfl
  refine ⟨⟨l.toArray⟩, hcv _ (Below.refl _ _).drew, ?_, ?_, ?_, ?_⟩
  · rintro W ⟨hW, _⟩
    refine (records_old ((hs.later hW).old hn hgl)).mono ?_
    rintro e w' ⟨a, k, cap, rfl, hk, hs', hb, _⟩
    have hbw : Below w.heap.size w w' := hW.trans (hb.mono hW.size)
    exact ⟨a, k, cap, rfl, ⟨hk.out, hs'.out⟩, hbw, hcv _ hbw⟩
  · rintro W a k cap ⟨hW, _⟩ ⟨hk, hsr⟩
    obtain ⟨a', k', cap', hv, _, _, _, hs2, _⟩ := (hr0.below hW (Nat.le_refl _)).form
    simp only [Value.slice.injEq] at hv
    obtain ⟨rfl, rfl, rfl⟩ := hv
    refine (same_two hk hkr hsr (hs2.mono fun _ _ => trivial) hn).mono ?_
    rintro e w' ⟨rfl, hb⟩
    have hbw : Below w.heap.size w w' := hW.trans (hb.mono hW.size)
    exact ⟨rfl, hbw, hcv _ hbw⟩
  · rintro W ⟨hW, _⟩
    refine (bytes_st (hs.1.later hW)).mono ?_
    rintro e w' ⟨a, k, cap, rfl, _, _, hb, _, hc⟩
    have hbw : Below w.heap.size w w' := hW.trans (hb.mono hW.size)
    exact ⟨a, k, cap, rfl, hc, hbw, hcv _ hbw⟩
  · rintro W ⟨hW, _⟩
    have := synced_any (hs.1.later hW).1
    rw [hkb.out]
    exact this
end Go.Proofs.Ytfcnbdnmnmihjaa
