/-
  What LogPlays does in a round, step by step: the deed's record, the law's own bytes and records, a tape scanned.
-/
import Derived.Test.YtfcnbdnmnmihjaaLgPlay2
namespace Go.Proofs.Ytfcnbdnmnmihjaa
open Go.RowKit

theorem slc_form {O : Nat → Prop} {w : World} {a : Option Addr} {k cap : Nat} {l : List UInt8} (h : Slc O w (.slice a k cap) l) : Hid (k = l.length) ∧ k ≤ cap ∧ cap ≤ maxLen ∧ Lies w a l ∧ (a = none → k = 0 ∧ cap = 0) ∧ ∀ x, a = some x → l = [] ∨ O x.block := by
  obtain ⟨a', k', cap', hv, h'⟩ := h
  simp only [Value.slice.injEq] at hv
  obtain ⟨rfl, rfl, rfl⟩ := hv
  exact h'
theorem rws_form {O : Nat → Prop} {w : World} {a : Option Addr} {k cap : Nat} {rs : List (List UInt8)} (h : Rws O w (.slice a k cap) rs) : Hid (k = rs.length) ∧ k ≤ cap ∧ cap ≤ maxLen ∧ SRows O w a rs ∧ (a = none → k = 0 ∧ cap = 0) := by
  obtain ⟨a', k', cap', hv, h'⟩ := h.form
  simp only [Value.slice.injEq] at hv
  obtain ⟨rfl, rfl, rfl⟩ := hv
  exact h'

/-- 'rec := append(Num(uint64(len(d.B))), d.B...)'. -/
theorem px_rec {W0 w : World} {tp lg bx da_k dc : Nat} {l dl : List UInt8} {rs rs0 : List (List UInt8)} {torn : Bool} {vb vr : Value} {lb : List UInt8} {c m : Int} {da : Option Addr} (h : Px W0 w tp lg l rs torn (DX vb lb vr rs0 bx c m (.slice da da_k dc))) (hu : Slc (fun k => k < W0.heap.size) w (.slice da da_k dc) dl) (hdk : da_k ≤ 70000) :
    Hid (∀ W, (Below w.heap.size w W ∧ W.cell? ⟨bx, 2, none⟩ = some (.slice da da_k dc)) → Calls Try.prog 11 #[.int .u64 (da_k : Int)] W fun e w' => ∃ a4 k4 c4, e = .returned (.slice a4 k4 c4) ∧ (Below w.heap.size w w' ∧ w'.cell? ⟨bx, 2, none⟩ = some (.slice da da_k dc)) ∧
      Hid (∃ a5 k5 c5 w5, (Builtin.append_ #[31, 31] 31 #[.slice a4 k4 c4, .slice da da_k dc]).run Try.prog w' = .ok (.slice a5 k5 c5) w5 ∧ (Below w.heap.size w w5 ∧ w5.cell? ⟨bx, 2, none⟩ = some (.slice da da_k dc)) ∧ Hid (Px W0 w5 tp lg l rs torn (DY vb lb vr rs0 bx c m (.slice da da_k dc) (.slice a5 k5 c5) (rec1 dl))) ∧ Hid (k5 = (rec1 dl).length))) := by
  rintro W ⟨hW, hcW⟩
  have hc2 := h.cells
  refine (refNum_any da_k W (by omega)).mono ?_
  rintro e w' ⟨v', rfl, hown, hbw, _⟩
  have hb' : Below w.heap.size w w' := hW.trans (hbw.mono hW.size)
  have hrow : Row w.heap.size w' v' (digs da_k) := Row.mono (B := W.heap.size) hown hW.size
  obtain ⟨a4, k4, c4, rfl, _⟩ := hrow.form
  have hcell : ∀ W', Below w.heap.size w W' → W'.cell? ⟨bx, 2, none⟩ = some (.slice da da_k dc) := fun W' hW' => by rw [hW'.cell (p := ⟨bx, 2, none⟩) hc2.2.2.2]; exact hc2.2.2.1
  obtain ⟨hk, _, _, hl, hnil, _⟩ := slc_form hu
  have hd10 := digs_len10 (n := da_k) (by omega)
  obtain ⟨v5, w5, hrun, hr5, g5, _⟩ := run_grow (ty := 31) hrow hb'.size hk (hl.below hb' (Nat.le_refl _)) hnil (by omega)
  have hb5 : Below w.heap.size w w5 := hb'.grown g5 hb'.size (fun g hg => (hrow.lt g hg).1)
  have e1 : digs da_k ++ dl = rec1 dl := by rw [rec1, ← hk.out]
  rw [e1] at hr5
  obtain ⟨a5, k5, c5, rfl, hk5, _⟩ := hr5.form
  refine ⟨a4, k4, c4, rfl, ⟨hb', hcell _ hb'⟩, a5, k5, c5, w5, hrun, ⟨hb5, hcell _ hb5⟩, ?_, hk5⟩
  obtain ⟨O, h1, h2, _, h4⟩ := h.make
  exact h4 _ _ hb5 (keep_DY _ _ _ _ _ _ _ _ _ _) ⟨keep_DX _ _ _ _ _ _ _ _ _ _ _ _ h1 (fun k hk => hb5.block k (h2 k hk)) (fun k hk => ⟨.inl hk, Nat.lt_of_lt_of_le (h2 k hk) hb5.size⟩), Slc.of_row hr5 fun g hg => ⟨.inr (hr5.lt g hg).1, (hr5.lt g hg).2⟩⟩

/-- 'b = append(append([]byte{}, b...), rec[:t]...)'. -/
theorem px_grow {W0 w : World} {tp lg bx kb cb kq cq t : Nat} {l lb rc : List UInt8} {rs rs0 : List (List UInt8)} {torn : Bool} {vr : Value} {c m : Int} {dv : Value} {ab aq : Option Addr} (h : Px W0 w tp lg l rs torn (DY (.slice ab kb cb) lb vr rs0 bx c m dv (.slice aq kq cq) rc)) (ht : t ≤ kq) (h1 : kb ≤ 1000000) (h2 : kq ≤ 1000000) :
    ∃ a1 k1 c1 w1, (Builtin.append_ #[31, 31] 31 #[.slice (some ⟨w.heap.size, 0, none⟩) 0 0, .slice ab kb cb]).run Try.prog (w.alloc (.cells #[] 5)) = .ok (.slice a1 k1 c1) w1 ∧
      ∃ a2 k2 c2 w2, (Builtin.append_ #[31, 31] 31 #[.slice a1 k1 c1, .slice aq t cq]).run Try.prog w1 = .ok (.slice a2 k2 c2) w2 ∧ Hid (Px W0 w2 tp lg l rs torn (DX (.slice a2 k2 c2) (lb ++ rc.take t) vr rs0 bx c m dv)) := by
  obtain ⟨O, hd, hO, _, hmk⟩ := h.make
  obtain ⟨⟨⟨hb, hr⟩, hbx, hh⟩, hq⟩ := hd
  obtain ⟨hkb, _, _, hlb, hnb, _⟩ := slc_form hb
  obtain ⟨hkq, _, _, hlq, hnq, _⟩ := slc_form hq
  obtain ⟨a1, k1, c1, w1, hrun1, a2, k2, c2, w2, hrun2, ⟨_, _, hb2⟩, hr2, _⟩ := run_twice (k := t) (c := cq) (r := rc.take t) hkb hlb hnb (by show _ = _; rw [List.length_take, ← hkq.out]; omega) (hlq.take t) (fun h0 => ⟨by have := (hnq h0).1; omega, (hnq h0).2⟩) h1 (by omega)
  refine ⟨a1, k1, c1, w1, hrun1, a2, k2, c2, w2, hrun2, hmk _ _ hb2 (keep_DX _ _ _ _ _ _ _ _) ⟨⟨Slc.of_row hr2.out fun g hg => ⟨.inr (hr2.out.lt g hg).1, (hr2.out.lt g hg).2⟩, ?_⟩, ⟨.inl hbx, Nat.lt_of_lt_of_le (hO _ hbx) hb2.size⟩, by rw [hb2.block _ (hO _ hbx)]; exact hh⟩⟩
  exact (hr.keep fun k hk => hb2.block k (hO k hk)).mono fun k hk => ⟨.inl hk, Nat.lt_of_lt_of_le (hO k hk) hb2.size⟩

/-- 'records = append(append([][]byte{}, records...), d.B)', in whatever order. -/
theorem px_copy {W0 w : World} {tp lg bx kr cr : Nat} {l lb b : List UInt8} {rs rs0 : List (List UInt8)} {torn : Bool} {vb u : Value} {c m : Int} {ar : Option Addr} (h : Px W0 w tp lg l rs torn (DX vb lb (.slice ar kr cr) rs0 bx c m u)) (hu : Slc (fun k => k < W0.heap.size) w u b) (hlen : kr ≤ 1000000000) :
    Hid (∃ a1 k1 c1 w1, (Builtin.append_ #[32, 32] 32 #[.slice (some ⟨w.heap.size, 0, none⟩) 0 0, .slice ar kr cr]).run Try.prog (w.alloc (.cells #[] 31)) = .ok (.slice a1 k1 c1) w1 ∧ Hid (Below w.heap.size w w1) ∧ Hid (∃ a2 k2 c2 w2, (Builtin.append_ #[32, 32] 32 #[.slice a1 k1 c1, .slice (some ⟨w1.heap.size, 0, none⟩) 1 1]).run Try.prog (w1.alloc (.cells #[u] 31)) = .ok (.slice a2 k2 c2) w2 ∧ Hid (Below w.heap.size w w2) ∧ Hid (Px W0 w2 tp lg l rs torn (DB vb lb (.slice a2 k2 c2) (rs0 ++ [b]))))) ∧
    Hid (∃ a1 k1 c1 w1, (Builtin.append_ #[32, 32] 32 #[.slice (some ⟨w.heap.size, 0, none⟩) 0 0, .slice ar kr cr]).run Try.prog ((w.alloc (.cells #[] 31)).alloc (.cells #[u] 31)) = .ok (.slice a1 k1 c1) w1 ∧ Hid (Below w.heap.size w w1) ∧ Hid (∃ a2 k2 c2 w2, (Builtin.append_ #[32, 32] 32 #[.slice a1 k1 c1, .slice (some ⟨w.heap.size + 1, 0, none⟩) 1 1]).run Try.prog w1 = .ok (.slice a2 k2 c2) w2 ∧ Hid (Below w.heap.size w w2) ∧ Hid (Px W0 w2 tp lg l rs torn (DB vb lb (.slice a2 k2 c2) (rs0 ++ [b]))))) ∧
    Hid (∃ a1 k1 c1 w1, (Builtin.append_ #[32, 32] 32 #[.slice (some ⟨w.heap.size + 1, 0, none⟩) 0 0, .slice ar kr cr]).run Try.prog ((w.alloc (.cells #[u] 31)).alloc (.cells #[] 31)) = .ok (.slice a1 k1 c1) w1 ∧ Hid (Below w.heap.size w w1) ∧ Hid (∃ a2 k2 c2 w2, (Builtin.append_ #[32, 32] 32 #[.slice a1 k1 c1, .slice (some ⟨w.heap.size, 0, none⟩) 1 1]).run Try.prog w1 = .ok (.slice a2 k2 c2) w2 ∧ Hid (Below w.heap.size w w2) ∧ Hid (Px W0 w2 tp lg l rs torn (DB vb lb (.slice a2 k2 c2) (rs0 ++ [b]))))) := by
  have hsz : W0.heap.size ≤ w.heap.size := h.below.size
  obtain ⟨O, hd, hO, hW, hmk⟩ := h.make
  obtain ⟨⟨hb, hr⟩, hbx, hh⟩ := hd
  obtain ⟨hk, _, _, hs, hnil⟩ := rws_form hr
  have fin : ∀ v2 w2, Below w.heap.size w w2 → Rws (fun k => (O k ∨ k < W0.heap.size) ∨ w.heap.size ≤ k) w2 v2 (rs0 ++ [b]) → Px W0 w2 tp lg l rs torn (DB vb lb v2 (rs0 ++ [b])) := fun v2 w2 hb2 hr2 =>
    hmk _ _ hb2 (keep_DB _ _ _ _) ⟨(hb.keep fun k hk => hb2.block k (hO k hk)).mono fun k hk => ⟨.inl hk, Nat.lt_of_lt_of_le (hO k hk) hb2.size⟩, hr2.bound.mono fun k hk => ⟨hk.1.imp (fun h => h.elim id (hW k)) id, hk.2⟩⟩
  have hKu : ∀ k, k < W0.heap.size → k < w.heap.size := fun k hk => Nat.lt_of_lt_of_le hk hsz
  refine ⟨?_, ?_, ?_⟩
  · obtain ⟨a1, k1, c1, w1, r1, b1, h2⟩ := copyA hk hs hO hnil hlen hu hKu
    obtain ⟨a2, k2, c2, w2, r2, b2, h3⟩ := h2.out
    exact ⟨a1, k1, c1, w1, r1, b1, a2, k2, c2, w2, r2, b2, fin _ _ b2.out h3.out⟩
  · obtain ⟨a1, k1, c1, w1, r1, b1, h2⟩ := copyB hk hs hO hnil hlen hu hKu
    obtain ⟨a2, k2, c2, w2, r2, b2, h3⟩ := h2.out
    exact ⟨a1, k1, c1, w1, r1, b1, a2, k2, c2, w2, r2, b2, fin _ _ b2.out h3.out⟩
  · obtain ⟨a1, k1, c1, w1, r1, b1, h2⟩ := copyC hk hs hO hnil hlen hu hKu
    obtain ⟨a2, k2, c2, w2, r2, b2, h3⟩ := h2.out
    exact ⟨a1, k1, c1, w1, r1, b1, a2, k2, c2, w2, r2, b2, fin _ _ b2.out h3.out⟩

/-- 'records, at = scan(b); b = b[:at]'. -/
theorem px_scan {W0 w : World} {tp lg kb cb : Nat} {l : List UInt8} {rs0 : List (List UInt8)} {vr : Value} {ab : Option Addr} (h : Px W0 w tp lg (laid (recs l)) (recs l) false (DB (.slice ab kb cb) l vr rs0)) (hkb : kb ≤ 1048576) :
    Calls Try.prog 14 #[.slice ab kb cb] w fun e w' => ∃ a7 k7 c7, e = .returned (.tuple #[.slice a7 k7 c7, .int .i64 (ends l : Int)]) ∧ Hid (Px W0 w' tp lg (laid (recs l)) (recs l) false (DB (.slice ab (ends l) cb) (laid (recs l)) (.slice a7 k7 c7) (recs l))) := by
  obtain ⟨O, hd, hO, _, hmk⟩ := h.make
  obtain ⟨hb, _⟩ := hd
  obtain ⟨hk, hkc, hcm, hl, hnil, hof⟩ := slc_form hb
  refine (scan_any ab l cb kb w hk.out hl hkb hkc hcm hnil O hof).mono ?_
  rintro e w' ⟨v, rfl, hr, hb'⟩
  obtain ⟨a7, k7, c7, rfl, _⟩ := hr.form
  have hle := ends_le l
  have hkl := hk.out
  refine ⟨a7, k7, c7, rfl, hmk _ _ hb' (keep_DB _ _ _ _) ⟨⟨ab, ends l, cb, rfl, rfl, by omega, hcm, ?_, fun h0 => ⟨by have := (hnil h0).1; omega, (hnil h0).2⟩, fun x hx => ?_⟩, ?_⟩⟩
  · rw [← take_ends]; exact (hl.below hb' (Nat.le_refl _)).take _
  · rcases hof x hx with h0 | h0
    · left; subst h0; rfl
    · exact .inr ⟨.inl h0, Nat.lt_of_lt_of_le (hO _ h0) hb'.size⟩
  · exact hr.bound.mono fun k hk => ⟨hk.1.imp (fun h => h.1) id, hk.2⟩
end Go.Proofs.Ytfcnbdnmnmihjaa
