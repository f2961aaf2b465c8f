/-
  What LogPlays needs of memory: a log, and whatever else of the law's own stays beside it; deeds.
-/
import Derived.Test.YtfcnbdnmnmihjaaLgKeep2
import Derived.Test.YtfcnbdnmnmihjaaLgScan
namespace Go.Proofs.Ytfcnbdnmnmihjaa
open Go.RowKit

/-- What lies in the blocks O, and stays while they do. -/
def Keepable (D : (Nat → Prop) → World → Prop) : Prop := ∀ (O O' : Nat → Prop) (w w' : World), D O w → (∀ k, O k → w'.heap[k]? = w.heap[k]?) → (∀ k, O k → O' k) → D O' w'

/-- A log, and D beside it. -/
def Px (W0 w : World) (tp lg : Nat) (l : List UInt8) (rs : List (List UInt8)) (torn : Bool) (D : (Nat → Prop) → World → Prop) : Prop :=
  ∃ r rv, LogSt W0 w tp l l.length r lg rs torn rv ∧ D (Off (ML tp r lg rv) w) w

theorem Px.below {W0 w : World} {tp lg : Nat} {l : List UInt8} {rs : List (List UInt8)} {torn : Bool} {D : (Nat → Prop) → World → Prop} (h : Px W0 w tp lg l rs torn D) : Below W0.heap.size W0 w := by
  obtain ⟨r, rv, h1, _⟩ := h; exact h1.1.2
theorem Px.later {W0 w w' : World} {tp lg : Nat} {l : List UInt8} {rs : List (List UInt8)} {torn : Bool} {D : (Nat → Prop) → World → Prop} (h : Px W0 w tp lg l rs torn D) (hD : Keepable D) (hb : Below w.heap.size w w') : Px W0 w' tp lg l rs torn D := by
  obtain ⟨r, rv, h1, h2⟩ := h
  exact ⟨r, rv, h1.later hb, hD _ _ _ _ h2 (fun k hk => hb.block k hk.1) fun k hk => (Turn.of_below hb).off hk⟩

/-- More beside it, in new memory. -/
theorem Px.make {W0 w : World} {tp lg : Nat} {l : List UInt8} {rs : List (List UInt8)} {torn : Bool} {D : (Nat → Prop) → World → Prop} (h : Px W0 w tp lg l rs torn D) :
    ∃ O, D O w ∧ (∀ k, O k → k < w.heap.size) ∧ (∀ k, k < W0.heap.size → O k) ∧ ∀ w' (E : (Nat → Prop) → World → Prop), Below w.heap.size w w' → Keepable E → E (fun k => (O k ∨ w.heap.size ≤ k) ∧ k < w'.heap.size) w' → Px W0 w' tp lg l rs torn E := by
  obtain ⟨r, rv, h1, h2⟩ := h
  have hm := h1.made
  refine ⟨_, h2, fun k hk => hk.1, fun k hk => ⟨Nat.lt_of_lt_of_le hk h1.1.2.size, fun hm' => by have := (hm k hm').1; omega⟩, fun w' E hb hE h3 => ⟨r, rv, h1.later hb, hE _ _ _ _ h3 (fun _ _ => rfl) fun k hk => ⟨hk.2, fun hm' => ?_⟩⟩⟩
  rcases hk.1 with h | h
  · exact h.2 hm'
  · have := (hm k hm').2; omega

theorem px_torn {W0 w : World} {tp lg k cap : Nat} {a : Option Addr} {rs : List (List UInt8)} {b l : List UInt8} {D : (Nat → Prop) → World → Prop} {n : Int} (h : Px W0 w tp lg l rs false D) (hD : Keepable D) (hn : -9223372036854775808 ≤ n ∧ n ≤ 9223372036854775807) (hu : Slc (fun k => k < W0.heap.size) w (.slice a k cap) b) (h1 : 1 ≤ k) (h2 : k ≤ 65536) (hfit : l.length + k ≤ 1000000) :
    Calls Try.prog 12 #[.pointer (some ⟨lg, 0, none⟩), .slice a k cap, .int .i64 n] w fun e w' => e = .returned .nilIface ∧ Px W0 w' tp lg (l ++ (rec1 b).take (min n.toNat (rec1 b).length)) rs true D := by
  obtain ⟨r, rv, hs, hd⟩ := h
  obtain ⟨a', k', cap', hv, hk, _, _, hl, hnil, _⟩ := hu
  simp only [Value.slice.injEq] at hv
  obtain ⟨rfl, rfl, rfl⟩ := hv
  have hrs := rec1_small (b := b) (by rw [← hk.out]; exact h2)
  have hkb := hk.out
  refine (torn_ok hn hs rfl hk hl hnil h1 h2 (by omega)).mono ?_
  rintro e w' ⟨rfl, r', h', ht⟩
  exact ⟨rfl, r', rv, h', hD _ _ _ _ hd (fun q hq => ht.kept hq) fun q hq => ht.off hq⟩

theorem px_append {W0 w : World} {tp lg k cap : Nat} {a : Option Addr} {rs : List (List UInt8)} {b l : List UInt8} {D : (Nat → Prop) → World → Prop} (h : Px W0 w tp lg l rs false D) (hD : Keepable D) (hu : Slc (fun k => k < W0.heap.size) w (.slice a k cap) b) (h1 : 1 ≤ k) (h2 : k ≤ 65536) (hfit : l.length + k ≤ 1000000) (hrs : rs.length ≤ 1000000) :
    Calls Try.prog 15 #[.pointer (some ⟨lg, 0, none⟩), .slice a k cap] w fun e w' => e = .returned .nilIface ∧ Px W0 w' tp lg (l ++ rec1 b) (rs ++ [b]) false D := by
  obtain ⟨r, rv, hs, hd⟩ := h
  obtain ⟨a', k', cap', hv, hk, _, _, hl, hnil, hoff⟩ := hu
  simp only [Value.slice.injEq] at hv
  obtain ⟨rfl, rfl, rfl⟩ := hv
  have hr1 := rec1_small (b := b) (by rw [← hk.out]; exact h2)
  have hkb := hk.out
  refine (append_log hs hk hl hnil (fun x hx => (hoff x hx).imp id fun hx => ⟨Nat.lt_of_lt_of_le hx hs.1.2.size, fun hm => by have := (hs.made _ hm).1; omega⟩) h1 h2 (by omega) (by omega)).mono ?_
  rintro e w' ⟨rfl, r', rv', h', ht⟩
  exact ⟨rfl, r', rv', h', hD _ _ _ _ hd (fun q hq => ht.kept hq) fun q hq => ht.off hq⟩

theorem px_state {W0 w : World} {tp lg k cap : Nat} {a : Option Addr} {rs : List (List UInt8)} {l : List UInt8} {D : (Nat → Prop) → World → Prop} (h : Px W0 w tp lg l rs true D) :
    Calls Try.prog 23 #[.pointer (some ⟨lg, 0, none⟩), .slice a k cap] w fun e w' => e = .returned (.iface 50 (.int .i64 6)) ∧ w' = w := by
  obtain ⟨r, rv, ⟨_, L, hl, _⟩, _⟩ := h
  exact write_state hl
theorem px_arg {W0 w : World} {tp lg k cap : Nat} {a : Option Addr} {rs : List (List UInt8)} {l : List UInt8} {D : (Nat → Prop) → World → Prop} (h : Px W0 w tp lg l rs false D) (hk : k < 1 ∨ 65536 < k) :
    Calls Try.prog 23 #[.pointer (some ⟨lg, 0, none⟩), .slice a k cap] w fun e w' => e = .returned (.iface 50 (.int .i64 1)) ∧ w' = w := by
  obtain ⟨r, rv, ⟨_, L, hl, _⟩, _⟩ := h
  exact write_arg hl hk

theorem px_open {W0 w : World} {tp lg : Nat} {rs : List (List UInt8)} {l : List UInt8} {torn : Bool} {D : (Nat → Prop) → World → Prop} (h : Px W0 w tp lg l rs torn D) (hD : Keepable D) :
    Calls Try.prog 9 #[.pointer (some ⟨tp, 0, none⟩)] w fun e w' => ∃ lg', e = .returned (.tuple #[.pointer (some ⟨lg', 0, none⟩), .nilIface]) ∧ Px W0 w' tp lg' (laid (recs l)) (recs l) false D := by
  obtain ⟨r, rv, hs, hd⟩ := h
  refine (open_st hs.1).mono ?_
  rintro e w' ⟨lg', rv', rfl, h', ht⟩
  have hoff : ∀ k, Off (ML tp r lg rv) w k → Off (MT tp r) w k := fun k hk => ⟨hk.1, fun hm => hk.2 (.inl hm)⟩
  exact ⟨lg', rfl, r, rv', h', hD _ _ _ _ hd (fun q hq => ht.kept (hoff q hq)) fun q hq => ht.off (hoff q hq)⟩

/-- The law's own bytes and records. -/
def DB (vb : Value) (lb : List UInt8) (vr : Value) (rs : List (List UInt8)) (O : Nat → Prop) (w : World) : Prop := Slc O w vb lb ∧ Rws O w vr rs
/-- .. and a deed's box. -/
def DX (vb : Value) (lb : List UInt8) (vr : Value) (rs : List (List UInt8)) (bx : Nat) (c m : Int) (dv : Value) (O : Nat → Prop) (w : World) : Prop :=
  DB vb lb vr rs O w ∧ O bx ∧ w.heap[bx]? = some (.cells #[.int .i64 c, .int .i64 m, dv] 34 (0, 0))
/-- .. and the deed's record. -/
def DY (vb : Value) (lb : List UInt8) (vr : Value) (rs : List (List UInt8)) (bx : Nat) (c m : Int) (dv vq : Value) (rc : List UInt8) (O : Nat → Prop) (w : World) : Prop :=
  DX vb lb vr rs bx c m dv O w ∧ Slc O w vq rc

theorem keep_DB (vb : Value) (lb : List UInt8) (vr : Value) (rs : List (List UInt8)) : Keepable (DB vb lb vr rs) := fun _ _ _ _ h hk hm => ⟨(h.1.keep hk).mono hm, (h.2.keep hk).mono hm⟩
theorem keep_DX (vb : Value) (lb : List UInt8) (vr : Value) (rs : List (List UInt8)) (bx : Nat) (c m : Int) (dv : Value) : Keepable (DX vb lb vr rs bx c m dv) := fun _ _ _ _ h hk hm => ⟨keep_DB _ _ _ _ _ _ _ _ h.1 hk hm, hm _ h.2.1, by rw [hk _ h.2.1]; exact h.2.2⟩
theorem keep_DY (vb : Value) (lb : List UInt8) (vr : Value) (rs : List (List UInt8)) (bx : Nat) (c m : Int) (dv vq : Value) (rc : List UInt8) : Keepable (DY vb lb vr rs bx c m dv vq rc) := fun _ _ _ _ h hk hm => ⟨keep_DX _ _ _ _ _ _ _ _ _ _ _ _ h.1 hk hm, (h.2.keep hk).mono hm⟩

theorem Px.weak {W0 w : World} {tp lg : Nat} {l : List UInt8} {rs : List (List UInt8)} {torn : Bool} {D E : (Nat → Prop) → World → Prop} (h : Px W0 w tp lg l rs torn D) (hi : ∀ O w, D O w → E O w) : Px W0 w tp lg l rs torn E := by
  obtain ⟨r, rv, h1, h2⟩ := h; exact ⟨r, rv, h1, hi _ _ h2⟩

/-- The box's cells. -/
theorem Px.cells {W0 w : World} {tp lg : Nat} {l : List UInt8} {rs : List (List UInt8)} {torn : Bool} {vb : Value} {lb : List UInt8} {vr : Value} {rs0 : List (List UInt8)} {bx : Nat} {c m : Int} {dv : Value} (h : Px W0 w tp lg l rs torn (DX vb lb vr rs0 bx c m dv)) :
    w.cell? ⟨bx, 0, none⟩ = some (.int .i64 c) ∧ w.cell? ⟨bx, 1, none⟩ = some (.int .i64 m) ∧ w.cell? ⟨bx, 2, none⟩ = some dv ∧ bx < w.heap.size := by
  obtain ⟨r, rv, _, _, ⟨hlt, _⟩, hh⟩ := h
  refine ⟨?_, ?_, ?_, hlt⟩
  · rw [cell_of_row w bx 0 _ 34 (0, 0) hh]; rfl
  · rw [cell_of_row w bx 1 _ 34 (0, 0) hh]; rfl
  · rw [cell_of_row w bx 2 _ 34 (0, 0) hh]; rfl

/-- A deed is put into a box of its own. -/
theorem Px.boxed {W0 w : World} {tp lg : Nat} {l : List UInt8} {rs : List (List UInt8)} {torn : Bool} {vb : Value} {lb : List UInt8} {vr : Value} {rs0 : List (List UInt8)} (h : Px W0 w tp lg l rs torn (DB vb lb vr rs0)) (c m : Int) (dv : Value) :
    Px W0 (w.alloc (.cells #[.int .i64 c, .int .i64 m, dv] 34)) tp lg l rs torn (DX vb lb vr rs0 w.heap.size c m dv) := by
  have hb : Below w.heap.size w (w.alloc (.cells #[.int .i64 c, .int .i64 m, dv] 34)) := (Below.refl _ _).alloc (Nat.le_refl _) _
  obtain ⟨O, h1, h2, _, h4⟩ := h.make
  refine h4 _ _ hb (keep_DX _ _ _ _ _ _ _ _) ⟨keep_DB _ _ _ _ _ _ _ _ h1 (fun k hk => hb.block k (h2 k hk)) (fun k hk => ⟨.inl hk, Nat.lt_of_lt_of_le (h2 k hk) hb.size⟩), ⟨.inr (Nat.le_refl _), by simp⟩, heap_alloc_new w _⟩

/-- 'append(s, x...)' of bytes: its run. -/
theorem run_grow {ty : TypeId} {B : Nat} {v : Value} {l r : List UInt8} {w : World} {ad : Option Addr} {k c : Nat} (hb : Row B w v l) (hB : B ≤ w.heap.size) (hk : Hid (k = r.length)) (hr : Lies w ad r) (hnil : ad = none → k = 0 ∧ c = 0) (hlen : l.length + k ≤ 140737488355328) :
    ∃ v' w', (Builtin.append_ #[31, 31] ty #[v, .slice ad k c]).run Try.prog w = .ok v' w' ∧ Row B w' v' (l ++ r) ∧ w.grownBy w' v.ownBlock ∧ (v'.ownBlock = v.ownBlock ∨ v'.ownBlock = some w.heap.size) := by
  obtain ⟨i0, hi, hz0, hz1, hz2⟩ := info_parts info5
  have hk' : k = r.length := hk
  subst hk'
  cases ad with
  | none =>
    obtain ⟨h0, rfl⟩ := hnil rfl
    have hr0 : r = [] := List.eq_nil_of_length_eq_zero h0
    subst hr0
    have hrun := run_append_owned_none (P := Try.prog) (w := w) B 31 ty 5 i0 1 Try.underlying31 hi v l.length (bv l) hb
    exact ⟨v, w, hrun, by rw [List.append_nil]; exact hb, ⟨rfl, rfl, rfl, Nat.le_refl _, fun _ _ _ => rfl⟩, .inl rfl⟩
  | some ad =>
    have hnews : ∀ j u, (bv r)[j]? = some u → w.cell? (ad.add j) = some u := by
      intro j u hj
      rcases hr with rfl | ⟨y, hy, h⟩
      · simp [bv] at hj
      · simp only [Option.some.injEq] at hy
        subst hy
        exact h j u hj
    obtain ⟨v', w', hrun, h2, h3, _, h5⟩ := run_append_own_at (P := Try.prog) w B 31 ty 5 i0 (.int .u8 0) 1 1 Try.underlying31 hi hz0 hz1 hz2 rfl (by decide) v l.length (bv l) hb ad r.length c (bv r) (by simp [bv]) hnews (bv_one r) (by unfold maxLen; omega) (by omega) hB
    refine ⟨v', w', hrun, ?_, h3, h5⟩
    show World.ownsRow _ _ _ _ _ _ _
    rw [bv_app, List.length_append]
    exact h2

/-- 'append(append([]byte{}, b...), rec...)': both of its steps, W being w behind a draw or none. -/
theorem run_twice {w : World} {ab ad : Option Addr} {kb cb k c : Nat} {lb r : List UInt8} (hkb : Hid (kb = lb.length)) (hlb : Lies w ab lb) (hnb : ab = none → kb = 0 ∧ cb = 0) (hk : Hid (k = r.length)) (hr : Lies w ad r) (hnil : ad = none → k = 0 ∧ c = 0) (h1 : kb ≤ 1000000) (h2 : k ≤ 1000000) :
    ∃ a1 k1 c1 w1, (Builtin.append_ #[31, 31] 31 #[.slice (some ⟨w.heap.size, 0, none⟩) 0 0, .slice ab kb cb]).run Try.prog (w.alloc (.cells #[] 5)) = .ok (.slice a1 k1 c1) w1 ∧
      ∃ a2 k2 c2 w2, (Builtin.append_ #[31, 31] 31 #[.slice a1 k1 c1, .slice ad k c]).run Try.prog w1 = .ok (.slice a2 k2 c2) w2 ∧
        Hid (Below w.heap.size w (w.alloc (.cells #[] 5)) ∧ Below w.heap.size w w1 ∧ Below w.heap.size w w2) ∧ Hid (Row w.heap.size w2 (.slice a2 k2 c2) (lb ++ r)) ∧ Hid (k2 = (lb ++ r).length) := by
  have hba : Below w.heap.size w (w.alloc (.cells #[] 5)) := (Below.refl _ _).alloc (Nat.le_refl _) _
  have hk1 := hkb.out
  obtain ⟨v1, w1, hrun1, hr1, g1, _⟩ := run_grow (ty := 31) (Row.made w.heap.size w (Nat.le_refl _)) (by simp) hkb (hlb.below hba (Nat.le_refl _)) hnb (by simp; omega)
  have hb1 : Below w.heap.size w w1 := hba.grown g1 hba.size (fun g hg => by simp [Value.ownBlock] at hg; omega)
  rw [List.nil_append] at hr1
  obtain ⟨v2, w2, hrun2, hr2, g2, _⟩ := run_grow (ty := 31) hr1 hb1.size hk (hr.below hb1 (Nat.le_refl _)) hnil (by omega)
  have hb2 : Below w.heap.size w w2 := hb1.grown g2 hb1.size (fun g hg => (hr1.lt g hg).1)
  obtain ⟨a1, k1, c1, rfl, _⟩ := hr1.form
  obtain ⟨a2, k2, c2, rfl, hk2, _⟩ := hr2.form
  exact ⟨a1, k1, c1, w1, hrun1, a2, k2, c2, w2, hrun2, ⟨hba, hb1, hb2⟩, hr2, hk2⟩
end Go.Proofs.Ytfcnbdnmnmihjaa
