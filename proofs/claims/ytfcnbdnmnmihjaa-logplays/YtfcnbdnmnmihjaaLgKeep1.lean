/-
  What LogKeeps needs of memory: a log with the law's own row beside it; rows that are written over.
-/
import Derived.Test.YtfcnbdnmnmihjaaLgLoses
namespace Go.Proofs.Ytfcnbdnmnmihjaa
open Go.RowKit

theorem Row.zero {B : Nat} {w : World} {v : Value} {l : List UInt8} (h : Row B w v l) : Row 0 w v l := h.mono (Nat.zero_le _)

/-- A byte of an owned row, and the row with another byte there. -/
theorem Row.at_ {B : Nat} {w : World} {a : Option Addr} {k cap : Nat} {yl : List UInt8} (h : Row B w (.slice a k cap) yl) (hk : Hid (k = yl.length)) (j : Nat) (hj : j < k) :
    ∃ g d : Nat, a = some ⟨g, 0, none⟩ ∧ d < 256 ∧ w.cell? ⟨g, j, none⟩ = some (.int .u8 (d : Int)) ∧ w.frozen? ⟨g, j, none⟩ = false ∧ Hid (∀ c : Nat, c < 256 → ∃ yl' : List UInt8, Hid (k = yl'.length) ∧ Row B (w.setCell ⟨g, j, none⟩ (.int .u8 (c : Int))) (.slice a k cap) yl') := by
  obtain ⟨a', k', cap', hv, _, _, _, _, hnil, hat⟩ := h.form
  simp only [Value.slice.injEq] at hv
  obtain ⟨rfl, rfl, rfl⟩ := hv
  cases a with
  | none => exact absurd (hnil rfl).1 (by omega)
  | some x =>
    obtain ⟨g, rfl, hg1, hg2⟩ := hat x rfl
    have hk' : k = yl.length := hk
    have hr2 : w.ownsRow B 5 1 (.slice (some ⟨g, 0, none⟩) k cap) k (bv yl) := by have h2 : World.ownsRow _ _ _ _ _ _ _ := h; rw [← hk'] at h2; exact h2
    refine ⟨g, (yl[j]'(by omega)).toNat, rfl, (yl[j]'(by omega)).toNat_lt, ?_, hr2.frozenAt j, fun c hc => h.set hk' j c hc⟩
    rw [hr2.cellAt j (by omega)]
    simp [bv, List.getElem?_eq_getElem (show j < yl.length by omega)]

theorem turn_set (w : World) (g j : Nat) (v : Value) : Turn (fun k => some g = some k) (fun k => some g = some k) w (w.setCell ⟨g, j, none⟩ v) :=
  ⟨rfl, rfl, rfl, by simp, fun k _ hm => heap_setCell_other w ⟨g, j, none⟩ k _ (fun e => hm (by rw [e])), fun _ h => .inl h⟩

theorem LogSt.avoid {W0 w : World} {tp sy lg : Nat} {l : List UInt8} {r rv : Option Nat} {rs : List (List UInt8)} {t : Bool} {X Y : Nat → Prop} (h : LogSt W0 w tp l sy r lg rs t rv X) (hY : ∀ k, Y k → X k ∨ w.heap.size ≤ k) : LogSt W0 w tp l sy r lg rs t rv Y := by
  obtain ⟨hs, L, hl, hk, hx⟩ := h
  refine ⟨hs, L, hl, hk, fun k h1 h2 => ?_⟩
  rcases hY k h2 with h3 | h3
  · exact hx k h1 h3
  · have := (hk k h1).2.1; omega

/-- What stands beside turns. -/
theorem LogSt.beside {W0 w w' : World} {tp sy lg : Nat} {l : List UInt8} {r rv : Option Nat} {rs : List (List UInt8)} {t : Bool} {X Y : Nat → Prop} (h : LogSt W0 w tp l sy r lg rs t rv X) (ht : Turn Y Y w w') (h1 : ∀ k, Y k → X k ∧ ¬ MT tp r k ∧ W0.heap.size ≤ k) : LogSt W0 w' tp l sy r lg rs t rv X := by
  have hm := h.1.made
  obtain ⟨hs, L, hl, hk, hx⟩ := h
  have hblk : ∀ k, k < w.heap.size → ¬ Y k → w'.heap[k]? = w.heap[k]? := fun k h1 h2 => ht.block k h1 h2
  have hmt : ∀ k, MT tp r k → w'.heap[k]? = w.heap[k]? := fun k hk => hblk k (hm k hk).2 fun hy => (h1 k hy).2.1 hk
  refine ⟨⟨hs.1.far (hmt tp (.inl rfl)) (fun g hg => hmt g (.inr hg.symm)), hs.2.trans (ht.below hs.2.size fun k hy => (h1 k hy).2.2)⟩, L, hl.keep fun k hk' => hblk k (hk k hk').2.1 fun hy => hx k hk' (h1 k hy).1, fun k hk' => ⟨(hk k hk').1, Nat.lt_of_lt_of_le (hk k hk').2.1 ht.size, (hk k hk').2.2⟩, hx⟩

/-- A log, the law's own row 'in' of the same records, and the bytes ow of its own. -/
def Kin (W0 w : World) (tp lg : Nat) (rs' rs : List (List UInt8)) (n : Nat) (v ow : Value) (k : Nat) : Prop :=
  ∃ r rv Z, LogSt W0 w tp (laid rs') (laid rs').length r lg rs' false rv (fun k => Z k ∨ ow.ownBlock = some k) ∧ (∀ b ∈ rs', Good b) ∧ (laid rs').length ≤ n ∧ Rws Z w v rs ∧ (∀ k, k < W0.heap.size → Z k) ∧
    (∀ k, (Z k ∨ ow.ownBlock = some k) → Off (ML tp r lg rv) w k) ∧ (∀ g, v.ownBlock = some g → W0.heap.size ≤ g) ∧ (∀ g, ow.ownBlock = some g → W0.heap.size ≤ g ∧ ¬ Z g) ∧ ∃ yl : List UInt8, Hid (k = yl.length) ∧ Row 0 w ow yl

/-- .. without those bytes. -/
def Ks (W0 w : World) (tp lg : Nat) (rs : List (List UInt8)) (n : Nat) (v : Value) : Prop :=
  ∃ r rv Z, LogSt W0 w tp (laid rs) (laid rs).length r lg rs false rv Z ∧ (∀ b ∈ rs, Good b) ∧ (laid rs).length ≤ n ∧ Rws Z w v rs ∧ (∀ k, k < W0.heap.size → Z k) ∧ (∀ k, Z k → Off (ML tp r lg rv) w k) ∧ (∀ g, v.ownBlock = some g → W0.heap.size ≤ g)

theorem Ks.below {W0 w : World} {tp lg n : Nat} {rs : List (List UInt8)} {v : Value} (h : Ks W0 w tp lg rs n v) : Below W0.heap.size W0 w := by
  obtain ⟨r, rv, Z, h1, _⟩ := h; exact h1.1.2
theorem Kin.below {W0 w : World} {tp lg n k : Nat} {rs rs' : List (List UInt8)} {v ow : Value} (h : Kin W0 w tp lg rs' rs n v ow k) : Below W0.heap.size W0 w := by
  obtain ⟨r, rv, Z, h1, _⟩ := h; exact h1.1.2
theorem Ks.mono {W0 w : World} {tp lg n m : Nat} {rs : List (List UInt8)} {v : Value} (h : Ks W0 w tp lg rs n v) (hm : n ≤ m) : Ks W0 w tp lg rs m v := by
  obtain ⟨r, rv, Z, h1, h2, h3, h4⟩ := h; exact ⟨r, rv, Z, h1, h2, Nat.le_trans h3 hm, h4⟩

/-- The law's own bytes are made. -/
theorem Ks.own {W0 w w' : World} {tp lg n k cap : Nat} {a : Option Addr} {rs : List (List UInt8)} {v : Value} {b : List UInt8} (h : Ks W0 w tp lg rs n v) (hb : Below w.heap.size w w') (hk : Hid (k = b.length)) (hr : Row w.heap.size w' (.slice a k cap) b) : Kin W0 w' tp lg rs rs n v (.slice a k cap) k := by
  obtain ⟨r, rv, Z, h1, h2, h3, h4, h5, h6, h7⟩ := h
  have hm := h1.made
  have hsz : W0.heap.size ≤ w.heap.size := h1.1.2.size
  refine ⟨r, rv, Z, (h1.avoid fun k hk => ?_).later hb, h2, h3, h4.below hb (Nat.le_refl _), h5, fun k hk => ?_, h7, fun g hg => ⟨by have := (hr.lt g hg).1; omega, fun hz => by have := (h6 g hz).1; have := (hr.lt g hg).1; omega⟩, b, hk, hr.zero⟩
  · rcases hk with hk | hk
    · exact .inl hk
    · exact .inr (hr.lt k hk).1
  · rcases hk with hk | hk
    · exact (Turn.of_below hb).off (h6 k hk)
    · exact ⟨(hr.lt k hk).2, fun hml => by have := (hm k hml).2; have := (hr.lt k hk).1; omega⟩

theorem Kin.done {W0 w : World} {tp lg n k : Nat} {rs : List (List UInt8)} {v ow : Value} (h : Kin W0 w tp lg rs rs n v ow k) : Ks W0 w tp lg rs n v := by
  obtain ⟨r, rv, Z, h1, h2, h3, h4, h5, h6, h7, _⟩ := h
  exact ⟨r, rv, Z, h1.avoid fun k hk => .inl (.inl hk), h2, h3, h4, h5, fun k hk => h6 k (.inl hk), h7⟩

/-- They are appended. -/
theorem append_kin {W0 w w' : World} {tp lg n k cap : Nat} {a : Option Addr} {rs : List (List UInt8)} {v : Value} {b : List UInt8} (h : Ks W0 w tp lg rs n v) (hb : Below w.heap.size w w') (hk : Hid (k = b.length)) (hr : Row w.heap.size w' (.slice a k cap) b)
    (h1 : 1 ≤ k) (h2 : k ≤ 2000) (hn : n ≤ 1000000) :
    Calls Try.prog 15 #[.pointer (some ⟨lg, 0, none⟩), .slice a k cap] w' fun e w2 => e = .returned .nilIface ∧ Kin W0 w2 tp lg (rs ++ [b]) rs (n + k + 3) v (.slice a k cap) k := by
  obtain ⟨r, rv, Z, hs, hg, hl, h4, h5, h6, h7, h8, _⟩ := h.own hb hk hr
  have hrs := rec1_small (b := b) (by rw [← hk.out]; omega)
  have hkb := hk.out
  have hc := laid_count rs
  obtain ⟨a', k', cap', hv, _, _, _, hlies, hnil, _⟩ := hr.form
  simp only [Value.slice.injEq] at hv
  obtain ⟨rfl, rfl, rfl⟩ := hv
  refine (append_log hs hk hlies hnil (fun x hx => .inr (h6 _ (.inr (by rw [hx]; rfl)))) h1 (by omega) (by omega) (by omega) (fun q hq => (h6 q hq).1)).mono ?_
  rintro e w2 ⟨rfl, r', rv', h', ht⟩
  refine ⟨rfl, r', rv', Z, by rw [laid_snoc]; exact h', fun c hc => ?_, by rw [laid_snoc, List.length_append]; omega, h4.keep fun q hq => ht.kept (h6 q (.inl hq)), h5, fun q hq => ht.off (h6 q hq), h7, h8, b, hk, hr.zero.keep fun g hg => ht.kept (h6 g (.inr hg))⟩
  rcases List.mem_append.1 hc with hc | hc
  · exact hg c hc
  · simp only [List.mem_singleton] at hc; subst hc; exact ⟨by omega, by omega⟩

theorem append_kin0 {W0 w : World} {tp lg n k cap : Nat} {a : Option Addr} {rs : List (List UInt8)} {v : Value} (h : Kin W0 w tp lg rs rs n v (.slice a k cap) k) (hk : k = 0) :
    Calls Try.prog 15 #[.pointer (some ⟨lg, 0, none⟩), .slice a k cap] w fun e w' => e = .returned (.iface 50 (.int .i64 1)) ∧ w' = w := by
  obtain ⟨r, rv, Z, ⟨_, L, hl, _⟩, _⟩ := h
  exact append_bad (write_arg hl (.inl (by omega)))

/-- They are written over. -/
theorem Kin.set {W0 w : World} {tp lg n k cap : Nat} {a : Option Addr} {rs rs' : List (List UInt8)} {v : Value} (h : Kin W0 w tp lg rs' rs n v (.slice a k cap) k) (j : Nat) (hj : j < k) :
    ∃ g d : Nat, a = some ⟨g, 0, none⟩ ∧ d < 256 ∧ w.cell? ⟨g, j, none⟩ = some (.int .u8 (d : Int)) ∧ w.frozen? ⟨g, j, none⟩ = false ∧ Hid (∀ c : Nat, c < 256 → Kin W0 (w.setCell ⟨g, j, none⟩ (.int .u8 (c : Int))) tp lg rs' rs n v (.slice a k cap) k) := by
  obtain ⟨r, rv, Z, hs, hg, hl, h4, h5, h6, h7, h8, yl, hk, hr⟩ := h
  obtain ⟨g, d, rfl, hd, hc, hf, hset⟩ := hr.at_ hk j hj
  refine ⟨g, d, rfl, hd, hc, hf, fun c hc => ?_⟩
  have ht := turn_set w g j (.int .u8 (c : Int))
  have hoff := h6 g (.inr rfl)
  have hg8 := h8 g rfl
  refine ⟨r, rv, Z, hs.beside ht (fun q hq => ?_), hg, hl, h4.keep fun q hq => ht.block q (h6 q (.inl hq)).1 ?_, h5, fun q hq => ⟨Nat.lt_of_lt_of_le (h6 q hq).1 ht.size, (h6 q hq).2⟩, h7, h8, hset.out c hc⟩
  · simp only [Option.some.injEq] at hq
    subst hq
    exact ⟨.inr rfl, fun hm => hoff.2 (.inl hm), hg8.1⟩
  · intro e
    simp only [Option.some.injEq] at e
    subst e
    exact hg8.2 hq

/-- The law's own row grows. -/
theorem Kin.grow {W0 w : World} {tp lg n k : Nat} {rs : List (List UInt8)} {v ow : Value} {b : List UInt8} {u : Value} (h : Kin W0 w tp lg (rs ++ [b]) rs n v ow k) (hu : Slc (fun k => k < W0.heap.size) w u b) :
    ∃ Z, Rws Z w v rs ∧ Slc (fun k => Z k ∧ v.ownBlock ≠ some k) w u b ∧ ∀ v5 w5, Rws (fun k => Z k ∨ w.heap.size ≤ k) w5 v5 (rs ++ [b]) → w.grownBy w5 v.ownBlock → (v5.ownBlock = v.ownBlock ∨ v5.ownBlock = some (w.heap.size + 1)) → Ks W0 w5 tp lg (rs ++ [b]) n v5 := by
  obtain ⟨r, rv, Z, hs, hg, hl, h4, h5, h6, h7, _⟩ := h
  refine ⟨Z, h4, hu.mono fun q hq => ⟨h5 q hq, fun e => by have := h7 q e; omega⟩, fun v5 w5 hr5 hg5 hat => ?_⟩
  have hm := hs.made
  have hvZ : ∀ g, v.ownBlock = some g → Z g := by obtain ⟨us, _, h2, _⟩ := h4; exact h2
  have ht : Turn (fun k => v.ownBlock = some k) (fun k => v.ownBlock = some k) w w5 := ⟨hg5.os, hg5.tape, hg5.output, hg5.size, fun q hq hne => hg5.block q hq fun e => hne e.symm, fun _ h => .inl h⟩
  have hW : W0.heap.size ≤ w.heap.size := hs.1.2.size
  have hs5 : LogSt W0 w5 tp (laid (rs ++ [b])) (laid (rs ++ [b])).length r lg (rs ++ [b]) false rv (fun k => (Z k ∨ w.heap.size ≤ k) ∧ k < w5.heap.size) := by
    have h0 : LogSt W0 w tp (laid (rs ++ [b])) (laid (rs ++ [b])).length r lg (rs ++ [b]) false rv (fun k => (Z k ∨ w.heap.size ≤ k) ∧ k < w5.heap.size) := hs.avoid fun q hq => hq.1.imp (fun h => .inl h) id
    exact h0.beside ht fun q hq => ⟨⟨.inl (hvZ q hq), Nat.lt_of_lt_of_le (h6 q (.inl (hvZ q hq))).1 hg5.size⟩, fun hmt => (h6 q (.inl (hvZ q hq))).2 (.inl hmt), h7 q hq⟩
  refine ⟨r, rv, _, hs5, hg, hl, hr5.bound, fun q hq => ⟨.inl (h5 q hq), by have := hg5.size; omega⟩, fun q hq => ⟨hq.2, fun hml => ?_⟩, fun g hg' => ?_⟩
  · rcases hq.1 with hz | hz
    · exact (h6 q (.inl hz)).2 hml
    · have := (hm q hml).2; omega
  · rcases hat with e | e
    · exact h7 g (by rw [← e]; exact hg')
    · rw [e] at hg'; simp only [Option.some.injEq] at hg'; omega
end Go.Proofs.Ytfcnbdnmnmihjaa
