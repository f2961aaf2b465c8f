/-
  What is amiss with entries, and where: the program's 'Check'.
-/
import Derived.Test.YtcjkficpiedpfabDoorTrCheck
namespace Go.Proofs.YtcjkficpiedpfabDoor.Tree
open Go.RowKit Route Chunk

theorem firstBad_first {l : List (ByteArray × Int × List ByteArray)} {c k : Nat} : ∀ (f i : Nat), firstBad l i f = some (c, k) → ∀ j, i ≤ j → j < k → codeOf (l.take j) (entOf l j) = 0
  | 0, i, h, j, _, _ => by cases h
  | f + 1, i, h, j, h1, h2 => by
    rw [firstBad] at h
    split at h
    · by_cases hj : j = i
      · subst hj; assumption
      · exact firstBad_first f (i + 1) h j (by omega) h2
    · simp only [Option.some.injEq, Prod.mk.injEq] at h
      omega

theorem last_ent {l : List (ByteArray × Int × List ByteArray)} {n : Nat} (hn : n = l.length) (h : 0 < n) : l.getLast? = some (entOf l (n - 1)) := by
  subst hn
  rw [List.getLast?_eq_getElem?, entOf, List.getD_eq_getElem?_getD, List.getElem?_eq_getElem (by omega)]
  rfl

theorem any_ent {l : List (ByteArray × Int × List ByteArray)} {n : Nat} (hn : n = l.length) (f : ByteArray × Int × List ByteArray → Bool) : l.any f = true ↔ ∃ j, j < n ∧ f (entOf l j) = true := by
  subst hn
  rw [List.any_eq_true]
  constructor
  · rintro ⟨x, hx, h⟩
    obtain ⟨j, hj, rfl⟩ := List.getElem_of_mem hx
    exact ⟨j, hj, by rw [entOf, List.getD_eq_getElem?_getD, List.getElem?_eq_getElem hj]; exact h⟩
  · rintro ⟨j, hj, h⟩
    exact ⟨_, ent_mem hj, h⟩

/-- Entries that the walks may read: few, and short. -/
def EntsOk (n : Nat) (l : List (ByteArray × Int × List ByteArray)) : Prop := n = l.length ∧ n ≤ 100 ∧ ∀ j, j < n → shortE (entOf l j)

theorem checkEntry_any (a : Option Addr) (n cap : Nat) (l : List (ByteArray × Int × List ByteArray)) (p : ByteArray) (sz : Int) (ka : Option Addr) (kn kc : Nat) (ks : List ByteArray) (w : World)
    (hl : EntsOk n l) (hl0 : LiesE w a l) (hs : shortE (p, sz, ks)) (hkn : kn = ks.length) (hk : Lies w ka ks) :
    Calls Tryd.prog 25 #[.slice a n cap, .agg #[.string p, .int .i64 sz, .slice ka kn kc]] w fun e w' => e = .returned (codeV (codeOf l (p, sz, ks))) ∧ Below w.heap.size w w' := by
  obtain ⟨hn, hnm, hls⟩ := hl
  obtain ⟨h1, h2, h3⟩ := hs
  cases hp : isPath p with
  | false =>
    have := checkEntry_path a n cap p (.int .i64 sz) (.slice ka kn kc) w hp h1
    rw [codeOf, if_pos hp]
    exact this
  | true =>
    refine checkEntry_core a n cap l p sz ka kn kc ks _ w hp h1 hn hl0 (by omega) (fun j hj => (hls j hj).1) hkn hk (by rw [hkn]; exact Nat.le_trans h2 (by omega)) (fun j hj => Nat.le_trans (h3 j (by rw [← hkn]; exact hj)) (by omega)) ?_ ?_ ?_
    · intro h
      rw [codeOf, if_neg (by simp [hp]), if_pos (.inr ((any_ent hn _).2 h))]; rfl
    · intro h0 h
      rw [codeOf, if_neg (by simp [hp]), if_pos (.inl ⟨_, last_ent hn h0, h⟩)]; rfl
    · intro h4 h5
      rw [codeOf, if_neg (by simp [hp]), if_neg]
      rintro (⟨x, hx, h⟩ | h)
      · have h0 : 0 < n := by
          rcases Nat.eq_zero_or_pos n with h0 | h0
          · have : l = [] := List.eq_nil_of_length_eq_zero (by omega)
            rw [this] at hx; cases hx
          · exact h0
        rw [last_ent hn h0] at hx
        simp only [Option.some.injEq] at hx
        subst hx
        rw [h5 h0] at h; cases h
      · obtain ⟨j, hj, h⟩ := (any_ent hn _).1 h
        rw [h4 j hj] at h; cases h

/-- An error, or none: its number, and its place. -/
def ErrV (B : Nat) (w : World) (v : Value) (c : Nat) (pl : Option Nat) : Prop :=
  (c = 0 ∧ pl = none ∧ v = .nilIface) ∨ (c ≠ 0 ∧ pl = none ∧ v = .iface 43 (.int .i64 (c : Int))) ∨
  (c ≠ 0 ∧ ∃ i g, pl = some i ∧ v = .iface 49 (.pointer (some ⟨g, 0, none⟩)) ∧ B ≤ g ∧ w.cell? ⟨g, 0, none⟩ = some (.int .i64 (i : Int)) ∧ w.cell? ⟨g, 1, none⟩ = some (.iface 43 (.int .i64 (c : Int))))

theorem slice_ents (a : Option Addr) (n cap i : Nat) (h : i ≤ cap) (w : World) : (Instr.slice 29 (.slice a n cap) none (some (.int .i64 (i : Int))) none).run Tryd.prog w = .ok (.slice a i cap) w := by
  rw [run_slice_h w 29 a n cap (by kernel_rfl) .i64 (i : Int) (by omega) (by omega)]
  have e : (sizeOf (Tryd.prog.elem 29)).run Tryd.prog w = .ok 3 w := by kernel_rfl
  rw [e]
  cases a with
  | none => simp [sliced, Result.andThen]
  | some a => by_cases h : cap = 0 <;> simp [sliced, Result.andThen, h, Addr.add]

set_option maxHeartbeats 4000000 in
set_option maxRecDepth 100000 in
theorem check_large (a : Option Addr) (n cap : Nat) (w : World) (hn : 32 < n) :
    Calls Tryd.prog 12 #[.slice a n cap] w fun e w' => e = .returned (.iface 43 (.int .i64 7)) ∧ w' = w := by
  go_enter Tryd.func12, Tryd.ntmps12
  go_wp2
  go_ret
  exact ⟨rfl, rfl⟩

set_option maxHeartbeats 4000000 in
set_option maxRecDepth 100000 in
theorem check_core (a : Option Addr) (n cap : Nat) (l : List (ByteArray × Int × List ByteArray)) (c : Nat) (pl : Option Nat) (w : World) (hl : EntsOk n l) (hl0 : LiesE w a l) (hc : n ≤ cap) (hn : n ≤ 32)
    (h0 : (∀ j, j < n → codeOf (l.take j) (entOf l j) = 0) → c = 0 ∧ pl = none)
    (h1 : ∀ j, j < n → (∀ k, k < j → codeOf (l.take k) (entOf l k) = 0) → codeOf (l.take j) (entOf l j) ≠ 0 → c = codeOf (l.take j) (entOf l j) ∧ pl = some j) :
    Calls Tryd.prog 12 #[.slice a n cap] w fun e w' => (∃ v, e = .returned v ∧ ErrV w.heap.size w' v c pl) ∧ Below w.heap.size w w' := by
  have HN : Hid (n = l.length) := hl.1
  have HL : Hid (LiesE w a l) := hl0
  have hce : Hid (∀ j, j < n → ∀ (ka : Option Addr) (kc : Nat) W, LiesE W a l → Lies W ka (entOf l j).2.2 → Calls Tryd.prog 25 #[.slice a j cap, .agg #[.string (entOf l j).1, .int .i64 (entOf l j).2.1, .slice ka (entOf l j).2.2.length kc]] W fun e w' => e = .returned (codeV (codeOf (l.take j) (entOf l j))) ∧ Below W.heap.size W w') := by
    intro j hj ka kc W h1 h2
    obtain ⟨e1, e2, e3⟩ := hl
    refine checkEntry_any a j cap (l.take j) _ _ ka _ kc _ W ⟨by rw [List.length_take]; omega, by omega, fun k hk => ?_⟩ (h1.take j) (e3 j hj) rfl h2
    have : entOf (l.take j) k = entOf l k := by simp [entOf, List.getD_eq_getElem?_getD, hk]
    rw [this]; exact e3 k (by omega)
  have hsl : Hid (∀ j, j < n → ∀ W, (Instr.slice 29 (.slice a n cap) none (some (.int .i64 (j : Int))) none).run Tryd.prog W = .ok (.slice a j cap) W) := fun j hj W => slice_ents a n cap j (by omega) W
  have H0 : Hid ((∀ j, j < n → codeOf (l.take j) (entOf l j) = 0) → c = 0 ∧ pl = none) := h0
  have H1 : Hid (∀ j, j < n → (∀ k, k < j → codeOf (l.take k) (entOf l k) = 0) → codeOf (l.take j) (entOf l j) ≠ 0 → c = codeOf (l.take j) (entOf l j) ∧ pl = some j) := h1
  clear hl hl0 h0 h1 hc
  go_enter Tryd.func12, Tryd.ntmps12
  go_wp2
  go_loopw [2, 3, 4, 5, 12] (fun t2 _ _ _ t12 wr => ∃ i : Nat, t2 = .nilIface ∧ t12 = .int .i64 (i : Int) ∧ i ≤ n ∧ Below w.heap.size w wr ∧ Hid (∀ j, j < i → codeOf (l.take j) (entOf l j) = 0)) (fun _ _ _ _ t12 _ => n - (intOf t12).toNat)
  case atStart => exact ⟨0, rfl, rfl, Nat.zero_le _, Below.refl _ _, fun j hj => by omega⟩
  case round =>
    obtain ⟨i, rfl, rfl, hi, hbr, HI⟩ := hrel
    by_cases hin : i < n
    · have hlr := HL.out.below hbr (Nat.le_refl _)
      obtain ⟨x, hx, g0, g1, ka, kc, g2, hk⟩ := hlr.at (j := i) (by rw [← HN.out]; exact hin)
      subst hx
      have hs := hsl.out i hin
      have hcl := hce.out i hin ka kc
      have HX := H1.out i hin HI.out
      have HI2 : Hid (codeOf (l.take i) (entOf l i) = 0 → ∀ j, j < i + 1 → codeOf (l.take j) (entOf l j) = 0) := fun hq j hj => by
        by_cases hji : j = i
        · subst hji; exact hq
        · exact HI.out j (by omega)
      generalize codeOf (l.take i) (entOf l i) = r at hcl HX HI2
      generalize entOf l i = en at g0 g1 g2 hk hcl
      obtain ⟨p, sz, ks⟩ := en
      have hix := index_ent x n cap i hin
      simp only at g0 g1 g2 hk hcl
      generalize hkn : ks.length = kn at g2 hcl
      generalize x.add (i * 3) = q at g0 g1 g2 hix
      have HW : Hid (∀ W, (Below (wr.alloc (.cells #[.string p, .int .i64 sz, .slice ka kn kc] 37)).heap.size (wr.alloc (.cells #[.string p, .int .i64 sz, .slice ka kn kc] 37)) W ∧ W.cell? ⟨wr.heap.size, 0, none⟩ = some (.string p) ∧ W.cell? ⟨wr.heap.size, 1, none⟩ = some (.int .i64 sz) ∧ W.cell? ⟨wr.heap.size, 2, none⟩ = some (.slice ka kn kc)) →
          Calls Tryd.prog 25 #[.slice (some x) i cap, .agg #[.string p, .int .i64 sz, .slice ka kn kc]] W fun e w' => e = .returned (codeV r) ∧ (Below (wr.alloc (.cells #[.string p, .int .i64 sz, .slice ka kn kc] 37)).heap.size (wr.alloc (.cells #[.string p, .int .i64 sz, .slice ka kn kc] 37)) w' ∧ w'.cell? ⟨wr.heap.size, 0, none⟩ = some (.string p) ∧ w'.cell? ⟨wr.heap.size, 1, none⟩ = some (.int .i64 sz) ∧ w'.cell? ⟨wr.heap.size, 2, none⟩ = some (.slice ka kn kc))) := by
        rintro W ⟨b0, _⟩
        obtain ⟨_, _, _, b4, _⟩ := ent_box b0
        refine (hcl W (hlr.below b4 (Nat.le_refl _)) (hk.1.below b4 (Nat.le_refl _))).mono ?_
        rintro e w' ⟨rfl, hb⟩
        have b5 := b0.trans (hb.mono b0.size)
        obtain ⟨c0, c1, c2, _⟩ := ent_box b5
        exact ⟨rfl, b5, c0, c1, c2⟩
      have HBR : Hid (Below w.heap.size w wr) := hbr
      clear hlr hk hcl hkn HI hbr
      go_wp2_with fail
      go_region_held (fun W => (Below (wr.alloc (.cells #[.string p, .int .i64 sz, .slice ka kn kc] 37)).heap.size (wr.alloc (.cells #[.string p, .int .i64 sz, .slice ka kn kc] 37)) W ∧ W.cell? ⟨wr.heap.size, 0, none⟩ = some (.string p) ∧ W.cell? ⟨wr.heap.size, 1, none⟩ = some (.int .i64 sz) ∧ W.cell? ⟨wr.heap.size, 2, none⟩ = some (.slice ka kn kc))) (first | assumption | exact ⟨(Below.refl _ _).drew, by simp, by simp, by simp⟩)
        (first | (go_at_call 25; refine (HW.out _ (by assumption)).mono ?_; rintro e w2 ⟨rfl, hb2⟩))
      have HB2 : Hid (Below w.heap.size w w2) := HBR.out.trans ((ent_box hb2.1).2.2.2.1.mono HBR.out.size)
      clear hb2 HW
      rcases Nat.eq_zero_or_pos r with hr | hr
      · have HI3 : Hid (∀ j, j < i + 1 → codeOf (l.take j) (entOf l j) = 0) := HI2.out hr
        subst hr
        rw [show codeV 0 = .nilIface from rfl]
        clear HI2 HX
        go_wp2
        go_roundw
        case rel => exact ⟨i + 1, rfl, by go_num, by omega, HB2.out, HI3⟩
        case measure => simp [intOf]; omega
      · have HC : Hid (c = r ∧ pl = some i) := HX (by omega)
        rw [show codeV r = .iface 43 (.int .i64 (r : Int)) by rw [codeV, if_neg (by omega)]]
        clear HI2 HX
        have hsz := HB2.out.size
        go_wp2
        go_ret
        obtain ⟨rfl, rfl⟩ := HC.out
        exact ⟨⟨_, rfl, .inr (.inr ⟨by omega, i, w2.heap.size, rfl, rfl, hsz, by simp, by simp⟩)⟩, HB2.out.alloc hsz _⟩
    · have hq := H0.out (fun j hj => HI.out j (by omega))
      have HV : Hid (c = 0 ∧ pl = none) := hq
      clear HI hq
      go_wp2
      go_ret
      exact ⟨⟨_, rfl, .inl ⟨HV.out.1, HV.out.2, rfl⟩⟩, hbr⟩
end Go.Proofs.YtcjkficpiedpfabDoor.Tree
