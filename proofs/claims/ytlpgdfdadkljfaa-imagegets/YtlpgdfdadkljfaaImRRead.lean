/-
  The answer's reader: the contracts of its Num and Text.
-/
import Derived.Test.YtlpgdfdadkljfaaImRead2
import Derived.Test.YtlpgdfdadkljfaaLgRef
import Derived.Deep.RegionHeld
namespace Go.Proofs.Ytlpgdfdadkljfaa.Order
open Go.RowKit Route

theorem Rd.drw {T : TypeId} {w : World} {p : Nat} {a : Option Addr} {n cap : Nat} {l : List UInt8} {x : Nat} {f : Bool} (h : Rd T w p a n cap l x f) (q : Nat) : Rd T (w.drewN q) p a n cap l x f := h.keep fun _ _ => rfl

set_option maxHeartbeats 1000000 in
theorem refGet_end (a : Option Addr) (n cap : Nat) (w : World) (hn : n ≤ 100000000) :
    Calls Try.prog 48 #[.slice a n cap, .int .i64 (n : Int)] w fun e w' => e = .returned (.tuple #[.int .u64 0, .int .i64 0]) ∧ w' = w := by
  go_enter Try.func48, Try.ntmps48
  go_wp2
  go_loop [6] (fun t => t = .int .i64 0) (fun _ => 0)
  case atStart => rfl
  case round =>
    subst hrel
    go_wp2
    go_ret2
    exact ⟨rfl, rfl⟩

/-- The answer's GetNum, wherever it is asked. -/
theorem refGetNum {w : World} {a : Option Addr} {l : List UInt8} {n cap p : Nat} (hn : n = l.length) (hl : Lies w a l) (hlim : n ≤ 1000000) (hnc : n ≤ cap) (hcm : cap ≤ maxLen) (hp : p ≤ n) :
    Calls Try.prog 48 #[.slice a n cap, .int .i64 (p : Int)] w fun e w' => e = .returned (.tuple #[.int .u64 ((rd 0 0 (l.drop p)).1 : Int), .int .i64 ((rd 0 0 (l.drop p)).2 : Int)]) ∧ Below w.heap.size w w' := by
  by_cases h : p < n
  · exact refGet_any a l cap n p w hn hl (by omega) hnc hcm h
  · have e : p = n := by omega
    subst e
    have hd : l.drop p = [] := List.drop_eq_nil_of_le (by omega)
    rw [hd]
    refine (refGet_end a p cap w (by omega)).mono ?_
    rintro e w' ⟨rfl, rfl⟩
    exact ⟨rfl, Below.refl _ _⟩

set_option maxHeartbeats 4000000 in
theorem refNum_call {w : World} {p : Nat} {a : Option Addr} {n cap : Nat} {l : List UInt8} {x : Nat} {f : Bool} (h : Rd 70 w p a n cap l x f) (hsm : n ≤ 1000000) (m : Nat) (hm : m ≤ 65536) :
    Calls Try.prog 30 #[.pointer (some ⟨p, 0, none⟩), .int .u64 (m : Int)] w fun e w' => e = .returned (.int .i64 ((num l m x f).1 : Int)) ∧ Hid (Rd 70 w' p a n cap l (num l m x f).2.1 (num l m x f).2.2 ∧ Tn p w w') := by
  have H : Hid (Rd 70 w p a n cap l x f) := h
  obtain ⟨c0, c1, c2, z0, z1, z2⟩ := three h.box
  have hx := h.at'
  have hlim := h.lim
  cases f with
  | true =>
    have e : num l m x true = (0, x, true) := rfl
    rw [e]
    clear h e
    go_enter Try.func30, Try.ntmps30
    go_wp2
    go_ret
    exact ⟨rfl, H.out, Tn.refl _ _⟩
  | false =>
    obtain ⟨u, hu⟩ : ∃ u, u = (rd 0 0 (l.drop x)).1 := ⟨_, rfl⟩
    obtain ⟨v, hv⟩ : ∃ v, v = (rd 0 0 (l.drop x)).2 := ⟨_, rfl⟩
    have HC : Hid (∀ W, Rd 70 W p a n cap l x false → Calls Try.prog 48 #[.slice a n cap, .int .i64 (x : Int)] W fun e w' => e = .returned (.tuple #[.int .u64 (u : Int), .int .i64 (v : Int)]) ∧ (Rd 70 w' p a n cap l x false ∧ Below W.heap.size W w')) := fun W hW => by
      rw [hu, hv]
      refine (refGetNum hW.len hW.lies hsm hW.nc hW.cm hW.at').mono ?_
      rintro e w' ⟨rfl, hb⟩
      exact ⟨rfl, hW.below hb, hb⟩
    have HP : Hid (pn l m x = if v = 0 ∨ m < u then none else some (u, x + v)) := by rw [hu, hv]; exact rfl
    have hvn : v ≤ n - x := by
      have := rd_le (l.drop x) 0 0
      rw [← hv, List.length_drop, ← h.len] at this
      omega
    have HS : Hid (∀ W, Rd 70 W p a n cap l x false ∧ Below w.heap.size w W → (fun W => (Rd 70 W p a n cap l x false ∧ Below w.heap.size w W) ∧ W.cell? ⟨p, 0, none⟩ = some (.slice a n cap) ∧ W.cell? ⟨p, 1, none⟩ = some (.int .i64 (x : Int))) W) := fun W hW => ⟨hW, (three hW.1.box).1, (three hW.1.box).2.1⟩
    have HC2 : Hid (∀ W, Rd 70 W p a n cap l x false ∧ Below w.heap.size w W → Calls Try.prog 48 #[.slice a n cap, .int .i64 (x : Int)] W fun e w' => e = .returned (.tuple #[.int .u64 (u : Int), .int .i64 (v : Int)]) ∧ (fun W => (Rd 70 W p a n cap l x false ∧ Below w.heap.size w W) ∧ W.cell? ⟨p, 0, none⟩ = some (.slice a n cap) ∧ W.cell? ⟨p, 1, none⟩ = some (.int .i64 (x : Int))) w') := fun W hW => by
      refine (HC.out W hW.1).mono ?_
      rintro e w' ⟨rfl, hr, hb⟩
      exact ⟨rfl, HS.out w' ⟨hr, hW.2.trans (hb.mono hW.2.size)⟩⟩
    have hS0 : (Rd 70 w p a n cap l x false ∧ Below w.heap.size w w) := ⟨H.out, Below.refl _ _⟩
    have hS1 : (Rd 70 w.drew p a n cap l x false ∧ Below w.heap.size w w.drew) := ⟨H.out.keep fun _ _ => rfl, (Below.refl _ _).drew⟩
    have HS0 : Hid (Rd 70 w p a n cap l x false ∧ Below w.heap.size w w) := hS0
    have HS1 : Hid (Rd 70 w.drew p a n cap l x false ∧ Below w.heap.size w w.drew) := hS1
    clear h hu hv HC hS0 hS1
    by_cases hv0 : v = 0
    · have e : num l m x false = (0, x, true) := by unfold num; rw [HP.out, if_pos (.inl hv0)]
      rw [e]
      subst hv0
      clear e HP
      go_enter Try.func30, Try.ntmps30
      go_wp2
      go_region_held (fun W => (Rd 70 W p a n cap l x false ∧ Below w.heap.size w W) ∧ W.cell? ⟨p, 0, none⟩ = some (.slice a n cap) ∧ W.cell? ⟨p, 1, none⟩ = some (.int .i64 (x : Int))) (first | assumption | exact HS.out _ HS1.out | exact HS.out _ HS0.out)
        (first | (go_at_call 48; refine (HC2.out _ (by first | exact HS1.out | exact HS0.out | (rename_i hS; exact hS.1))).mono ?_; rintro e w6 ⟨rfl, hS6⟩))
      all_goals
        have HR6 : Hid (Rd 70 w6 p a n cap l x false ∧ Below w.heap.size w w6) := hS6.1
        obtain ⟨d0, d1, d2, g0, g1, g2⟩ := three hS6.1.1.box
        clear hS6
        go_wp2
        go_ret
        exact ⟨rfl, HR6.out.1.setBad, (Tn.of HR6.out.2).setCell 2 _⟩
    · by_cases hmu : m < u
      · have e : num l m x false = (0, x, true) := by unfold num; rw [HP.out, if_pos (.inr hmu)]
        rw [e]
        have e0 : ((v : Int) == 0) = false := by simp; omega
        clear e HP
        go_enter Try.func30, Try.ntmps30
        go_wp2
        go_region_held (fun W => (Rd 70 W p a n cap l x false ∧ Below w.heap.size w W) ∧ W.cell? ⟨p, 0, none⟩ = some (.slice a n cap) ∧ W.cell? ⟨p, 1, none⟩ = some (.int .i64 (x : Int))) (first | assumption | exact HS.out _ HS1.out | exact HS.out _ HS0.out)
          (first | (go_at_call 48; refine (HC2.out _ (by first | exact HS1.out | exact HS0.out | (rename_i hS; exact hS.1))).mono ?_; rintro e w6 ⟨rfl, hS6⟩))
        all_goals
          have HR6 : Hid (Rd 70 w6 p a n cap l x false ∧ Below w.heap.size w w6) := hS6.1
          obtain ⟨d0, d1, d2, g0, g1, g2⟩ := three hS6.1.1.box
          clear hS6
          go_wp2
          go_ret
          exact ⟨rfl, HR6.out.1.setBad, (Tn.of HR6.out.2).setCell 2 _⟩
      · have e : num l m x false = (u, x + v, false) := by unfold num; rw [HP.out, if_neg (by omega)]
        rw [e]
        have e0 : ((v : Int) == 0) = false := by simp; omega
        have hu5 : u ≤ 65536 := by omega
        clear e HP
        go_enter Try.func30, Try.ntmps30
        go_wp2
        go_region_held (fun W => (Rd 70 W p a n cap l x false ∧ Below w.heap.size w W) ∧ W.cell? ⟨p, 0, none⟩ = some (.slice a n cap) ∧ W.cell? ⟨p, 1, none⟩ = some (.int .i64 (x : Int))) (first | assumption | exact HS.out _ HS1.out | exact HS.out _ HS0.out)
          (first | (go_at_call 48; refine (HC2.out _ (by first | exact HS1.out | exact HS0.out | (rename_i hS; exact hS.1))).mono ?_; rintro e w6 ⟨rfl, hS6⟩))
        all_goals
          have HR6 : Hid (Rd 70 w6 p a n cap l x false ∧ Below w.heap.size w w6) := hS6.1
          obtain ⟨d0, d1, d2, g0, g1, g2⟩ := three hS6.1.1.box
          clear hS6
          have HA6 : Hid (Rd 70 (w6.setCell ⟨p, 1, none⟩ (.int .i64 ((x : Int) + (v : Int)))) p a n cap l (x + v) false) := by
            have := HR6.out.1.setAt (x + v) (by omega)
            rw [Int.natCast_add] at this
            exact this
          go_wp2
          go_ret
          exact ⟨rfl, HA6.out, (Tn.of HR6.out.2).setCell 1 _⟩

/-- A text, as the answer's reader reads it: where it isn't there the number has been passed. -/
def tex2 (l : List UInt8) (p : Nat) (f : Bool) : ByteArray × Nat × Bool :=
  match f, pn l 4096 p with
  | true, _ => (ByteArray.empty, p, true)
  | false, none => (ByteArray.empty, p, true)
  | false, some (n, q) => if l.length < q + n then (ByteArray.empty, q, true) else (⟨((l.drop q).take n).toArray⟩, q + n, false)

/-- 'b[y : y+v]', wherever it lies. -/
theorem slice_cut {a : Option Addr} {l : List UInt8} {n cap y v : Nat} (_ : n = l.length) (hnc : n ≤ cap) (hf : y + v ≤ n) :
    ∃ (a' : Option Addr) (c' : Nat), (∀ W, (Instr.slice 30 (.slice a n cap) (some (.int .i64 (y : Int))) (some (.int .i64 ((y : Int) + (v : Int)))) none).run Try.prog W = .ok (.slice a' v c') W) ∧ (∀ W, Lies W a l → Lies W a' ((l.drop y).take v)) := by
  have el : Try.prog.elem 30 = 5 := by kernel_rfl
  by_cases hc : cap = y
  · have hv : v = 0 := by omega
    subst hv
    refine ⟨a, 0, fun W => ?_, fun W _ => .inl (by simp)⟩
    have := run_slice_lh (P := Try.prog) W 30 a n cap (by kernel_rfl) .i64 .i64 (y : Int) ((y : Int) + ((0 : Nat) : Int)) (by omega) (by omega) (by omega)
    rw [this, el, Try.sizeOf5]
    simp [sliced, hc, Result.andThen]
  · refine ⟨a.map (·.add y), cap - y, fun W => ?_, fun W h => Lies.mid h y v⟩
    have := run_slice_lh (P := Try.prog) W 30 a n cap (by kernel_rfl) .i64 .i64 (y : Int) ((y : Int) + (v : Int)) (by omega) (by omega) (by omega)
    rw [this, el, Try.sizeOf5]
    simp [sliced, hc, Result.andThen]
    omega

set_option maxHeartbeats 4000000 in
theorem refText_call {w : World} {p : Nat} {a : Option Addr} {n cap : Nat} {l : List UInt8} {x : Nat} {f : Bool} (h : Rd 70 w p a n cap l x f) (hsm : n ≤ 1000000) :
    Calls Try.prog 31 #[.pointer (some ⟨p, 0, none⟩)] w fun e w' => e = .returned (.string (tex2 l x f).1) ∧ Hid (Rd 70 w' p a n cap l (tex2 l x f).2.1 (tex2 l x f).2.2 ∧ Tn p w w') := by
  have hnum := refNum_call h hsm 4096 (by omega)
  have hx := h.at'
  have hlim := h.lim
  have hbad : ∀ A : Nat × Nat × Bool, num l 4096 x f = A → A.2.2 = true → tex2 l x f = (ByteArray.empty, A.2.1, true) := fun A hA h1 => by
    subst hA
    unfold num at h1 ⊢
    unfold tex2
    split at h1
    · rfl
    · rename_i e; rw [e]
    · cases h1
  have hgood : ∀ A : Nat × Nat × Bool, num l 4096 x f = A → A.2.2 = false → (tex2 l x f = if l.length < A.2.1 + A.1 then (ByteArray.empty, A.2.1, true) else (⟨((l.drop A.2.1).take A.1).toArray⟩, A.2.1 + A.1, false)) ∧ A.1 ≤ 4096 ∧ A.2.1 ≤ l.length := fun A hA h1 => by
    subst hA
    obtain ⟨g1, g2⟩ := num_ok h1
    subst g1
    have hle := pn_le (by rw [← h.len]; exact h.at') g2
    refine ⟨?_, hle.1, hle.2.2.2.2⟩
    unfold tex2
    rw [g2]
  have HLN : Hid (n = l.length) := h.len
  generalize num l 4096 x f = A at hnum hbad hgood
  obtain ⟨v, y, b⟩ := A
  have HN : Hid (Calls _ _ _ _ _) := hnum
  clear hnum h
  cases b with
  | true =>
    rw [hbad _ rfl rfl]
    clear hbad hgood
    go_enter Try.func31, Try.ntmps31
    go_wp2_with fail
    refine HN.out.mono ?_
    rintro e w1 ⟨rfl, hr⟩
    have HR : Hid (Rd 70 w1 p a n cap l y true ∧ Tn p w w1) := hr
    obtain ⟨d0, d1, d2, g0, g1, g2⟩ := three hr.out.1.box
    clear hr HN
    go_wp2
    go_quiet (fail)
    go_wp2
    go_ret
    exact ⟨rfl, (HR.out.1.drw nq).setBad, (HR.out.2.drewN nq).setCell 2 _⟩
  | false =>
    obtain ⟨e1, hv, hy⟩ := hgood _ rfl rfl
    simp only at e1 hv hy
    rw [← HLN.out] at e1 hy
    by_cases hbig : n < y + v
    · rw [e1, if_pos hbig]
      have hd : decide ((n : Int) - (y : Int) < (v : Int)) = true := decide_eq_true (by omega)
      clear hbad hgood e1
      go_enter Try.func31, Try.ntmps31
      go_wp2_with fail
      refine HN.out.mono ?_
      rintro e w1 ⟨rfl, hr⟩
      have HR : Hid (Rd 70 w1 p a n cap l y false ∧ Tn p w w1) := hr
      obtain ⟨d0, d1, d2, g0, g1, g2⟩ := three hr.out.1.box
      clear hr HN
      go_wp2
      go_quiet (fail)
      go_wp2
      go_ret
      exact ⟨rfl, (HR.out.1.drw nq).setBad, (HR.out.2.drewN nq).setCell 2 _⟩
    · rw [e1, if_neg hbig]
      have hd : decide ((n : Int) - (y : Int) < (v : Int)) = false := decide_eq_false (by omega)
      obtain ⟨D, hD⟩ : ∃ D : ByteArray, D = ⟨((l.drop y).take v).toArray⟩ := ⟨_, rfl⟩
      rw [← hD]
      have HD : Hid (D = ⟨((l.drop y).take v).toArray⟩) := hD
      have hwr : IntKind.i64.wrap ((y : Int) + (v : Int)) = (y : Int) + (v : Int) := by rw [IntKind.wrap_i64]; omega
      have hwr2 : IntKind.i64.wrap ((n : Int) - (y : Int)) = (n : Int) - (y : Int) := by rw [IntKind.wrap_i64]; omega
      clear hbad hgood e1 hD
      go_enter Try.func31, Try.ntmps31
      go_wp2_with fail
      refine HN.out.mono ?_
      rintro e w1 ⟨rfl, hr⟩
      have HR : Hid (Rd 70 w1 p a n cap l y false ∧ Tn p w w1) := hr
      obtain ⟨d0, d1, d2, g0, g1, g2⟩ := three hr.out.1.box
      clear hr HN
      go_wp2
      go_quiet (fail)
      have HR2 : Hid (Rd 70 (w1.drewN nq) p a n cap l y false ∧ Tn p w (w1.drewN nq)) := ⟨HR.out.1.drw nq, HR.out.2.drewN nq⟩
      clear d0 d1 d2 g0 g1 g2 HR
      go_wp2
      generalize w1.drewN nq = w2 at HR2 ⊢
      obtain ⟨d0, d1, d2, g0, g1, g2⟩ := three HR2.out.1.box
      obtain ⟨a', c', hsl, hll⟩ := slice_cut (a := a) (l := l) (y := y) (v := v) HLN.out HR2.out.1.nc (by omega)
      have hcv : ∀ q, (convert 30 9 (.slice a' v c')).run Try.prog (w2.drewN q) = .ok (.string D) (w2.drewN q) := fun q => by
        have hk : v = ((l.drop y).take v).length := by rw [List.length_take, List.length_drop, ← HLN.out]; omega
        exact conv_named (hll _ (HR2.out.1.drw q).lies) hk HD.out
      go_quiet (fail)
      have HR3 : Hid (Rd 70 (w2.drewN nq) p a n cap l y false ∧ Tn p w (w2.drewN nq)) := ⟨HR2.out.1.drw nq, HR2.out.2.drewN nq⟩
      clear d0 d1 d2 g0 g1 g2 HR2 hcv hsl hll
      generalize w2.drewN nq = w3 at HR3 ⊢
      obtain ⟨d0, d1, d2, g0, g1, g2⟩ := three HR3.out.1.box
      have HA : Hid (Rd 70 (w3.setCell ⟨p, 1, none⟩ (.int .i64 ((y : Int) + (v : Int)))) p a n cap l (y + v) false) := by
        have := HR3.out.1.setAt (y + v) (by omega)
        rw [Int.natCast_add] at this
        exact this
      go_wp2
      go_ret
      exact ⟨rfl, HA.out, HR3.out.2.setCell 1 _⟩
end Go.Proofs.Ytlpgdfdadkljfaa.Order
