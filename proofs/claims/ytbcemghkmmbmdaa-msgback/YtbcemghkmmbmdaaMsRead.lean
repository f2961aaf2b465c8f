/-
  The program's reader: its box, and the contracts of its num and text.
-/
import Derived.Test.YtbcemghkmmbmdaaMsPut
import Derived.Test.YtbcemghkmmbmdaaText
import Derived.Deep.QuietTactic
import Derived.BigQuiet
namespace Go.Proofs.Ytbcemghkmmbmdaa.Order
open Go.RowKit Route

/-- A reader's box in block p: the bytes l, where it stands, whether it has failed. -/
structure Rd (T : TypeId) (w : World) (p : Nat) (a : Option Addr) (n cap : Nat) (l : List UInt8) (x : Nat) (f : Bool) : Prop where
  box : w.heap[p]? = some (.cells #[.slice a n cap, .int .i64 (x : Int), .bool f] T (0, 0))
  len : n = l.length
  lies : Lies w a l
  lim : n ≤ 100000000
  nc : n ≤ cap
  cm : cap ≤ maxLen
  at' : x ≤ n
  old : l = [] ∨ ∀ y, a = some y → y.block < p

/-- What a call may turn: the box in block p. -/
structure Tn (p : Nat) (w w' : World) : Prop where
  os : w'.os = w.os
  tape : w'.tape = w.tape
  output : w'.output = w.output
  size : w.heap.size ≤ w'.heap.size
  block : ∀ k, k < w.heap.size → k ≠ p → w'.heap[k]? = w.heap[k]?
theorem Tn.refl (p : Nat) (w : World) : Tn p w w := ⟨rfl, rfl, rfl, Nat.le_refl _, fun _ _ _ => rfl⟩
theorem Tn.trans {p : Nat} {u v w : World} (h : Tn p u v) (k : Tn p v w) : Tn p u w :=
  ⟨k.os.trans h.os, k.tape.trans h.tape, k.output.trans h.output, Nat.le_trans h.size k.size, fun i hi h1 => (k.block i (Nat.lt_of_lt_of_le hi h.size) h1).trans (h.block i hi h1)⟩
theorem Tn.of {p : Nat} {w w' : World} (h : Below w.heap.size w w') : Tn p w w' := ⟨h.os, h.tape, h.output, h.size, fun k hk _ => h.block k hk⟩
theorem Tn.setCell {p : Nat} {w w' : World} (h : Tn p w w') (i : Nat) (u : Value) : Tn p w (w'.setCell ⟨p, i, none⟩ u) :=
  ⟨h.os, h.tape, h.output, by simpa using h.size, fun k hk h1 => (Below.heap_setCell _ _ _ _ h1).trans (h.block k hk h1)⟩
theorem Tn.drewN {p : Nat} {w w' : World} (h : Tn p w w') (n : Nat) : Tn p w (w'.drewN n) := ⟨h.os, h.tape, h.output, h.size, h.block⟩
theorem Tn.below {p B : Nat} {w w' : World} (h : Tn p w w') (hp : B ≤ p) (hB : B ≤ w.heap.size) : Below B w w' :=
  ⟨h.os, h.tape, h.output, h.size, fun k hk => h.block k (by omega) (by omega)⟩

theorem three {w : World} {b : Nat} {x y z : Value} {T : TypeId} (h : w.heap[b]? = some (.cells #[x, y, z] T (0, 0))) :
    w.cell? ⟨b, 0, none⟩ = some x ∧ w.cell? ⟨b, 1, none⟩ = some y ∧ w.cell? ⟨b, 2, none⟩ = some z ∧ w.frozen? ⟨b, 0, none⟩ = false ∧ w.frozen? ⟨b, 1, none⟩ = false ∧ w.frozen? ⟨b, 2, none⟩ = false := by
  simp [World.cell?, World.frozen?, h]
theorem Lies.keep {w w' : World} {a : Option Addr} {l : List UInt8} (h : Lies w a l) (hk : l = [] ∨ ∀ y, a = some y → w'.heap[y.block]? = w.heap[y.block]?) : Lies w' a l := by
  rcases hk with h0 | hk
  · exact .inl h0
  rcases h with h | ⟨x, rfl, h⟩
  · exact .inl h
  · refine .inr ⟨x, rfl, fun j u hj => ?_⟩
    rw [World.cell?_of_block (w := w) (by rw [show (x.add j).block = x.block from by unfold Addr.add; split <;> rfl]; exact hk x rfl)]
    exact h j u hj
theorem Rd.lt {T : TypeId} {w : World} {p : Nat} {a : Option Addr} {n cap : Nat} {l : List UInt8} {x : Nat} {f : Bool} (h : Rd T w p a n cap l x f) : p < w.heap.size := (Array.getElem?_eq_some_iff.1 h.box).1
theorem Rd.keep {T : TypeId} {w w' : World} {p : Nat} {a : Option Addr} {n cap : Nat} {l : List UInt8} {x : Nat} {f : Bool} (h : Rd T w p a n cap l x f) (hk : ∀ k, k ≤ p → w'.heap[k]? = w.heap[k]?) : Rd T w' p a n cap l x f :=
  ⟨(hk p (Nat.le_refl _)).trans h.box, h.len, Lies.keep h.lies (h.old.imp id fun ho y hy => hk _ (Nat.le_of_lt (ho y hy))), h.lim, h.nc, h.cm, h.at', h.old⟩
theorem Rd.below {T : TypeId} {w w' : World} {p : Nat} {a : Option Addr} {n cap : Nat} {l : List UInt8} {x : Nat} {f : Bool} (h : Rd T w p a n cap l x f) (hb : Below w.heap.size w w') : Rd T w' p a n cap l x f :=
  h.keep fun k hk => hb.block k (Nat.lt_of_le_of_lt hk h.lt)
theorem Rd.setBad {T : TypeId} {w : World} {p : Nat} {a : Option Addr} {n cap : Nat} {l : List UInt8} {x : Nat} {f : Bool} (h : Rd T w p a n cap l x f) : Rd T (w.setCell ⟨p, 2, none⟩ (.bool true)) p a n cap l x true := by
  refine ⟨?_, h.len, Lies.keep h.lies (h.old.imp id fun ho y hy => Below.heap_setCell _ _ _ _ (by have := ho y hy; show y.block ≠ p; omega)), h.lim, h.nc, h.cm, h.at', h.old⟩
  simp [World.setCell, Array.getElem?_modify, h.box]
theorem Rd.setAt {T : TypeId} {w : World} {p : Nat} {a : Option Addr} {n cap : Nat} {l : List UInt8} {x : Nat} {f : Bool} (h : Rd T w p a n cap l x f) (y : Nat) (hy : y ≤ n) : Rd T (w.setCell ⟨p, 1, none⟩ (.int .i64 (y : Int))) p a n cap l y f := by
  refine ⟨?_, h.len, Lies.keep h.lies (h.old.imp id fun ho y hy => Below.heap_setCell _ _ _ _ (by have := ho y hy; show y.block ≠ p; omega)), h.lim, h.nc, h.cm, hy, h.old⟩
  simp [World.setCell, Array.getElem?_modify, h.box]

theorem neFormNil (w : World) : (binOp .neq 29 (.iface 34 (.int .i64 2)) .nilIface).run Try.prog w = .ok (.bool true) w := by kernel_rfl
theorem neLargeNil (w : World) : (binOp .neq 29 (.iface 34 (.int .i64 7)) .nilIface).run Try.prog w = .ok (.bool true) w := by kernel_rfl

/-- wire.GetNum, as the plain reading has it. -/
theorem getNum_yes {w : World} {a : Option Addr} {l : List UInt8} {n cap p m v q : Nat} (hn : n = l.length) (hl : Lies w a l) (hlim : n ≤ 100000000) (hnc : n ≤ cap) (hp : p ≤ n) (h : pn l m p = some (v, q)) :
    Calls Try.prog 87 #[.slice a n cap, .int .i64 (p : Int), .int .u64 (m : Int)] w fun e w' => e = .returned (.tuple #[.int .u64 (v : Int), .int .i64 (q : Int), .nilIface]) ∧ w' = w := by
  have h0 := h
  unfold pn at h
  split at h
  · cases h
  · rename_i hc
    simp only [Option.some.injEq, Prod.mk.injEq] at h
    obtain ⟨rfl, rfl⟩ := h
    refine (getNum_ok a l cap n p m _ _ w hn hl (by omega) hnc hp rfl (by omega) (by omega)).mono ?_
    rintro e w' ⟨rfl, rfl⟩
    exact ⟨rfl, rfl⟩
theorem getNum_no {a : Option Addr} {l : List UInt8} {n cap p m : Nat} (hn : n = l.length) (hlim : n ≤ 100000000) (hnc : n ≤ cap) (hp : p ≤ n) (h : pn l m p = none) :
    ∃ c : Int, (c = 2 ∨ c = 7) ∧ ∀ w, Lies w a l → Calls Try.prog 87 #[.slice a n cap, .int .i64 (p : Int), .int .u64 (m : Int)] w fun e w' => e = .returned (.tuple #[.int .u64 0, .int .i64 0, .iface 34 (.int .i64 c)]) ∧ w' = w := by
  unfold pn at h
  split at h
  · rename_i hc
    by_cases h0 : (rd 0 0 (l.drop p)).2 = 0
    · refine ⟨2, .inl rfl, fun w hl => (getNum_form a l cap n p m (rd 0 0 (l.drop p)).1 w hn hl (by omega) hnc hp (Prod.ext rfl h0)).mono ?_⟩
      rintro e w' ⟨rfl, rfl⟩
      exact ⟨rfl, rfl⟩
    · refine ⟨7, .inr rfl, fun w hl => (getNum_large a l cap n p m _ _ w hn hl (by omega) hnc hp rfl (by omega) (by omega)).mono ?_⟩
      rintro e w' ⟨rfl, rfl⟩
      exact ⟨rfl, rfl⟩
  · cases h

set_option maxHeartbeats 1000000000 in
theorem num_call {w : World} {p : Nat} {a : Option Addr} {n cap : Nat} {l : List UInt8} {x : Nat} {f : Bool} (h : Rd 70 w p a n cap l x f) (m : Nat) (hm : m ≤ 2147483647) :
    Calls Try.prog 65 #[.pointer (some ⟨p, 0, none⟩), .int .u64 (m : Int)] w fun e w' => e = .returned (.int .i64 ((num l m x f).1 : Int)) ∧ Hid (Rd 70 w' p a n cap l (num l m x f).2.1 (num l m x f).2.2 ∧ Tn p w w') := by
  have H : Hid (Rd 70 w p a n cap l x f) := h
  obtain ⟨c0, c1, c2, z0, z1, z2⟩ := three h.box
  have s1 := neNil
  have s2 := neFormNil
  have s3 := neLargeNil
  have hx := h.at'
  have hlim := h.lim
  cases f with
  | true =>
    have e : num l m x true = (0, x, true) := rfl
    rw [e]
    clear h e
    go_enter Try.func65, Try.ntmps65
    go_wp2
    go_ret
    exact ⟨rfl, H.out, Tn.refl _ _⟩
  | false =>
    cases hp : pn l m x with
    | none =>
      have e : num l m x false = (0, x, true) := by unfold num; rw [hp]
      rw [e]
      obtain ⟨c, hc, hcall⟩ := getNum_no (a := a) h.len h.lim h.nc h.at' hp
      have HC : Hid (∀ q, Calls Try.prog 87 #[.slice a n cap, .int .i64 (x : Int), .int .u64 (m : Int)] (w.drewN q) fun e w' => e = .returned (.tuple #[.int .u64 0, .int .i64 0, .iface 34 (.int .i64 c)]) ∧ w' = w.drewN q) := fun q => hcall _ h.lies
      clear h e hcall
      rcases hc with rfl | rfl
      all_goals
        go_enter Try.func65, Try.ntmps65
        go_wp2_with fail
        go_quiet ((go_at_call 87; exact Calls.quiet_of_same (HC.out _)))
        go_wp2
        go_ret
        exact ⟨rfl, Rd.setBad (w := w.drewN nq) ⟨H.out.box, H.out.len, H.out.lies, H.out.lim, H.out.nc, H.out.cm, H.out.at', H.out.old⟩, ((Tn.refl p w).drewN nq).setCell 2 _⟩
    | some vq =>
      obtain ⟨v, q⟩ := vq
      have e : num l m x false = (v, q, false) := by unfold num; rw [hp]
      rw [e]
      have hle := pn_le (by rw [← h.len]; exact h.at') hp
      have hv : v ≤ 2147483647 := by omega
      have hq : q ≤ n := by rw [h.len]; exact hle.2.2.2.2
      have HC : Hid (∀ k, Calls Try.prog 87 #[.slice a n cap, .int .i64 (x : Int), .int .u64 (m : Int)] (w.drewN k) fun e w' => e = .returned (.tuple #[.int .u64 (v : Int), .int .i64 (q : Int), .nilIface]) ∧ w' = w.drewN k) := fun k => getNum_yes h.len (w := w.drewN k) h.lies h.lim h.nc h.at' hp
      clear h e hle
      go_enter Try.func65, Try.ntmps65
      go_wp2_with fail
      go_quiet ((go_at_call 87; exact Calls.quiet_of_same (HC.out _)))
      go_wp2
      go_ret
      exact ⟨rfl, Rd.setAt (w := w.drewN nq) ⟨H.out.box, H.out.len, H.out.lies, H.out.lim, H.out.nc, H.out.cm, H.out.at', H.out.old⟩ q hq, ((Tn.refl p w).drewN nq).setCell 1 _⟩

/-- wire.GetText, as the plain reading has it. -/
theorem getText_yes {w : World} {a : Option Addr} {l : List UInt8} {n cap p m q : Nat} {s : ByteArray} (hn : n = l.length) (hl : Lies w a l) (hlim : n ≤ 100000000) (hnc : n ≤ cap) (hcm : cap ≤ maxLen) (hp : p ≤ n) (hm : m ≤ 4096) (h : px l m p = some (s, q)) :
    Calls Try.prog 88 #[.slice a n cap, .int .i64 (p : Int), .int .i64 (m : Int)] w fun e w' => e = .returned (.tuple #[.string s, .int .i64 (q : Int), .nilIface]) ∧ w' = w := by
  unfold px at h
  split at h
  · cases h
  · rename_i v q0 e
    have e0 := e
    unfold pn at e
    split at e
    · cases e
    · rename_i hc
      simp only [Option.some.injEq, Prod.mk.injEq] at e
      obtain ⟨rfl, rfl⟩ := e
      split at h
      · cases h
      · rename_i hc2
        simp only [Option.some.injEq, Prod.mk.injEq] at h
        obtain ⟨rfl, rfl⟩ := h
        refine (getText_ok a l cap n p m _ _ _ _ w hn hl (by omega) hnc hcm hp rfl (by omega) (by omega) hm rfl (by omega) rfl).mono ?_
        rintro e w' ⟨rfl, rfl⟩
        exact ⟨rfl, rfl⟩

set_option maxHeartbeats 1000000000 in
theorem getText_no {a : Option Addr} {l : List UInt8} {n cap p m : Nat} (hn : n = l.length) (hlim : n ≤ 100000000) (hnc : n ≤ cap) (hp : p ≤ n) (hm : m ≤ 4096) (h : px l m p = none) :
    ∃ c : Int, (c = 2 ∨ c = 7) ∧ ∀ w, Lies w a l → Calls Try.prog 88 #[.slice a n cap, .int .i64 (p : Int), .int .i64 (m : Int)] w fun e w' => e = .returned (.tuple #[.string ByteArray.empty, .int .i64 0, .iface 34 (.int .i64 c)]) ∧ w' = w := by
  have s1 := neNil
  have s2 := neFormNil
  have s3 := neLargeNil
  cases hpn : pn l m p with
  | none =>
    obtain ⟨c, hc, hcall⟩ := getNum_no (a := a) hn hlim hnc hp hpn
    refine ⟨c, hc, fun w hl => ?_⟩
    have HC : Hid (Calls _ _ _ _ _) := hcall w hl
    clear hcall hn hl hpn h
    rcases hc with rfl | rfl
    all_goals
      go_enter Try.func88, Try.ntmps88
      go_wp2_with fail
      refine HC.out.mono ?_
      rintro e w' ⟨rfl, rfl⟩
      go_wp2
      go_ret3
      exact ⟨rfl, rfl⟩
  | some vq =>
    obtain ⟨v, q⟩ := vq
    refine ⟨2, .inl rfl, fun w hl => ?_⟩
    have hle := pn_le (by rw [← hn]; exact hp) hpn
    have HC : Hid (Calls _ _ _ _ _) := getNum_yes (w := w) hn hl hlim hnc hp hpn
    unfold px at h
    rw [hpn] at h
    have hbig : n < q + v := by
      by_cases g : l.length < q + v
      · rw [hn]; exact g
      · exfalso
        have : (if l.length < q + v then (none : Option (ByteArray × Nat)) else some (⟨((l.drop q).take v).toArray⟩, q + v)) = none := h
        rw [if_neg g] at this
        cases this
    have hq : q ≤ n := by rw [hn]; exact hle.2.2.2.2
    have hv : v ≤ 4096 := by omega
    clear h hpn hle hn hl
    go_enter Try.func88, Try.ntmps88
    go_wp2_with fail
    refine HC.out.mono ?_
    rintro e w' ⟨rfl, rfl⟩
    go_wp2
    go_ret3
    exact ⟨rfl, rfl⟩

set_option maxHeartbeats 1000000000 in
theorem text_call {w : World} {p : Nat} {a : Option Addr} {n cap : Nat} {l : List UInt8} {x : Nat} {f : Bool} (h : Rd 70 w p a n cap l x f) :
    Calls Try.prog 67 #[.pointer (some ⟨p, 0, none⟩)] w fun e w' => e = .returned (.string (tex l 4096 x f).1) ∧ Hid (Rd 70 w' p a n cap l (tex l 4096 x f).2.1 (tex l 4096 x f).2.2 ∧ Tn p w w') := by
  have H : Hid (Rd 70 w p a n cap l x f) := h
  obtain ⟨c0, c1, c2, z0, z1, z2⟩ := three h.box
  have s1 := neNil
  have s2 := neFormNil
  have s3 := neLargeNil
  have hx := h.at'
  have hlim := h.lim
  cases f with
  | true =>
    have e : tex l 4096 x true = (ByteArray.empty, x, true) := rfl
    rw [e]
    clear h e
    go_enter Try.func67, Try.ntmps67
    go_wp2
    go_ret
    exact ⟨rfl, H.out, Tn.refl _ _⟩
  | false =>
    cases hp : px l 4096 x with
    | none =>
      have e : tex l 4096 x false = (ByteArray.empty, x, true) := by unfold tex; rw [hp]
      rw [e]
      obtain ⟨c, hc, hcall⟩ := getText_no (a := a) h.len h.lim h.nc h.at' (Nat.le_refl _) hp
      have HC : Hid (∀ q, Calls Try.prog 88 #[.slice a n cap, .int .i64 (x : Int), .int .i64 ((4096 : Nat) : Int)] (w.drewN q) fun e w' => e = .returned (.tuple #[.string ByteArray.empty, .int .i64 0, .iface 34 (.int .i64 c)]) ∧ w' = w.drewN q) := fun q => hcall _ h.lies
      clear h e hcall
      rcases hc with rfl | rfl
      all_goals
        go_enter Try.func67, Try.ntmps67
        go_wp2_with fail
        go_quiet ((go_at_call 88; exact Calls.quiet_of_same (HC.out _)))
        go_wp2
        go_ret
        exact ⟨rfl, Rd.setBad (w := w.drewN nq) ⟨H.out.box, H.out.len, H.out.lies, H.out.lim, H.out.nc, H.out.cm, H.out.at', H.out.old⟩, ((Tn.refl p w).drewN nq).setCell 2 _⟩
    | some vq =>
      obtain ⟨v, q⟩ := vq
      have e : tex l 4096 x false = (v, q, false) := by unfold tex; rw [hp]
      rw [e]
      have hle := px_le (by rw [← h.len]; exact h.at') hp
      have hq : q ≤ n := by rw [h.len]; exact hle.2.2.2
      have HC : Hid (∀ k, Calls Try.prog 88 #[.slice a n cap, .int .i64 (x : Int), .int .i64 ((4096 : Nat) : Int)] (w.drewN k) fun e w' => e = .returned (.tuple #[.string v, .int .i64 (q : Int), .nilIface]) ∧ w' = w.drewN k) := fun k => getText_yes h.len (w := w.drewN k) h.lies h.lim h.nc h.cm h.at' (Nat.le_refl _) hp
      clear h e hle
      go_enter Try.func67, Try.ntmps67
      go_wp2_with fail
      go_quiet ((go_at_call 88; exact Calls.quiet_of_same (HC.out _)))
      go_wp2
      go_ret
      exact ⟨rfl, Rd.setAt (w := w.drewN nq) ⟨H.out.box, H.out.len, H.out.lies, H.out.lim, H.out.nc, H.out.cm, H.out.at', H.out.old⟩ q hq, ((Tn.refl p w).drewN nq).setCell 1 _⟩
end Go.Proofs.Ytbcemghkmmbmdaa.Order
