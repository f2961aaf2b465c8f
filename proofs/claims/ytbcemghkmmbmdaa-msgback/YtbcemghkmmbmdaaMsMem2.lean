/-
  Get's two answers; rows of bytes of a law's own.
-/
import Derived.Test.YtbcemghkmmbmdaaMsGet3
import Derived.Test.YtbcemghkmmbmdaaMsShort
import Derived.Test.YtbcemghkmmbmdaaMsSame2
import Derived.Test.YtbcemghkmmbmdaaMsRef2
namespace Go.Proofs.Ytbcemghkmmbmdaa
open Go.RowKit

/-- A new slice without bytes. -/
theorem Buf.fresh (W : World) (b : Nat) (hb : b = W.heap.size) : Buf W.heap.size (.slice (some ⟨b, 0, none⟩) 0 0) [] W (W.alloc (.cells #[] 5)) := by
  subst hb
  exact ⟨World.ownsRow_made W #[] 0 (Nat.le_refl _) (Nat.zero_le _) rfl, (Below.refl _ _).alloc (Nat.le_refl _) _, by simp⟩

/-- 'append(out, b...)', b bytes that lie somewhere, or nil. -/
theorem wpList_bytes_any {ops : Array Oper} {rest : List Oper} {o : Oper} {a : Act} {Q : Exit → Act → World → Prop} {w : World} (hgd : o.guard = none) (sl x : Operand)
    (ho : o.op = .call { callee := .builtin .append, args := #[sl, x], argTypes := #[31, 31] })
    (B : Nat) (v : Value) (l : List UInt8) (hs : a.eval sl = v) (W0 : World) (hb : Buf B v l W0 w) (r : List UInt8) (ad : Option Addr) (k c : Nat) (hx : a.eval x = .slice ad k c) (hk : k = r.length) (hr : Lies w ad r) (hnil : ad = none → c = 0) (hkc : k ≤ c) (hlen : l.length + k ≤ 140737488355328)
    (h : ∀ v' w', Buf B v' (l ++ r) W0 w' → wpList Try.prog ops Q rest (a.put o.dst v') w') : wpList Try.prog ops Q (o :: rest) a w := by
  subst hk
  cases ad with
  | none =>
    obtain ⟨i0, hi, _, _, _⟩ := info_parts info5
    have hc : c = 0 := hnil rfl
    have hr0 : r = [] := List.eq_nil_of_length_eq_zero (by omega)
    subst hr0; subst hc
    refine wpList_append_own_none hgd sl x 31 ho B 5 i0 1 Try.underlying31 hi v l.length (bv l) hs hb.1 hx ?_
    exact h v w (by rw [List.append_nil]; exact hb)
  | some ad => exact wpList_bytes hgd sl x ho B v l hs W0 hb r ad c hx hr hlen h

/-- What is owned, its length under a name. -/
theorem Buf.words {B : Nat} {v : Value} {l : List UInt8} {W0 w : World} (h : Buf B v l W0 w) :
    ∃ a k cap, v = .slice a k cap ∧ Hid (k = l.length) ∧ k ≤ cap ∧ cap ≤ maxLen ∧ Lies w a l ∧ (0 < k → ∃ g, a = some ⟨g, 0, none⟩ ∧ B ≤ g) := by
  obtain ⟨ho, _, _⟩ := h
  rcases ho.2 with ⟨rfl, hn⟩ | ⟨g, cap, cur, rfl, hb, hg, hnc, hcm, hcs, ht⟩
  · have : l = [] := List.eq_nil_of_length_eq_zero hn
    subst this
    exact ⟨none, 0, 0, rfl, rfl, Nat.le_refl _, Nat.zero_le _, Or.inl rfl, fun h => absurd h (Nat.lt_irrefl _)⟩
  · exact ⟨some ⟨g, 0, none⟩, _, cap, rfl, rfl, hnc, hcm, Or.inr ⟨_, rfl, ho.cells rfl⟩, fun _ => ⟨g, rfl, hb⟩⟩

theorem conv_at {w : World} {a : Option Addr} {l : List UInt8} {k cap : Nat} {O : ByteArray} (h : Lies w a l) (hk : k = l.length) (hO : O = ⟨l.toArray⟩) :
    (convert 31 9 (.slice a k cap)).run Try.prog w = .ok (.string O) w := by
  subst hk; subst hO; exact conv_lies h


namespace Msg
open Route Order
theorem encM_few {m : Ms} (h : MsOk m) : (encM m).length ≤ 10000000 := by
  have k1 := h.k
  have k2 := h.f
  have k3 := h.v
  have k4 := h.s
  have k5 := h.b
  have k6 := h.pn
  have k8 := h.cn
  have k7 : m.s ≤ 1000 := by have := k4.2; split at this <;> omega
  have d1 := digs_len10 (n := m.k.toNat) (by omega)
  have d2 := digs_len10 (n := m.f.toNat) (by omega)
  have d3 := digs_len10 (n := m.v.toNat) (by omega)
  have d4 := digs_len10 (n := m.s.toNat) (by omega)
  have d6 := digs_len10 (n := m.p.length) (by omega)
  have d8 := digs_len10 (n := m.c.length) (by omega)
  have d7 := flatP_len h.p
  have d9 := flatC_len h.c
  have d5 : (txt m.b).length ≤ 4106 := by
    have h1 := digs_len10 (n := m.b.size) (by omega)
    have h2 : (txt m.b).length = (digs m.b.size).length + m.b.size := by unfold txt; rw [List.length_append]; simp
    omega
  unfold encM encPs
  simp only [List.length_append]
  omega
theorem getOk_enc {m : Ms} (h : MsOk m) : GetOk (encM m) := by
  have e := msgR_read (r := []) h
  rw [List.append_nil] at e
  unfold GetOk
  rw [e]
  exact ⟨rfl, Nat.le_refl _, h⟩
theorem getOk_row {m : Ms} (h : MsOk m) : (msgR (encM m)).1 = m := by
  have e := msgR_read (r := []) h
  rw [List.append_nil] at e
  rw [e]
theorem getOk_more {m : Ms} (h : MsOk m) (x : UInt8) : ¬ GetOk (encM m ++ [x]) := by
  have e := msgR_read (r := [x]) h
  unfold GetOk
  rw [e]
  rintro ⟨_, h2, _⟩
  rw [List.length_append] at h2
  simp only [List.length_cons, List.length_nil] at h2
  omega
theorem getOk_of {l : List UInt8} (h : GetOk l) : ∃ m, MsOk m ∧ encM m = l := ⟨_, h.2.2, msgR_sound h.1 h.2.1⟩
theorem lies_in {w : World} {a : Option Addr} {l : List UInt8} (h : Go.Proofs.Ytbcemghkmmbmdaa.Lies w a l) : l = [] ∨ ∀ y, a = some y → y.block < w.heap.size := by
  rcases h with h | ⟨y, hy, hc⟩
  · exact .inl h
  · cases l with
    | nil => exact .inl rfl
    | cons x r =>
      refine .inr fun z hz => ?_
      rw [hy] at hz
      cases hz
      have h0 := hc 0 (.int .u8 (x.toNat : Int)) (by simp [bv])
      by_cases hlt : y.block < w.heap.size
      · exact hlt
      · exfalso
        have hn : w.heap[y.block]? = none := Array.getElem?_eq_none (by omega)
        simp [World.cell?, Addr.add, hn] at h0
theorem get_ok {a : Option Addr} {n cap : Nat} {l : List UInt8} {w : World} (m : Ms) (hM : MsOk m) (he : encM m = l) (hn : n = l.length) (hl : Go.Proofs.Ytbcemghkmmbmdaa.Lies w a l) (hm : n ≤ 100000000) (hc : n ≤ cap) (hcm : cap ≤ maxLen) :
    Calls Try.prog 15 #[.slice a n cap] w fun e w' => ∃ pa pn pc ca cn cc, e = .returned (.tuple #[.agg (msV m pa pn pc ca cn cc), .nilIface]) ∧ Hid (MsIn w' m pa pn ca cn ∧ Below w.heap.size w w') := by
  refine (get_any a n cap l w hn hl hm hc hcm (lies_in hl)).mono ?_
  rintro e w' ⟨hb, ⟨_, z, rfl, hz, hr⟩ | ⟨hno, _⟩⟩
  · obtain ⟨pa, pc, ca, cc, h1, h2, h3⟩ := hr.sees
    have e1 : msOf z = m := by rw [hz, ← he]; exact getOk_row hM
    refine ⟨pa, z.p.length, pc, ca, z.c.length, cc, ?_, by rw [← e1]; exact h3, hb⟩
    rw [← e1]
    simp only [mzV, msV, msOf, h1, h2]
  · exact absurd (by rw [← he]; exact getOk_enc hM) hno
theorem get_no {a : Option Addr} {n cap : Nat} {l : List UInt8} {w : World} (hno : ¬ GetOk l) (hn : n = l.length) (hl : Go.Proofs.Ytbcemghkmmbmdaa.Lies w a l) (hm : n ≤ 100000000) (hc : n ≤ cap) (hcm : cap ≤ maxLen) :
    Calls Try.prog 15 #[.slice a n cap] w fun e w' => e = .returned (.tuple #[.agg zeroM, .iface 34 (.int .i64 2)]) ∧ Below w.heap.size w w' := by
  refine (get_any a n cap l w hn hl hm hc hcm (lies_in hl)).mono ?_
  rintro e w' ⟨hb, ⟨h, _⟩ | ⟨_, rfl⟩⟩
  · exact absurd h hno
  · exact ⟨rfl, hb⟩
end Msg
end Go.Proofs.Ytbcemghkmmbmdaa
