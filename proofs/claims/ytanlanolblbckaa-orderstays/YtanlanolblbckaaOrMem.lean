/-
  Rows of bytes of a law's own: new ones, bytes copied, a byte written over.
-/
import Derived.Test.YtanlanolblbckaaOrPuts
namespace Go.Proofs.Ytanlanolblbckaa
open Go.RowKit

/-- A new slice without bytes. -/
theorem Buf.fresh (W : World) (b : Nat) (hb : b = W.heap.size) : Buf W.heap.size (.slice (some ⟨b, 0, none⟩) 0 0) [] W (W.alloc (.cells #[] 5)) := by
  subst hb
  exact ⟨World.ownsRow_made W #[] 0 (Nat.le_refl _) (Nat.zero_le _) rfl, (Below.refl _ _).alloc (Nat.le_refl _) _, by simp⟩

/-- 'append(out, b...)', b bytes that lie somewhere, or nil. -/
theorem wpList_bytes_any {ops : Array Oper} {rest : List Oper} {o : Oper} {a : Act} {Q : Exit → Act → World → Prop} {w : World} (hgd : o.guard = none) (sl x : Operand)
    (ho : o.op = .call { callee := .builtin .append, args := #[sl, x], argTypes := #[32, 32] })
    (B : Nat) (v : Value) (l : List UInt8) (hs : a.eval sl = v) (W0 : World) (hb : Buf B v l W0 w) (r : List UInt8) (ad : Option Addr) (k c : Nat) (hx : a.eval x = .slice ad k c) (hk : k = r.length) (hr : Lies w ad r) (hnil : ad = none → c = 0) (hkc : k ≤ c) (hlen : l.length + k ≤ 140737488355328)
    (h : ∀ v' w', Buf B v' (l ++ r) W0 w' → wpList Try.prog ops Q rest (a.put o.dst v') w') : wpList Try.prog ops Q (o :: rest) a w := by
  subst hk
  cases ad with
  | none =>
    obtain ⟨i0, hi, _, _, _⟩ := info_parts info5
    have hc : c = 0 := hnil rfl
    have hr0 : r = [] := List.eq_nil_of_length_eq_zero (by omega)
    subst hr0; subst hc
    refine wpList_append_own_none hgd sl x 32 ho B 5 i0 1 Try.underlying32 hi v l.length (bv l) hs hb.1 hx ?_
    exact h v w (by rw [List.append_nil]; exact hb)
  | some ad => exact wpList_bytes hgd sl x ho B v l hs W0 hb r ad c hx hr hlen h

/-- What is owned, its length under a name. -/
theorem Buf.words {B : Nat} {v : Value} {l : List UInt8} {W0 w : World} (h : Buf B v l W0 w) :
    ∃ a k cap, v = .slice a k cap ∧ Hid (k = l.length) ∧ k ≤ cap ∧ cap ≤ maxLen ∧ Lies w a l ∧ (0 < k → ∃ g, a = some ⟨g, 0, none⟩ ∧ B ≤ g) := by
  obtain ⟨ho, _, _⟩ := h
  rcases ho.2 with ⟨rfl, hn⟩ | ⟨g, cap, cur, rfl, hb, hg, hnc, hcm, hcs, ht⟩
  · have : l = [] := List.eq_nil_of_length_eq_zero hn
    subst this
    exact ⟨none, 0, 0, rfl, rfl, Nat.le_refl _, Nat.zero_le _, Or.inl rfl, fun h => absurd h (Nat.lt_irrefl _)⟩
  · exact ⟨some ⟨g, 0, none⟩, _, cap, rfl, rfl, hnc, hcm, Or.inr ⟨_, rfl, ho.cells rfl⟩, fun _ => ⟨g, rfl, hb⟩⟩

theorem conv_at {w : World} {a : Option Addr} {l : List UInt8} {k cap : Nat} {O : ByteArray} (h : Lies w a l) (hk : k = l.length) (hO : O = ⟨l.toArray⟩) :
    (convert 32 9 (.slice a k cap)).run Try.prog w = .ok (.string O) w := by
  subst hk; subst hO; exact conv_lies h

/-- A byte of an owned row is there, and may be written; written, the row is still owned. -/
theorem Buf.at_ {B g k cap : Nat} {yl : List UInt8} {W0 w : World} (h : Buf B (.slice (some ⟨g, 0, none⟩) k cap) yl W0 w) (hk : k = yl.length) (j : Nat) (hj : j < k) :
    ∃ d : Nat, d < 256 ∧ w.cell? ⟨g, j, none⟩ = some (.int .u8 (d : Int)) ∧ w.frozen? ⟨g, j, none⟩ = false := by
  subst hk
  refine ⟨(yl[j]).toNat, (yl[j]).toNat_lt, ?_, h.1.frozenAt j⟩
  rw [h.1.cellAt j (by omega)]
  simp [bv, List.getElem?_eq_getElem hj]

theorem Buf.set {B g k cap : Nat} {yl : List UInt8} {W0 w : World} (h : Buf B (.slice (some ⟨g, 0, none⟩) k cap) yl W0 w) (hk : k = yl.length) (hB : B ≤ g) (j c : Nat) (hc : c < 256) :
    ∃ yl' : List UInt8, k = yl'.length ∧ Buf B (.slice (some ⟨g, 0, none⟩) k cap) yl' W0 (w.setCell ⟨g, j, none⟩ (.int .u8 (c : Int))) := by
  refine ⟨yl.set j (UInt8.ofNat c), by rw [hk]; simp, ?_, h.2.1.setCell hB _, by simpa [World.setCell] using h.2.2⟩
  have h1 : w.ownsRow B 5 1 (.slice (some ⟨g, 0, none⟩) k cap) k (bv yl) := by have := h.1; rw [← hk] at this; exact this
  have h2 := (h1.stored j (.int .u8 (c : Int))).1
  have e : bv (yl.set j (UInt8.ofNat c)) = (bv yl).set j (.int .u8 (c : Int)) := by
    simp only [bv, List.map_set, u8_small hc]
  rw [e, List.length_set, ← hk]
  exact h2
theorem Buf.later {B : Nat} {v : Value} {l : List UInt8} {W0 w w' : World} (h : Buf B v l W0 w) (hb : Below w.heap.size w w') : Buf B v l W0 w' :=
  ⟨Order.own_later5 h.1 hb, h.2.1.trans (hb.mono h.2.2), Nat.le_trans h.2.2 hb.size⟩

namespace Order
open Route
theorem more_not {r : Rq} (h : may r = true) (x : UInt8) : ¬ IsReq (enc r ++ [x]) := by
  rintro ⟨s, hs, e⟩
  have := (enc_one h hs (x := [x]) (y := []) (by rw [e, List.append_nil])).2
  cases this
end Order
end Go.Proofs.Ytanlanolblbckaa
