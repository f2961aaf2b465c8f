/-
  Contracts that the walks stand on, several texts in one: OrOp, OrPut, OrShort.
-/
import Derived.Test.YtlpgdfdadkljfaaMgC

/-
  The contracts of mayBeOp and mayBe.
-/
namespace Go.Proofs.Ytlpgdfdadkljfaa.Order
open Go.RowKit Route

/-- The cells of a block in a later world. -/
theorem bcells {W w1 : World} {b : Nat} {cs : Array Value} {T : TypeId} (h : W.heap[b]? = some (.cells cs T (0, 0))) (hb : Below W.heap.size W w1) : w1.heap[b]? = some (.cells cs T (0, 0)) :=
  (hb.block b (Array.getElem?_eq_some_iff.1 h).1).trans h
theorem five {w : World} {b : Nat} {x0 x1 x2 x3 x4 : Value} {T : TypeId} (h : w.heap[b]? = some (.cells #[x0, x1, x2, x3, x4] T (0, 0))) :
    w.cell? ⟨b, 0, none⟩ = some x0 ∧ w.cell? ⟨b, 1, none⟩ = some x1 ∧ w.cell? ⟨b, 2, none⟩ = some x2 ∧ w.cell? ⟨b, 3, none⟩ = some x3 ∧ w.cell? ⟨b, 4, none⟩ = some x4 := by
  simp [World.cell?, h]
theorem four {w : World} {b : Nat} {x0 x1 x2 x3 : Value} {T : TypeId} (h : w.heap[b]? = some (.cells #[x0, x1, x2, x3] T (0, 0))) :
    w.cell? ⟨b, 0, none⟩ = some x0 ∧ w.cell? ⟨b, 1, none⟩ = some x1 ∧ w.cell? ⟨b, 2, none⟩ = some x2 ∧ w.cell? ⟨b, 3, none⟩ = some x3 := by
  simp [World.cell?, h]

theorem text_ne {s : ByteArray} (h : s.size ≠ 0) : s.toList.isEmpty = false := by
  rw [ByteArray.toList_eq, List.isEmpty_eq_false_iff]
  intro e
  have := congrArg List.length e
  simp at this
  exact h (by rw [this]; rfl)

theorem noText_eq {s : ByteArray} (h : noText s = true) : s = ByteArray.empty := by
  have h0 : s.size = 0 := by simpa [noText] using h
  apply ByteArray.ext
  exact Array.eq_empty_of_size_eq_zero h0

end Go.Proofs.Ytlpgdfdadkljfaa.Order

/-
  The contracts of mayBe, Check and Put.
-/
namespace Go.Proofs.Ytlpgdfdadkljfaa.Order
open Go.RowKit Route

/-- A request's value: its cells. -/
abbrev rv (r : Rq) (a : Option Addr) (kn cap : Nat) : Array Value := #[.int .i64 r.c, .int .i64 r.t, .int .i64 r.k, .string r.nm, .string r.pt, .slice a kn cap, .int .i64 r.n]

/-- What is asked of a request's list of keys. -/
structure KeysAt (w : World) (a : Option Addr) (kn cap : Nat) (ks : List ByteArray) : Prop where
  len : kn = ks.length
  lies : Route.Lies w a ks
  most : kn ≤ 140737488355328
  nm : kn ≤ cap

theorem KeysAt.below {w w' : World} {a : Option Addr} {kn cap : Nat} {ks : List ByteArray} (h : KeysAt w a kn cap ks) (hb : Below w.heap.size w w') : KeysAt w' a kn cap ks :=
  ⟨h.len, h.lies.below hb (Nat.le_refl _), h.most, h.nm⟩
end Go.Proofs.Ytlpgdfdadkljfaa.Order

/-
  The answer's Short of an operation; a request in memory.
-/
namespace Go.Proofs.Ytlpgdfdadkljfaa.Order
open Go.RowKit Route

/-- What is known of an operation that is short. -/
def ShortR (r : Rq) : Prop := r.nm.size ≤ 2000 ∧ r.pt.size ≤ 2000 ∧ r.ks.length ≤ 100

/-- A request that came in. -/
structure ReqAt (w : World) (a : Option Addr) (kn cap : Nat) (r : Rq) : Prop where
  len : kn = r.ks.length
  lies : Route.Lies w a r.ks
  nm : r.nm.size ≤ maxLen
  pt : r.pt.size ≤ maxLen
  kc : kn ≤ cap
  cm : cap ≤ maxLen
  sz : ∀ s ∈ r.ks, s.size ≤ maxLen
  nil : a = none → cap = 0

theorem ReqAt.keys {w : World} {a : Option Addr} {kn cap : Nat} {r : Rq} (h : ReqAt w a kn cap r) (hs : ShortR r) : KeysAt w a kn cap r.ks :=
  ⟨h.len, h.lies, by rw [h.len]; have := hs.2.2; omega, h.kc⟩
theorem ReqAt.below {w w' : World} {a : Option Addr} {kn cap : Nat} {r : Rq} (h : ReqAt w a kn cap r) (hb : Below w.heap.size w w') : ReqAt w' a kn cap r :=
  ⟨h.len, h.lies.below hb (Nat.le_refl _), h.nm, h.pt, h.kc, h.cm, h.sz, h.nil⟩

/-- What Short tells. -/
def ShPost (r : Rq) (w : World) (e : Ending) (w' : World) : Prop := ∃ b, e = .returned (.bool b) ∧ Hid ((b = true → ShortR r) ∧ Below w.heap.size w w')

end Go.Proofs.Ytlpgdfdadkljfaa.Order
