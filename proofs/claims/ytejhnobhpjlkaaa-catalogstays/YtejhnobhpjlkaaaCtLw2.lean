/-
  A client's operation of a law, and what turns nothing.
-/
import Derived.Test.YtejhnobhpjlkaaaCtLw
namespace Go.Proofs.Ytejhnobhpjlkaaa.Cat
open Go.RowKit Route Tree Order

/-- A client's operation of a law, called with its parts at hand. -/
theorem own_call2 {w0 w : World} {B p : Nat} {v : Value} {Z : List SZ} (h : Lw w0 B p v Z w) {c k m : Int} {nm pt : ByteArray} {ka : Option Addr} {kn kc : Nat} {ks : List ByteArray} (hnm : nm.size ≤ 100000) (hpt : pt.size ≤ 100000) (hk : KeysAt w ka kn kc ks) :
    Calls Try.prog 11 #[.pointer (some ⟨p, 0, none⟩), .int .i64 c, .agg #[.int .i64 k, .string nm, .string pt, .slice ka kn kc, .int .i64 m]] w fun e w' => ∃ (y : An) (v' : Value) (Z' : List SZ), e = .returned (.agg #[.int .i64 y.a, .int .i64 y.b, .slice y.s2 y.n2 y.c2, .slice y.s3 y.n3 y.c3, .slice y.s4 y.n4 y.c4]) ∧ Hid (Did B p v Z ⟨c, 1, k, m, nm, pt, ks⟩ w y v' Z' w') := by
  refine (did_any h.cat h.fit h.inv hnm hpt hk (Below.refl _ _)).mono ?_
  rintro e w' ⟨y, v', Z', rfl, _, hD⟩
  exact ⟨y, v', Z', rfl, hD⟩

theorem below_draws (w : World) (nq : Nat) : Below w.heap.size w (w.drewN nq) := below_drewN (Below.refl _ _) nq

/-- Operations that turn nothing. -/
theorem full_same (S : List Snap) (r : Rq) (h : r.k = 7 ∨ r.k = 6 ∨ r.k = 5) : (full S r).2 = S := by
  obtain ⟨c, t, k, n, nm, pt, ks⟩ := r
  have h : k = 7 ∨ k = 6 ∨ k = 5 := h
  rw [full_else (.inl (by show k ≠ 9; omega))]
  unfold step
  simp only
  split
  · rfl
  rw [if_neg (by omega), if_neg (by omega), if_neg (by omega), if_neg (by omega)]
  split
  · rfl
  split
  · split
    · rfl
    · split <;> rfl
  split
  · split <;> rfl
  · omega
end Go.Proofs.Ytejhnobhpjlkaaa.Cat
