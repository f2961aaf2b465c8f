/-
  A deed of a law's own, from the keys' copy to what is written over.
-/
import Derived.Test.YtejhnobhpjlkaaaCtStay2
namespace Go.Proofs.Ytejhnobhpjlkaaa.Cat
open Go.RowKit Route Tree Order

/-- The keys are copied into the operation's box. -/
theorem stay_open {w3 wr w6 W7 : World} {p : Nat} {v : Value} {Z : List SZ} (h : Lw w3 p p v Z wr) {k m : Int} {nm pt : ByteArray} {ka a6 : Option Addr} {kn kc c6 : Nat} {ks : List ByteArray} (hk : KeysAt wr ka kn kc ks) (hs : Strs (wr.alloc (.cells #[.int .i64 k, .string nm, .string pt, .slice ka kn kc, .int .i64 m] 33)).heap.size (.slice a6 kn c6) ks (wr.alloc (.cells #[.int .i64 k, .string nm, .string pt, .slice ka kn kc, .int .i64 m] 33)) w6) (e : W7 = w6.setCell ⟨wr.heap.size, 3, none⟩ (.slice a6 kn c6)) :
    Lw w3 p p v Z W7 ∧ W7.heap[wr.heap.size]? = some (.cells #[.int .i64 k, .string nm, .string pt, .slice a6 kn c6, .int .i64 m] 33 (0, 0)) ∧ W7.ownsRow p 9 1 (.slice a6 kn c6) kn (sv ks) ∧ (∀ b, (Value.slice a6 kn c6).ownBlock = some b → ¬ Owns p v Z b ∧ ¬ KB Z b) ∧ KeysAt W7 a6 kn c6 ks ∧ wr.heap.size < W7.heap.size := by
  have hkn := hk.len
  obtain ⟨s1, s2, s3, s4, s5⟩ := heap_setCell (w := w6) (r := wr.heap.size) (i := 3) (x := .slice a6 kn c6)
  have hsz : (wr.alloc (.cells #[.int .i64 k, .string nm, .string pt, .slice ka kn kc, .int .i64 m] 33)).heap.size = wr.heap.size + 1 := by simp
  have hb0 : Below wr.heap.size wr (wr.alloc (.cells #[.int .i64 k, .string nm, .string pt, .slice ka kn kc, .int .i64 m] 33)) := (Below.refl _ _).alloc (Nat.le_refl _) _
  have hbox := op_box hs.2.1
  have hb6 : Below wr.heap.size wr w6 := hb0.trans (hs.2.1.mono hb0.size)
  have hlt : wr.heap.size < w6.heap.size := (Array.getElem?_eq_some_iff.1 hbox).1
  have hb7 : Below wr.heap.size wr W7 := by rw [e]; exact hb6.setCell (Nat.le_refl _) _
  have hfit := h.fit
  have ho6 : w6.ownsRow (wr.heap.size + 1) 9 1 (.slice a6 kn c6) kn (sv ks) := by have := hs.1; rw [hsz, ← hkn] at this; exact this
  have ho7 : W7.ownsRow (wr.heap.size + 1) 9 1 (.slice a6 kn c6) kn (sv ks) := own_keep ho6 fun g hg => by
    rw [e]
    exact s1 g fun e1 => by have := (ho6.lt g hg).1; omega
  refine ⟨h.below hb7, by rw [e]; exact put_op hbox, own_any ho7 (by omega), fun b hb => ?_, ?_, by rw [e, s2]; exact hlt⟩
  · have h1 := (ho7.lt b hb).1
    exact ⟨fun ho => by have := (h.cat.owns ho).2; omega, fun hK => by have := h.cat.kb2 hK; omega⟩
  · have ho8 := ho7
    rw [hkn] at ho8
    obtain ⟨a, cap, e1, h1, h2, h3, h4⟩ := key_lies ho8
    simp only [Value.slice.injEq] at e1
    obtain ⟨rfl, _, rfl⟩ := e1
    exact ⟨hkn, h1, hk.most, by omega⟩

/-- What is known behind the call: the catalog, the boxes, what is to be written over. -/
theorem stay_mid {w3 w7 w8 : World} {p bo bx : Nat} {v v5 : Value} {Z Z5 : List SZ} {r : Rq} {y : An} {k m : Int} {nm pt : ByteArray} {a6 : Option Addr} {kn c6 : Nat} {us : List Value} (h : Lw w3 p p v Z w7) (hbo : w7.heap[bo]? = some (.cells #[.int .i64 k, .string nm, .string pt, .slice a6 kn c6, .int .i64 m] 33 (0, 0))) (ho : w7.ownsRow p 9 1 (.slice a6 kn c6) kn us) (hob : ∀ b, (Value.slice a6 kn c6).ownBlock = some b → ¬ Owns p v Z b ∧ ¬ KB Z b)
    (hD : Did p p v Z r w7 y v5 Z5 w8 ∧ ABox w8 bx y) (hs : (v5 = v ∧ Z5 = Z) ∨ Bare (full (Z.map snapOf) r).1) :
    Lw w3 p p v5 Z5 w8 ∧ w8.heap[bo]? = some (.cells #[.int .i64 k, .string nm, .string pt, .slice a6 kn c6, .int .i64 m] 33 (0, 0)) ∧ ∃ (F : Nat → Prop) (Y4 : List (Ent × Value)),
      (∀ k, F k → (¬ Owns p v5 Z5 k ∧ ¬ KB Z5 k) ∧ k < w8.heap.size ∧ p ≤ k ∧ ∃ c, w8.heap[k]? = some (.cells c 9 (0, 0)) ∨ w8.heap[k]? = some (.cells c 39 (0, 0))) ∧
      (∀ g, (Value.slice a6 kn c6).ownBlock = some g → F g) ∧ (0 < y.n3 → ∀ g, (Value.slice y.s3 y.n3 y.c3).ownBlock = some g → F g) ∧ (0 < y.n4 → (∀ g, (Value.slice y.s4 y.n4 y.c4).ownBlock = some g → F g) ∧ ∀ z ∈ Y4, ∀ g, z.2.ownBlock = some g → F g) ∧ y.n4 = Y4.length ∧
      (∀ z ∈ Y4, ∃ az cz, z.2 = .slice az z.1.2.2.length cz ∧ z.1.2.2.length ≤ maxLen) ∧ kn ≤ maxLen ∧ y.n3 ≤ maxLen ∧ y.n4 ≤ maxLen ∧
      ∀ W, Below w8.heap.size w8 W → St F W (.slice a6 kn c6) kn (.slice y.s3 y.n3 y.c3) y.n3 (.slice y.s4 y.n4 y.c4) y.n4 Y4 W := by
  obtain ⟨_, _, _, n3, n4, _, h3, Y4, hY, h4⟩ := hD.1.ans.parts
  have hfar := stay_far h hD.1 hs ho hob h3 n3 hY h4 n4
  have hn4 : y.n4 = Y4.length := by rw [n4, ← hY]; simp
  have hlen : ∀ {B n j : Nat} {e : TypeId} {s c : Nat} {a : Option Addr} {us : List Value} {w : World}, w.ownsRow B e s (.slice a n c) j us → n ≤ maxLen := fun {B n j e s c a us w} hr => by
    rcases hr.2 with ⟨e, h0⟩ | ⟨g, cap, cur, e, _, _, h1, h2, _⟩
    · simp only [Value.slice.injEq] at e; omega
    · simp only [Value.slice.injEq] at e; omega
  have ho8 := hD.1.next.keep h.cat ho (by decide) (by decide) (by decide)
  refine ⟨h.did hD.1, hD.1.next.cellAt h.cat hbo (by decide) (by decide) (by decide), _, Y4, hfar, fun g hg => .inl hg, fun h0 g hg => .inr (.inl ⟨h0, hg⟩), fun h0 => ⟨fun g hg => .inr (.inr ⟨h0, .inl hg⟩), fun z hz g hg => .inr (.inr ⟨h0, .inr ⟨z, hz, hg⟩⟩)⟩, hn4, fun z hz => ?_, hlen ho, hlen h3, hlen h4.1, fun W hb => ?_⟩
  · have hz1 : w8.ownsRow w7.heap.size 9 1 z.2 z.1.2.2.length (sv z.1.2.2) := h4.2 z hz
    obtain ⟨a, cap, e, h1, h2, h3, h4⟩ := key_lies hz1
    exact ⟨a, cap, e, by omega⟩
  · exact st_first (own30_later ho8 hb) (by rw [n3] at h3 ⊢; exact own30_later h3 hb) ⟨own30_later h4.1 hb, fun z hz => own30_later (h4.2 z hz) hb⟩ hn4

/-- A box of another kind stays while that is written over. -/
theorem St.box {F : Nat → Prop} {w8 w10 wr : World} {ob kb ev : Value} {on kn en k : Nat} {Y : List (Ent × Value)} {c : Array Value} {T : TypeId} (h : St F w10 ob on kb kn ev en Y wr) (hb : Below w8.heap.size w8 w10) (hk : w8.heap[k]? = some (.cells c T (0, 0))) (hF : ∀ k, F k → k < w8.heap.size ∧ ∃ c, w8.heap[k]? = some (.cells c 9 (0, 0)) ∨ w8.heap[k]? = some (.cells c 39 (0, 0))) (h1 : T ≠ 9) (h2 : T ≠ 39) : wr.heap[k]? = some (.cells c T (0, 0)) :=
  h.turn.box ((hb.block _ (Array.getElem?_eq_some_iff.1 hk).1).trans hk) (fun g hg => by
    obtain ⟨hlt, c, hc⟩ := hF g hg
    exact ⟨c, by rw [hb.block _ hlt]; exact hc⟩) h1 h2

/-- Behind it all the catalog and the copy stand. -/
theorem stay_end {F : Nat → Prop} {w3 w8 w9 w10 w11 : World} {p on kn en : Nat} {v5 ob kb ev vw : Value} {Z5 Zw : List SZ} {Y : List (Ent × Value)} (h8 : Lw w3 p p v5 Z5 w8) (h9 : Below w8.heap.size w8 w9) (h10 : Below w9.heap.size w9 w10) (hw : SRow w9.heap.size vw Zw w10) (hst : St F w10 ob on kb kn ev en Y w11) (hF : ∀ k, F k → (¬ Owns p v5 Z5 k ∧ ¬ KB Z5 k) ∧ k < w8.heap.size ∧ p ≤ k) : Lw w3 p p v5 Z5 w11 ∧ SRow w9.heap.size vw Zw w11 := by
  have hb : Below w8.heap.size w8 w10 := h9.trans (h10.mono h9.size)
  have hl := h8.below hb
  have s9 := h9.size
  refine ⟨⟨hl.cat.turned hst.turn fun k hk => (hF k hk).1, hl.inv, hl.bel.trans ((hst.turn.below (B := w3.heap.size) (fun k hk => Nat.le_trans h8.low (hF k hk).2.2) hl.bel.size)), hl.low, Nat.le_trans hl.fit hst.turn.size⟩, hw.turned hst.turn fun k hk => by have := (hF k hk).2.1; omega⟩
end Go.Proofs.Ytejhnobhpjlkaaa.Cat
