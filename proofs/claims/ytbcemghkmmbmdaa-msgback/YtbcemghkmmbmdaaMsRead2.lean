/-
  Entries and snapshots that are being read: the reader's box, the value's, the result's; an entry read.
-/
import Derived.Test.YtbcemghkmmbmdaaMsRead
namespace Go.Proofs.Ytbcemghkmmbmdaa.Msg
open Go.RowKit Route Order

/-- Where the boxes lie: the reader's in p, the result's in rb, the value's in qb, rows from B on. -/
structure Lay (w : World) (p rb qb B : Nat) : Prop where
  r1 : w.heap.size ≤ rb
  q1 : w.heap.size ≤ qb
  pr : p < rb
  pq : p < qb
  rq : rb ≠ qb
  rB : rb < B
  qB : qb < B

/-- A value that is being read: the result's box holds zs, the value's cs. -/
structure Sr (te : TypeId) (zs : Array Value) (w W : World) (p rb qb B : Nat) (a : Option Addr) (n cap : Nat) (l : List UInt8) (x : Nat) (f : Bool) (cs : Array Value) : Prop where
  lay : Lay w p rb qb B
  rd : Rd 70 W p a n cap l x f
  tn : Tn p w W
  res : W.heap[rb]? = some (.cells zs te (0, 0))
  box : W.heap[qb]? = some (.cells cs te (0, 0))
  big : B ≤ W.heap.size

section
variable {te : TypeId} {zs : Array Value} {w W W' : World} {p rb qb B : Nat} {a : Option Addr} {n cap : Nat} {l : List UInt8} {x : Nat} {f : Bool} {cs : Array Value}

theorem Sr.step {x' : Nat} {f' : Bool} (h : Sr te zs w W p rb qb B a n cap l x f cs) (hr : Rd 70 W' p a n cap l x' f' ∧ Tn p W W') : Sr te zs w W' p rb qb B a n cap l x' f' cs := by
  have hb := h.big
  have L := h.lay
  have h1 := L.pr
  have h2 := L.pq
  have h3 := L.rB
  have h4 := L.qB
  exact ⟨h.lay, hr.1, h.tn.trans hr.2, (hr.2.block rb (by omega) (by omega)).trans h.res, (hr.2.block qb (by omega) (by omega)).trans h.box, Nat.le_trans hb hr.2.size⟩

/-- What the reader turns leaves rows from B on as they are. -/
theorem Sr.rows (h : Sr te zs w W p rb qb B a n cap l x f cs) (ht : Tn p W W') : ∀ g, B ≤ g → g < W.heap.size → W'.heap[g]? = W.heap[g]? := fun g h1 h2 => ht.block g h2 (by have := h.lay.pr; have := h.lay.rB; omega)

theorem Sr.set (h : Sr te zs w W p rb qb B a n cap l x f cs) (i : Nat) (u : Value) {cs' : Array Value} (hc : cs.setIfInBounds i u = cs') : Sr te zs w (W.setCell ⟨qb, i, none⟩ u) p rb qb B a n cap l x f cs' := by
  have L := h.lay
  have h2 := L.pq
  have h3 := L.q1
  have h5 := L.rq
  have ho : ∀ k, k ≠ qb → (W.setCell ⟨qb, i, none⟩ u).heap[k]? = W.heap[k]? := fun k hk => Below.heap_setCell _ _ _ _ hk
  refine ⟨h.lay, h.rd.keep fun k hk => ho k (by omega), ⟨h.tn.os, h.tn.tape, h.tn.output, by simpa using h.tn.size, fun k hk h1 => (ho k (by omega)).trans (h.tn.block k hk h1)⟩, (ho rb h5).trans h.res, ?_, by simpa using h.big⟩
  subst hc
  simp [World.setCell, Array.getElem?_modify, h.box]
theorem Sr.setRows (h : Sr te zs w W p rb qb B a n cap l x f cs) (i : Nat) (u : Value) : ∀ g, B ≤ g → (W.setCell ⟨qb, i, none⟩ u).heap[g]? = W.heap[g]? := fun g hg => Below.heap_setCell _ _ _ _ (by have := h.lay.qB; show g ≠ qb; omega)

/-- A row from B on has grown. -/
theorem Sr.grow (h : Sr te zs w W p rb qb B a n cap l x f cs) (o1 : W'.os = W.os) (o2 : W'.tape = W.tape) (o3 : W'.output = W.output) (hs : W.heap.size ≤ W'.heap.size) (hk : ∀ k, k < B → W'.heap[k]? = W.heap[k]?) : Sr te zs w W' p rb qb B a n cap l x f cs := by
  have L := h.lay
  have h1 := L.pr
  have h3 := L.rB
  have h4 := L.qB
  have h5 := L.r1
  exact ⟨h.lay, h.rd.keep fun k hk' => hk k (by omega), ⟨o1.trans h.tn.os, o2.trans h.tn.tape, o3.trans h.tn.output, Nat.le_trans h.tn.size hs, fun k h1 h2 => (hk k (by omega)).trans (h.tn.block k h1 h2)⟩, (hk rb h3).trans h.res, (hk qb h4).trans h.box, Nat.le_trans h.big hs⟩

theorem Sr.drew (h : Sr te zs w W p rb qb B a n cap l x f cs) : Sr te zs w W.drew p rb qb B a n cap l x f cs :=
  h.step ⟨h.rd.keep fun _ _ => rfl, ⟨rfl, rfl, rfl, Nat.le_refl _, fun _ _ _ => rfl⟩⟩
end

theorem row_keep {B e s : Nat} {w w' : World} {v : Value} {n : Nat} {xs : List Value} (h : w.ownsRow B e s v n xs) (hk : ∀ g, B ≤ g → g < w.heap.size → w'.heap[g]? = w.heap[g]?) : w'.ownsRow B e s v n xs :=
  ⟨h.1, h.2.imp id fun ⟨g, cap, cur, h1, h2, h3, h4⟩ => ⟨g, cap, cur, h1, h2, (hk g h2 (Array.getElem?_eq_some_iff.1 h3).1).trans h3, h4⟩⟩

theorem cells3 {w : World} {b : Nat} {x y z : Value} {T : TypeId} (h : w.heap[b]? = some (.cells #[x, y, z] T (0, 0))) :
    (w.cell? ⟨b, 0, none⟩ = some x ∧ w.cell? ⟨b, 1, none⟩ = some y ∧ w.cell? ⟨b, 2, none⟩ = some z) ∧ ∀ i, w.frozen? ⟨b, i, none⟩ = false := by
  simp [World.cell?, World.frozen?, h]

theorem num_named {w : World} {p : Nat} {a : Option Addr} {n cap : Nat} {l : List UInt8} {x : Nat} {f : Bool} (h : Rd 70 w p a n cap l x f) (m : Nat) (hm : m ≤ 2147483647) (A : Nat × Nat × Bool) (e : num l m x f = A) :
    Calls Try.prog 65 #[.pointer (some ⟨p, 0, none⟩), .int .u64 (m : Int)] w fun e w' => e = .returned (.int .i64 (A.1 : Int)) ∧ Hid (Rd 70 w' p a n cap l A.2.1 A.2.2 ∧ Tn p w w') := by
  subst e; exact num_call h m hm
theorem text_named {w : World} {p : Nat} {a : Option Addr} {n cap : Nat} {l : List UInt8} {x : Nat} {f : Bool} (h : Rd 70 w p a n cap l x f) (A : ByteArray × Nat × Bool) (e : tex l 4096 x f = A) :
    Calls Try.prog 67 #[.pointer (some ⟨p, 0, none⟩)] w fun e w' => e = .returned (.string A.1) ∧ Hid (Rd 70 w' p a n cap l A.2.1 A.2.2 ∧ Tn p w w') := by
  subst e; exact text_call h
theorem node_named {w : World} {p : Nat} {a : Option Addr} {n cap : Nat} {l : List UInt8} {x : Nat} {f : Bool} (h : Rd 70 w p a n cap l x f) (A : Nat × Nat × Bool) (e : num l 12 x f = A) :
    Calls Try.prog 66 #[.pointer (some ⟨p, 0, none⟩)] w fun e w' => e = .returned (.int .i64 (A.1 : Int)) ∧ Hid (Rd 70 w' p a n cap l A.2.1 A.2.2 ∧ Tn p w w') := by
  have HC : Hid (Calls _ _ _ _ _) := num_named h 12 (by omega) A e
  clear h e
  go_enter Try.func66, Try.ntmps66
  go_wp2_with fail
  refine HC.out.mono ?_
  rintro e w1 ⟨rfl, hr⟩
  go_wp2
  go_ret
  exact ⟨rfl, hr.out⟩
theorem put3_box {W : World} {b : Nat} {x0 x1 x2 : Value} {T : TypeId} (h : W.heap[b]? = some (.cells #[x0, x1, x2] T (0, 0))) (u0 u1 u2 : Value) :
    (((W.setCell ⟨b, 0, none⟩ u0).setCell ⟨b, 1, none⟩ u1).setCell ⟨b, 2, none⟩ u2).heap[b]? = some (.cells #[u0, u1, u2] T (0, 0)) := by
  simp [World.setCell, Array.getElem?_modify, h]
theorem put3_tn (W : World) (b : Nat) (u0 u1 u2 : Value) : Tn b W (((W.setCell ⟨b, 0, none⟩ u0).setCell ⟨b, 1, none⟩ u1).setCell ⟨b, 2, none⟩ u2) :=
  (((Tn.refl b W).setCell 0 u0).setCell 1 u1).setCell 2 u2
theorem put4_box {W : World} {b : Nat} {x0 x1 x2 x3 : Value} {T : TypeId} (h : W.heap[b]? = some (.cells #[x0, x1, x2, x3] T (0, 0))) (u0 u1 u2 u3 : Value) :
    ((((W.setCell ⟨b, 0, none⟩ u0).setCell ⟨b, 1, none⟩ u1).setCell ⟨b, 2, none⟩ u2).setCell ⟨b, 3, none⟩ u3).heap[b]? = some (.cells #[u0, u1, u2, u3] T (0, 0)) := by
  simp [World.setCell, Array.getElem?_modify, h]
theorem put4_tn (W : World) (b : Nat) (u0 u1 u2 u3 : Value) : Tn b W ((((W.setCell ⟨b, 0, none⟩ u0).setCell ⟨b, 1, none⟩ u1).setCell ⟨b, 2, none⟩ u2).setCell ⟨b, 3, none⟩ u3) :=
  ((((Tn.refl b W).setCell 0 u0).setCell 1 u1).setCell 2 u2).setCell 3 u3
theorem Sr.tn_res {te : TypeId} {zs : Array Value} {w W W' : World} {p rb qb B : Nat} {a : Option Addr} {n cap : Nat} {l : List UInt8} {x : Nat} {f : Bool} {cs : Array Value} (h : Sr te zs w W p rb qb B a n cap l x f cs) (ht : Tn rb W W') :
    Tn p w W' ∧ Rd 70 W' p a n cap l x f ∧ ∀ g, B ≤ g → g < W.heap.size → W'.heap[g]? = W.heap[g]? := by
  have L := h.lay
  have h1 := L.r1
  have h2 := L.rB
  have h3 := L.pr
  have h4 := h.big
  have h5 := h.tn.size
  exact ⟨⟨ht.os.trans h.tn.os, ht.tape.trans h.tn.tape, ht.output.trans h.tn.output, Nat.le_trans h.tn.size ht.size, fun k h1 h2 => (ht.block k (by omega) (by omega)).trans (h.tn.block k h1 h2)⟩, h.rd.keep fun k hk => ht.block k (by omega) (by omega), fun g h1 h2 => ht.block g h2 (by omega)⟩

theorem Sr.start {te : TypeId} {zs : Array Value} {w : World} {p : Nat} {a : Option Addr} {n cap : Nat} {l : List UInt8} {x : Nat} {f : Bool} (h : Rd 70 w p a n cap l x f) :
    Sr te zs w ((w.alloc (.cells zs te)).alloc (.cells zs te)) p w.heap.size (w.heap.size + 1) (w.heap.size + 2) a n cap l x f zs := by
  have hb1 : Below w.heap.size w (w.alloc (.cells zs te)) := (Below.refl _ _).alloc (Nat.le_refl _) _
  have hb2 : Below w.heap.size w ((w.alloc (.cells zs te)).alloc (.cells zs te)) := hb1.alloc hb1.size _
  have hz : (w.alloc (.cells zs te)).heap.size = w.heap.size + 1 := by simp
  have hp := h.lt
  refine ⟨⟨by omega, by omega, by omega, by omega, by omega, by omega, by omega⟩, h.below hb2, Tn.of hb2, ?_, ?_, by simp⟩
  · exact (Below.heap_alloc _ _ _ (by rw [hz]; omega)).trans (heap_alloc_new w _)
  · rw [← hz]; exact heap_alloc_new _ _

end Go.Proofs.Ytbcemghkmmbmdaa.Msg
