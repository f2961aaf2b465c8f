/-
  Whether a message may be: the program's own test, whole.
-/
import Derived.Test.YtbcemghkmmbmdaaMsMay
namespace Go.Proofs.Ytbcemghkmmbmdaa.Msg
open Go.RowKit Route

def FitP (l : List Pf) : Prop := ∀ e ∈ l, e.2.2.1.size ≤ 9223372036854775807 ∧ e.2.2.2.length ≤ 1000000000
/-- Lengths that a machine may have. -/
def Fit (m : Ms) : Prop := m.b.size ≤ 9223372036854775807 ∧ m.p.length ≤ 1000000000 ∧ FitP m.p ∧ m.c.length ≤ 1000000000 ∧ ∀ e ∈ m.c, e.2.2.length ≤ 1000000000 ∧ FitP e.2.2
/-- A message's value, in w. -/
def MsIn (w : World) (m : Ms) (a : Option Addr) (n : Nat) (a' : Option Addr) (n' : Nat) : Prop := n = m.p.length ∧ LiesP w a m.p ∧ n' = m.c.length ∧ LiesC w a' m.c
theorem MsIn.below {B : Nat} {w w' : World} {m : Ms} {a : Option Addr} {n : Nat} {a' : Option Addr} {n' : Nat} (h : MsIn w m a n a' n') (hb : Below B w w') (hB : w.heap.size ≤ B) : MsIn w' m a n a' n' :=
  ⟨h.1, h.2.1.below hb hB, h.2.2.1, h.2.2.2.below hb hB⟩

/-- A message's box, in a world behind w0. -/
structure MBox (w0 : World) (b : Nat) (k f v s : Int) (bd : ByteArray) (p c : Value) (W : World) : Prop where
  bel : Below w0.heap.size w0 W
  c0 : W.cell? ⟨b, 0, none⟩ = some (.int .i64 k)
  c1 : W.cell? ⟨b, 1, none⟩ = some (.int .i64 f)
  c2 : W.cell? ⟨b, 2, none⟩ = some (.int .i64 v)
  c3 : W.cell? ⟨b, 3, none⟩ = some (.int .i64 s)
  c4 : W.cell? ⟨b, 4, none⟩ = some (.string bd)
  c5 : W.cell? ⟨b, 5, none⟩ = some p
  c6 : W.cell? ⟨b, 6, none⟩ = some c

theorem cell_kept {w w' : World} {x : Addr} {v : Value} (hb : Below w.heap.size w w') (h : w.cell? x = some v) : w'.cell? x = some v := cell_below hb (Nat.le_refl _) h

theorem MBox.later {w0 W W' : World} {b : Nat} {k f v s : Int} {bd : ByteArray} {p c : Value} (h : MBox w0 b k f v s bd p c W) (hb : Below W.heap.size W W') : MBox w0 b k f v s bd p c W' :=
  ⟨h.bel.trans (hb.mono h.bel.size), cell_kept hb h.c0, cell_kept hb h.c1, cell_kept hb h.c2, cell_kept hb h.c3, cell_kept hb h.c4, cell_kept hb h.c5, cell_kept hb h.c6⟩

/-- A region that draws its order, whose operations tell one value in every world of a class, and leave it in the class. -/
theorem wp_region_class {P : Program} {C : World → Prop} {id : Nat} {Q : Exit → Act → World → Prop} {a : Act} {w : World} {l : List Oper} (hm : P.follows .mixedOrders = true) (hB : Region.lexB .any l.toArray = true) (hC : C { w with drawn := w.drawn + 1 })
    (h : wpQuiet P l.toArray C (fun a' => ∀ w', C w' → Q .normal a' w') l a) : (Code.region id l.toArray true).wp P Q a w :=
  wp_region_quiet hm hB hC (by simpa using h)

end Go.Proofs.Ytbcemghkmmbmdaa.Msg
