/-
  Add: what it tells, and what it leaves behind.
-/
import Derived.Test.YtlpgdfdadkljfaaGreatCtOps3
import Derived.Test.YtlpgdfdadkljfaaGreatCtLook
import Derived.Test.YtlpgdfdadkljfaaGreatCtBin
import Derived.Test.YtlpgdfdadkljfaaGreatCtIns2
import Derived.Deep.RegionHeld3
namespace Go.Proofs.YtlpgdfdadkljfaaGreat.Cat
open Go.RowKit Route Tree Order

abbrev opV (k : Int) (nm pt : ByteArray) (ka : Option Addr) (kn kc : Nat) (n : Int) : Value := .agg #[.int .i64 k, .string nm, .string pt, .slice ka kn kc, .int .i64 n]
abbrev opBox (k : Int) (nm pt : ByteArray) (ka : Option Addr) (kn kc : Nat) (n : Int) : Obj := .cells #[.int .i64 k, .string nm, .string pt, .slice ka kn kc, .int .i64 n] 34

/-- The operation's box and the result's, in each later world. -/
theorem two_box {w W : World} {k : Int} {nm pt : ByteArray} {ka : Option Addr} {kn kc : Nat} {n : Int} (hb : Below ((w.alloc (opBox k nm pt ka kn kc n)).alloc zero30).heap.size ((w.alloc (opBox k nm pt ka kn kc n)).alloc zero30) W) :
    (W.cell? ⟨w.heap.size, 0, none⟩ = some (.int .i64 k) ∧ W.cell? ⟨w.heap.size, 1, none⟩ = some (.string nm) ∧ W.cell? ⟨w.heap.size, 2, none⟩ = some (.string pt) ∧ W.cell? ⟨w.heap.size, 3, none⟩ = some (.slice ka kn kc) ∧ W.cell? ⟨w.heap.size, 4, none⟩ = some (.int .i64 n)) ∧
    (W.cell? ⟨w.heap.size + 1, 0, none⟩ = some (.int .i64 0) ∧ W.cell? ⟨w.heap.size + 1, 1, none⟩ = some (.int .i64 0) ∧ W.cell? ⟨w.heap.size + 1, 2, none⟩ = some (.slice none 0 0) ∧ W.cell? ⟨w.heap.size + 1, 3, none⟩ = some (.slice none 0 0) ∧ W.cell? ⟨w.heap.size + 1, 4, none⟩ = some (.slice none 0 0)) ∧
      (∀ i, W.frozen? ⟨w.heap.size + 1, i, none⟩ = false) ∧ Below w.heap.size w W ∧ w.heap.size + 1 < W.heap.size ∧ ∃ cs, W.heap[w.heap.size + 1]? = some (.cells cs 31 (0, 0)) := by
  have hs : (w.alloc (opBox k nm pt ka kn kc n)).heap.size = w.heap.size + 1 := by simp
  have hb2 : Below (w.alloc (opBox k nm pt ka kn kc n)).heap.size (w.alloc (opBox k nm pt ka kn kc n)) W := ((Below.refl _ _).alloc (Nat.le_refl _) _).trans (hb.mono (by simp))
  obtain ⟨h1, h2, h3, h4, h5⟩ := res_box hb
  rw [hs] at h1 h2 h4 h5
  refine ⟨⟨cell_kept hb2 (by simp), cell_kept hb2 (by simp), cell_kept hb2 (by simp), cell_kept hb2 (by simp), cell_kept hb2 (by simp)⟩, h1, h2, ((Below.refl _ _).alloc (Nat.le_refl _) _).trans (hb2.mono (by simp)), h4, h5⟩

theorem below_set5b {w W : World} {r : Nat} {a b c d e : Value} (hb : Below w.heap.size w W) (hr : w.heap.size ≤ r) : Below w.heap.size w (((((W.setCell ⟨r, 0, none⟩ a).setCell ⟨r, 1, none⟩ b).setCell ⟨r, 2, none⟩ c).setCell ⟨r, 3, none⟩ d).setCell ⟨r, 4, none⟩ e) :=
  ((((hb.setCell (show w.heap.size ≤ r from hr) _).setCell (show w.heap.size ≤ r from hr) _).setCell (show w.heap.size ≤ r from hr) _).setCell (show w.heap.size ≤ r from hr) _).setCell (show w.heap.size ≤ r from hr) _

set_option maxHeartbeats 4000000 in
set_option maxRecDepth 100000 in
theorem add_no (p : Nat) (a : Option Addr) (n cap : Nat) (S : List Snap) (c k m : Int) (nm pt : ByteArray) (ka : Option Addr) (kn kc : Nat) (w : World) (h : See p a n cap S w) (hp : (found c nm false S).2 ≠ 0) :
    Calls Tryz.prog 21 #[.pointer (some ⟨p, 0, none⟩), .int .i64 c, opV k nm pt ka kn kc m] w fun e w' => e = .returned (bareV ((found c nm false S).2 : Nat) 0) ∧ Below w.heap.size w w' := by
  have HP : Hid (Calls _ _ _ _ _) := find_any p a n cap S c nm false ((w.alloc (opBox k nm pt ka kn kc m)).alloc zero30) (h.below (((Below.refl _ _).alloc (Nat.le_refl w.heap.size) _).alloc (by simp) _) (Nat.le_refl _))
  generalize (found c nm false S).1 = f1 at HP
  generalize (found c nm false S).2 = f2 at HP hp
  have hd : ((f2 : Int) == 0) = false := by simp; omega
  clear h hp
  go_enter Tryz.func21, Tryz.ntmps21
  go_wp2_with fail
  refine HP.out.mono ?_
  rintro e w1 ⟨rfl, hb1⟩
  have HB1 : Hid (Below ((w.alloc (opBox k nm pt ka kn kc m)).alloc zero30).heap.size ((w.alloc (opBox k nm pt ka kn kc m)).alloc zero30) w1) := hb1
  clear hb1 HP
  go_wp2_with fail
  refine (refusal_any (f2 : Int) w1).mono ?_
  rintro e w2 ⟨rfl, hb2⟩
  obtain ⟨_, ⟨d0, d1, d2, d3, d4⟩, hf, hbw, _, _⟩ := two_box (HB1.out.trans (hb2.mono HB1.out.size))
  have f0 := hf 0
  have f1' := hf 1
  have f2' := hf 2
  have f3 := hf 3
  have f4 := hf 4
  have HBW : Hid (Below w.heap.size w w2) := hbw
  clear hb2 hf hbw HB1 hd
  go_wp2
  refine bodyPost_ret (v := bareV (f2 : Int) 0) (by simp [results, Tryz.results21, go_sem, d0, d1, d2, d3, d4]) rfl ⟨rfl, ?_⟩
  exact below_set5b HBW.out (Nat.le_succ _)

/-- What an operation's add meets ahead of its faults. -/
structure AddIn (p : Nat) (v : Value) (Z : List SZ) (i : Nat) (w : World) (x : Addr) (n cap : Nat) (ea : Option Addr) (en ec : Nat) : Prop where
  hv : v = .slice (some x) n cap
  hi : i < n
  hn : n = Z.length
  hm : n ≤ 9223372036854775807
  hen : en = (szAt Z i).2.2.2.2.length
  rd : ∀ W, Below w.heap.size w W → W.cell? ⟨p, 0, none⟩ = some (.slice (some x) n cap) ∧ W.cell? ⟨(x.add (i * 4)).block, (x.add (i * 4)).off + 3, none⟩ = some (.slice ea en ec) ∧ LiesE W ea (snapOf (szAt Z i)).2.2.2

theorem Cat.addIn {B p : Nat} {v : Value} {Z : List SZ} {w : World} (h : Cat B p v Z w) {i : Nat} (hi : i < Z.length) : ∃ x n cap ea en ec, AddIn p v Z i w x n cap ea en ec := by
  obtain ⟨a, n, cap, rfl, hs⟩ := h.see
  have hl := hs.len
  rw [List.length_map] at hl
  obtain ⟨x, ea, ec, rfl, _, hr⟩ := hs.snap (i := i) (by simpa using hi)
  rw [sz_snap hi] at hr
  exact ⟨x, n, cap, ea, _, ec, rfl, by omega, hl, by have := hs.le; have := hs.max; unfold maxLen at this; omega, rfl, fun W hb => by
    have := hr W hb
    have e : (snapOf (szAt Z i)).2.2.2.length = (szAt Z i).2.2.2.2.length := by simp [snapOf]
    rw [e] at this
    exact this⟩
end Go.Proofs.YtlpgdfdadkljfaaGreat.Cat
