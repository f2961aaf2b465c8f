/-
  The tree of files, where the cut or their count may not be; what 'Build' reads.
-/
import Derived.Test.YtcjkficpiedpfabDoorTrNew2
import Derived.Test.YtcjkficpiedpfabDoorTrSort
namespace Go.Proofs.YtcjkficpiedpfabDoor.Tree
open Go.RowKit Route Chunk

theorem any_file {l : List (ByteArray × ByteArray)} {n : Nat} (hn : n = l.length) (f : ByteArray × ByteArray → Bool) : l.any f = true ↔ ∃ j, j < n ∧ f (fileOf l j) = true := by
  subst hn
  rw [List.any_eq_true]
  constructor
  · rintro ⟨x, hx, h⟩
    obtain ⟨j, hj, rfl⟩ := List.getElem_of_mem hx
    exact ⟨j, hj, by rw [fileOf, List.getD_eq_getElem?_getD, List.getElem?_eq_getElem hj]; exact h⟩
  · rintro ⟨j, hj, h⟩
    exact ⟨_, file_mem hj, h⟩

/-- Files that the walks may read: few, and short. -/
def FilesOk (n : Nat) (l : List (ByteArray × ByteArray)) : Prop := n = l.length ∧ n ≤ 101 ∧ ∀ j, j < n → (fileOf l j).1.size ≤ 2000 ∧ (fileOf l j).2.size ≤ 3000

theorem new_any (T : Ending → World → Prop) (a : Option Addr) (n cap : Nat) (l : List (ByteArray × ByteArray)) (p bs : ByteArray) (m M K : Nat) (w : World) (hps : p.size ≤ 2000) (hm : 1 ≤ m) (hmM : m ≤ M) (hM : M ≤ 64) (hK : K < 256)
    (hn0 : n = l.length) (hl0 : LiesF w a l) (hnm : n ≤ 100) (hls : ∀ j, j < n → (fileOf l j).1.size ≤ 2000)
    (hbad : codeF l (p, bs) ≠ 0 → ∀ w', Below w.heap.size w w' → T (.returned (.tuple #[.agg #[.string ⟨#[]⟩, .int .i64 0, .slice none 0 0], .iface 43 (.int .i64 (codeF l (p, bs) : Int))])) w')
    (hok : codeF l (p, bs) = 0 → ∀ v w', Strs w.heap.size v (chunks m M K bs) w w' → T (.returned (.tuple #[.agg #[.string p, .int .i64 (bs.size : Int), v], .nilIface])) w') :
    Calls Tryd.prog 14 #[.slice a n cap, .agg #[.string p, .string bs], cutV (m : Int) (M : Int) (K : Int)] w T := by
  cases hp : isPath p with
  | false =>
    have e : codeF l (p, bs) = 2 := by rw [codeF, if_pos hp]
    rw [e] at hbad
    refine (new_path a n cap p bs m M K w hp hps).mono ?_
    rintro e w' ⟨rfl, hb⟩
    exact hbad (by decide) w' hb
  | true =>
    have hmay : mayB (m : Int) (M : Int) (K : Int) = true := by unfold mayB; exact decide_eq_true (by omega)
    by_cases hbs : 1024 < bs.size
    · have e : codeF l (p, bs) = 7 := by rw [codeF, if_neg (by simp [hp]), if_pos hbs]
      rw [e] at hbad
      refine (new_large a n cap p bs m M K w hp hps hmay hbs).mono ?_
      rintro e w' ⟨rfl, hb⟩
      exact hbad (by decide) w' hb
    · refine new_core T a n cap l p bs m M K w hp hps (by omega) hm hmM hM hK hn0 hl0 hnm hls ?_ ?_
      · intro h w' hb
        have e : codeF l (p, bs) = 4 := by rw [codeF, if_neg (by simp [hp]), if_neg hbs, if_pos ((any_file hn0 _).2 h)]
        rw [e] at hbad
        exact hbad (by decide) w' hb
      · intro h
        refine hok ?_
        rw [codeF, if_neg (by simp [hp]), if_neg hbs, if_neg]
        intro hq
        obtain ⟨j, hj, hq⟩ := (any_file hn0 _).1 hq
        rw [h j hj] at hq
        cases hq

theorem slice_files (a : Option Addr) (n cap i : Nat) (h : i ≤ cap) (w : World) : (Instr.slice 22 (.slice a n cap) none (some (.int .i64 (i : Int))) none).run Tryd.prog w = .ok (.slice a i cap) w := by
  rw [run_slice_h w 22 a n cap (by kernel_rfl) .i64 (i : Int) (by omega) (by omega)]
  have e : (sizeOf (Tryd.prog.elem 22)).run Tryd.prog w = .ok 2 w := by kernel_rfl
  rw [e]
  cases a with
  | none => simp [sliced, Result.andThen]
  | some a => by_cases h : cap = 0 <;> simp [sliced, Result.andThen, h, Addr.add]

set_option maxHeartbeats 2000000 in
set_option maxRecDepth 100000 in
theorem build_may (a : Option Addr) (n cap : Nat) (mn mx mk : Int) (w : World) (h : mayB mn mx mk = false) :
    Calls Tryd.prog 7 #[.slice a n cap, cutV mn mx mk] w fun e w' => e = .returned (.tuple #[.slice none 0 0, .iface 43 (.int .i64 1)]) ∧ Below w.heap.size w w' := by
  have hm : Hid (∀ W, Calls Tryd.prog 13 #[cutV mn mx mk] W fun e w' => e = .returned (.bool false) ∧ Below W.heap.size W w') := fun W => h ▸ may_any mn mx mk W
  unfold cutV at hm ⊢
  clear h
  go_enter Tryd.func7, Tryd.ntmps7
  go_wp2_with (go_at_call 13; refine (hm.out _).mono ?_; rintro e w1 ⟨rfl, hb⟩)
  go_ret2
  exact ⟨rfl, ((Below.refl _ _).alloc (Nat.le_refl _) _).trans (hb.mono (by simp))⟩

set_option maxHeartbeats 2000000 in
set_option maxRecDepth 100000 in
theorem build_large (a : Option Addr) (n cap : Nat) (mn mx mk : Int) (w : World) (h : mayB mn mx mk = true) (hn : 32 < n) :
    Calls Tryd.prog 7 #[.slice a n cap, cutV mn mx mk] w fun e w' => e = .returned (.tuple #[.slice none 0 0, .iface 43 (.int .i64 7)]) ∧ Below w.heap.size w w' := by
  have hm : Hid (∀ W, Calls Tryd.prog 13 #[cutV mn mx mk] W fun e w' => e = .returned (.bool true) ∧ Below W.heap.size W w') := fun W => h ▸ may_any mn mx mk W
  unfold cutV at hm ⊢
  clear h
  go_enter Tryd.func7, Tryd.ntmps7
  go_wp2_with (go_at_call 13; refine (hm.out _).mono ?_; rintro e w1 ⟨rfl, hb⟩)
  go_ret2
  exact ⟨rfl, ((Below.refl _ _).alloc (Nat.le_refl _) _).trans (hb.mono (by simp))⟩

/-- The entry of a file. -/
def entF (m M K : Nat) (f : ByteArray × ByteArray) : ByteArray × Int × List ByteArray := (f.1, (f.2.size : Int), chunks m M K f.2)

theorem cut_box {w wr : World} {mn mx mk : Int} (hb : Below (w.alloc (.cells #[.int .i64 mn, .int .i64 mx, .int .i64 mk] 26)).heap.size (w.alloc (.cells #[.int .i64 mn, .int .i64 mx, .int .i64 mk] 26)) wr) :
    wr.cell? ⟨w.heap.size, 0, none⟩ = some (.int .i64 mn) ∧ wr.cell? ⟨w.heap.size, 1, none⟩ = some (.int .i64 mx) ∧ wr.cell? ⟨w.heap.size, 2, none⟩ = some (.int .i64 mk) ∧ Below w.heap.size w wr ∧ w.heap.size < wr.heap.size := box_in hb

theorem file_box {w wr : World} {c0 c1 : Value} (hb : Below (w.alloc (.cells #[c0, c1] 24)).heap.size (w.alloc (.cells #[c0, c1] 24)) wr) :
    wr.cell? ⟨w.heap.size, 0, none⟩ = some c0 ∧ wr.cell? ⟨w.heap.size, 1, none⟩ = some c1 ∧ Below w.heap.size w wr ∧ w.heap.size < wr.heap.size := by
  have hs := hb.size
  have e : (w.alloc (.cells #[c0, c1] 24)).heap.size = w.heap.size + 1 := by simp
  refine ⟨?_, ?_, ((Below.refl _ _).alloc (Nat.le_refl _) _).trans (hb.mono (by omega)), by omega⟩
  all_goals
    rw [hb.cell (by show w.heap.size < _; omega)]
    simp

theorem ent_box2 {w wr : World} {c0 c1 c2 : Value} (hb : Below (w.alloc (.cells #[c0, c1, c2] 37)).heap.size (w.alloc (.cells #[c0, c1, c2] 37)) wr) :
    (wr.cell? ⟨w.heap.size, 0, none⟩ = some c0 ∧ wr.cell? ⟨w.heap.size, 1, none⟩ = some c1 ∧ wr.cell? ⟨w.heap.size, 2, none⟩ = some c2) ∧ wr.frozen? ⟨w.heap.size, 0, none⟩ = false ∧ wr.frozen? ⟨w.heap.size, 1, none⟩ = false ∧ wr.frozen? ⟨w.heap.size, 2, none⟩ = false := by
  obtain ⟨h0, h1, h2, _, _⟩ := ent_box hb
  have hf : ∀ i, wr.frozen? ⟨w.heap.size, i, none⟩ = false := fun i => by
    rw [hb.frozen (by show w.heap.size < _; simp)]
    exact World.frozen?_alloc_at _ _ _ _ rfl
  exact ⟨⟨h0, h1, h2⟩, hf 0, hf 1, hf 2⟩

/-- What stays through a round of 'Build': the file's own cell, and the cut's. -/
def Kept (b0 b1 : Nat) (p bs : ByteArray) (m M K : Nat) (Wf W : World) : Prop :=
  Below Wf.heap.size Wf W ∧ W.cell? ⟨b1, 0, none⟩ = some (.string p) ∧ W.cell? ⟨b1, 1, none⟩ = some (.string bs) ∧ W.cell? ⟨b0, 0, none⟩ = some (.int .i64 (m : Int)) ∧ W.cell? ⟨b0, 1, none⟩ = some (.int .i64 (M : Int)) ∧ W.cell? ⟨b0, 2, none⟩ = some (.int .i64 (K : Int))

theorem Kept.below {b0 b1 : Nat} {p bs : ByteArray} {m M K : Nat} {Wf W W' : World} (h : Kept b0 b1 p bs m M K Wf W) (hb : Below W.heap.size W W') : Kept b0 b1 p bs m M K Wf W' :=
  ⟨h.1.trans (hb.mono h.1.size), cell_kept hb h.2.1, cell_kept hb h.2.2.1, cell_kept hb h.2.2.2.1, cell_kept hb h.2.2.2.2.1, cell_kept hb h.2.2.2.2.2⟩

theorem Kept.set {b0 b1 : Nat} {p bs : ByteArray} {m M K : Nat} {Wf W : World} (h : Kept b0 b1 p bs m M K Wf W) {g i : Nat} {x : Value} (hg : Wf.heap.size ≤ g) (h0 : b0 < Wf.heap.size) (h1 : b1 < Wf.heap.size) : Kept b0 b1 p bs m M K Wf (W.setCell ⟨g, i, none⟩ x) := by
  refine ⟨h.1.setCell hg _, ?_, ?_, ?_, ?_, ?_⟩
  · rw [World.cell?_setCell_far _ _ _ _ (show g ≠ b1 by omega)]; exact h.2.1
  · rw [World.cell?_setCell_far _ _ _ _ (show g ≠ b1 by omega)]; exact h.2.2.1
  · rw [World.cell?_setCell_far _ _ _ _ (show g ≠ b0 by omega)]; exact h.2.2.2.1
  · rw [World.cell?_setCell_far _ _ _ _ (show g ≠ b0 by omega)]; exact h.2.2.2.2.1
  · rw [World.cell?_setCell_far _ _ _ _ (show g ≠ b0 by omega)]; exact h.2.2.2.2.2

theorem wpList_ent_at {ops : Array Oper} {rest : List Oper} {o : Oper} {a : Act} {Q : Exit → Act → World → Prop} (hgd : o.guard = none) (s x : Operand)
    (ho : o.op = .call { callee := .builtin .append, args := #[s, x], argTypes := #[29, 29] })
    (B : Nat) (v : Value) (Z : List ((ByteArray × Int × List ByteArray) × Value)) (hs : a.eval s = v) (W0 w0 : World) (p : ByteArray) (sz : Int) (C : List ByteArray) (kv : Value) (hb : Ents B v Z W0 w0) (hk : KeyRow B w0 ((p, sz, C), kv)) (b : Nat)
    (hx : a.eval x = .slice (some ⟨b, 0, none⟩) 1 1) (hb0 : b = w0.heap.size) (hlen : Z.length + 1 ≤ 1000000)
    (h : ∀ v' w', Ents B v' (Z ++ [((p, sz, C), kv)]) W0 w' → wpList Tryd.prog ops Q rest (a.put o.dst v') w') : wpList Tryd.prog ops Q (o :: rest) a (w0.alloc (.cells #[.string p, .int .i64 sz, kv] 37)) := by
  subst hb0
  exact wpList_ent hgd s x ho B v Z hs W0 w0 ((p, sz, C), kv) hb hk hx hlen h

theorem files_apart {l : List (ByteArray × ByteArray)} {n : Nat} (hn : n = l.length) (h : ∀ j, j < n → codeF (l.take j) (fileOf l j) = 0) : l.Pairwise fun x y => x.1 ≠ y.1 := by
  subst hn
  refine List.pairwise_iff_getElem.2 fun i j hi hj hij e => ?_
  have hc := h j hj
  rw [codeF] at hc
  split at hc
  · omega
  split at hc
  · omega
  split at hc
  · omega
  · rename_i hq
    apply hq
    rw [List.any_eq_true]
    refine ⟨l[i], ?_, ?_⟩
    · rw [List.mem_take_iff_getElem]
      exact ⟨i, by omega, rfl⟩
    · have e2 : fileOf l j = l[j] := by simp [fileOf, List.getD_eq_getElem?_getD, hj]
      rw [e2, clashB, decide_eq_true e]; rfl
end Go.Proofs.YtcjkficpiedpfabDoor.Tree
