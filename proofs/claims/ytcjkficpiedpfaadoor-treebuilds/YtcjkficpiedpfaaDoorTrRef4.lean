/-
  The document's answer for files that are not too many, by a cut that may be: its 'Build'.
-/
import Derived.Test.YtcjkficpiedpfaaDoorTrIns
import Derived.Deep.RegionHeld
namespace Go.Proofs.YtcjkficpiedpfaaDoor.Tree
open Go.RowKit Route Chunk

/-- What stays through a round of the answer's 'Build': the file's cells, and the cut's. -/
def Kept2 (b0 : Nat) (q : Addr) (p bs : ByteArray) (m M K : Nat) (Wf W : World) : Prop :=
  Below Wf.heap.size Wf W ∧ W.cell? q = some (.string p) ∧ W.cell? ⟨q.block, q.off + 1, none⟩ = some (.string bs) ∧ W.cell? ⟨b0, 0, none⟩ = some (.int .i64 (m : Int)) ∧ W.cell? ⟨b0, 1, none⟩ = some (.int .i64 (M : Int)) ∧ W.cell? ⟨b0, 2, none⟩ = some (.int .i64 (K : Int))

theorem Kept2.below {b0 : Nat} {q : Addr} {p bs : ByteArray} {m M K : Nat} {Wf W W' : World} (h : Kept2 b0 q p bs m M K Wf W) (hb : Below W.heap.size W W') : Kept2 b0 q p bs m M K Wf W' :=
  ⟨h.1.trans (hb.mono h.1.size), cell_kept hb h.2.1, cell_kept hb h.2.2.1, cell_kept hb h.2.2.2.1, cell_kept hb h.2.2.2.2.1, cell_kept hb h.2.2.2.2.2⟩

theorem cell_far2 {w : World} {g i : Nat} {x : Addr} {u v : Value} (h : w.cell? x = some v) (hg : g ≠ x.block) : (w.setCell ⟨g, i, none⟩ u).cell? x = some v := by
  rw [← h]
  refine World.cell?_of_block ?_
  rw [World.setCell]
  simp [Array.getElem?_modify, hg]

theorem Kept2.set {b0 : Nat} {q : Addr} {p bs : ByteArray} {m M K : Nat} {Wf W : World} (h : Kept2 b0 q p bs m M K Wf W) {g i : Nat} {x : Value} (hg : Wf.heap.size ≤ g) (h0 : b0 < Wf.heap.size) (h1 : q.block < Wf.heap.size) : Kept2 b0 q p bs m M K Wf (W.setCell ⟨g, i, none⟩ x) :=
  ⟨h.1.setCell hg _, cell_far2 h.2.1 (by omega), cell_far2 h.2.2.1 (show g ≠ q.block by omega), cell_far2 h.2.2.2.1 (show g ≠ b0 by omega), cell_far2 h.2.2.2.2.1 (show g ≠ b0 by omega), cell_far2 h.2.2.2.2.2 (show g ≠ b0 by omega)⟩

theorem codeF_two {l : List (ByteArray × ByteArray)} {f : ByteArray × ByteArray} (h : isPath f.1 = false) : codeF l f = 2 := by rw [codeF, if_pos h]
theorem codeF_seven {l : List (ByteArray × ByteArray)} {f : ByteArray × ByteArray} (h : isPath f.1 = true) (h2 : 1024 < f.2.size) : codeF l f = 7 := by rw [codeF, if_neg (by simp [h]), if_pos h2]
theorem codeF_four {l : List (ByteArray × ByteArray)} {f : ByteArray × ByteArray} {i k : Nat} (hk : k < i) (hi : i ≤ l.length) (h : isPath f.1 = true) (h2 : f.2.size ≤ 1024) (h3 : clashB (fileOf l k).1 f.1 = true) : codeF (l.take i) f = 4 := by
  rw [codeF, if_neg (by simp [h]), if_neg (by omega), if_pos]
  refine (any_file (n := i) (by rw [List.length_take]; omega) _).2 ⟨k, hk, ?_⟩
  have : fileOf (l.take i) k = fileOf l k := by simp [fileOf, List.getD_eq_getElem?_getD, hk]
  rw [this]; exact h3
theorem codeF_none {l : List (ByteArray × ByteArray)} {f : ByteArray × ByteArray} {i : Nat} (hi : i ≤ l.length) (h : isPath f.1 = true) (h2 : f.2.size ≤ 1024) (h3 : ∀ k, k < i → clashB (fileOf l k).1 f.1 = false) : codeF (l.take i) f = 0 := by
  rw [codeF, if_neg (by simp [h]), if_neg (by omega), if_neg]
  intro hq
  obtain ⟨j, hj, hq⟩ := (any_file (n := i) (by rw [List.length_take]; omega) _).1 hq
  have : fileOf (l.take i) j = fileOf l j := by simp [fileOf, List.getD_eq_getElem?_getD, hj]
  rw [this, h3 j hj] at hq
  cases hq

theorem Ents.letter {B LL : Nat} {v : Value} {Y : List ((ByteArray × Int × List ByteArray) × Value)} {W0 w : World} (h : Ents B v Y W0 w) (hL : LL = Y.length) (h0 : 0 < LL) : ∃ g cg, v = .slice (some ⟨g, 0, none⟩) LL cg := by
  subst hL
  rcases h.1.2 with ⟨_, h1⟩ | ⟨g, cg, _, h1, _⟩
  · omega
  · exact ⟨g, cg, h1⟩

theorem KeyRow.keep {B B' g LL cg : Nat} {Y : List ((ByteArray × Int × List ByteArray) × Value)} {W0 w w' : World} {z : (ByteArray × Int × List ByteArray) × Value} (hz : KeyRow B' w z) (h : Ents B (.slice (some ⟨g, 0, none⟩) LL cg) Y W0 w) (hg : w.grownBy w' (some g)) : KeyRow B' w' z :=
  World.ownsRow.kept hz hg (apart h.1 hz)

theorem box3 {w w' : World} {bx g : Nat} {a b c : Value} (hbx : bx = w.heap.size) (hg : (w.alloc (.cells #[a, b, c] 30)).grownBy w' (some g)) (hne : g ≠ bx) :
    w'.cell? ⟨bx, 0, none⟩ = some a ∧ w'.cell? ⟨bx, 1, none⟩ = some b ∧ w'.cell? ⟨bx, 2, none⟩ = some c := by
  subst hbx
  refine ⟨hg.cell (by simp) ?_, hg.cell (by simp) ?_, hg.cell (by simp) ?_⟩
  all_goals
    simp only [ne_eq, Option.some.injEq]
    exact fun e => hne e.symm

theorem Ents.block {B g LL cg : Nat} {Y : List ((ByteArray × Int × List ByteArray) × Value)} {W0 w : World} (h : Ents B (.slice (some ⟨g, 0, none⟩) LL cg) Y W0 w) : g < w.heap.size := (h.1.lt g rfl).2

theorem index_at_row (g n cap i : Nat) (j : Int) (hj : j = (i : Int)) (hi : i < n) (w : World) : (Instr.indexAt 22 (.slice (some ⟨g, 0, none⟩) n cap) (.int .i64 j)).run Tryd.prog w = .ok (.pointer (some ⟨g, i * 3, none⟩)) w := by
  rw [index_at_ent _ n cap i j hj hi w, Go.WideShapes.add_plain, Nat.zero_add]

theorem ins_map {Z : List ((ByteArray × Int × List ByteArray) × Value)} {k : Nat} {e : (ByteArray × Int × List ByteArray) × Value} {A : List (ByteArray × Int × List ByteArray)} (h : (Z.map (·.1)).Perm A) : ((ins Z k e).map (·.1)).Perm (A ++ [e.1]) := by
  refine ((ins_perm Z k e).map _).trans ?_
  rw [List.map_append]
  exact h.append_right _

set_option maxHeartbeats 8000000 in
set_option maxRecDepth 100000 in
theorem refBuild_core (T : Ending → World → Prop) (a : Option Addr) (n cap : Nat) (l : List (ByteArray × ByteArray)) (m M K : Nat) (w : World) (hm : 1 ≤ m) (hmM : m ≤ M) (hM : M ≤ 64) (hK : K < 256) (hn : n ≤ 32) (hl : FilesOk n l) (hl0 : LiesF w a l)
    (hbad : ∀ j, j < n → (∀ k, k < j → codeF (l.take k) (fileOf l k) = 0) → ∀ c : Nat, codeF (l.take j) (fileOf l j) = c → c ≠ 0 → ∀ w', Below w.heap.size w w' → T (.returned (.tuple #[.slice none 0 0, .int .i64 (c : Int), .int .i64 (j : Int)])) w')
    (hok : (∀ j, j < n → codeF (l.take j) (fileOf l j) = 0) → ∀ v Y w', Ents w.heap.size v Y w w' → SortedZ Y → (Y.map (·.1)).Perm (l.map (entF m M K)) → T (.returned (.tuple #[v, .int .i64 0, .int .i64 (-1)])) w') :
    Calls Tryd.prog 20 #[.slice a n cap, cutV (m : Int) (M : Int) (K : Int)] w T := by
  have hmay : mayB (m : Int) (M : Int) (K : Int) = true := by unfold mayB; exact decide_eq_true (by omega)
  have HMY : Hid (∀ W, Calls Tryd.prog 40 #[.agg #[.int .i64 (m : Int), .int .i64 (M : Int), .int .i64 (K : Int)]] W fun e w' => e = .returned (.bool true) ∧ Below W.heap.size W w') := fun W => by
    have := refMay_any (m : Int) (M : Int) (K : Int) W
    rw [hmay] at this
    exact this
  have HPA : Hid (∀ j, j < n → ∀ W, Calls Tryd.prog 31 #[.string (fileOf l j).1] W fun e w' => e = .returned (.bool (isPath (fileOf l j).1)) ∧ Below W.heap.size W w') := fun j hj W => path_any _ W (by have := (hl.2.2 j hj).1; omega)
  have HCL : Hid (∀ k, k < n → ∀ j, j < n → ∀ W, Calls Tryd.prog 41 #[.string (fileOf l k).1, .string (fileOf l j).1] W fun e w' => e = .returned (.bool (clashB (fileOf l k).1 (fileOf l j).1)) ∧ Below W.heap.size W w') := fun k hk j hj W => refClash_any _ _ W (by have := (hl.2.2 k hk).1; omega) (by have := (hl.2.2 j hj).1; omega)
  have HSP : Hid (∀ (s : ByteArray) W, s.size ≤ 1024 → Calls Tryd.prog 42 #[.string s, .agg #[.int .i64 (m : Int), .int .i64 (M : Int), .int .i64 (K : Int)]] W fun e w' => ∃ v, e = .returned v ∧ Strs W.heap.size v (chunks m M K s) W w') := fun s W hs => Chunk.refSplit_ok s m M K W hs hm hmM hM hK
  have HSZ : Hid (∀ j, j < n → (fileOf l j).2.size ≤ 3000) := fun j hj => (hl.2.2 j hj).2
  have HL : Hid (LiesF w a l) := hl0
  have HN : Hid (n = l.length) := hl.1
  have HB : Hid (∀ j, j < n → (∀ k, k < j → codeF (l.take k) (fileOf l k) = 0) → ∀ c : Nat, codeF (l.take j) (fileOf l j) = c → c ≠ 0 → ∀ w', Below w.heap.size w w' → T (.returned (.tuple #[.slice none 0 0, .int .i64 (c : Int), .int .i64 (j : Int)])) w') := hbad
  have HO : Hid ((∀ j, j < n → codeF (l.take j) (fileOf l j) = 0) → ∀ v Y w', Ents w.heap.size v Y w w' → SortedZ Y → (Y.map (·.1)).Perm (l.map (entF m M K)) → T (.returned (.tuple #[v, .int .i64 0, .int .i64 (-1)])) w') := hok
  unfold cutV
  clear hmay hbad hok hl hl0 hm hmM hM hK
  go_enter Tryd.func20, Tryd.ntmps20
  go_wp2_with fail
  refine (HMY.out _).mono ?_
  rintro e w1 ⟨rfl, hb1⟩
  have HB1 : Hid (Below (w.alloc (.cells #[.int .i64 (m : Int), .int .i64 (M : Int), .int .i64 (K : Int)] 43)).heap.size (w.alloc (.cells #[.int .i64 (m : Int), .int .i64 (M : Int), .int .i64 (K : Int)] 43)) w1) := hb1
  clear HMY hb1
  go_wp2
  go_loopw [4, 5, 6, 8, 9, 10, 11, 12, 13, 14, 15] (fun t4 t5 t6 t8 t9 _ _ _ _ _ _ wr => ∃ (i : Nat) (Z : List ((ByteArray × Int × List ByteArray) × Value)), t4 = .slice none 0 0 ∧ t5 = .int .i64 0 ∧ t6 = .int .i64 0 ∧ t9 = .int .i64 (i : Int) ∧ i ≤ n ∧ Ents w1.heap.size t8 Z w1 wr ∧ Hid (SortedZ Z) ∧ Hid ((Z.map (·.1)).Perm ((l.take i).map (entF m M K))) ∧ Hid (∀ j, j < i → codeF (l.take j) (fileOf l j) = 0)) (fun _ _ _ _ t9 _ _ _ _ _ _ _ => n - (intOf t9).toNat)
  case atStart => exact ⟨0, [], rfl, rfl, rfl, rfl, Nat.zero_le _, Ents.nil w1, List.Pairwise.nil, List.Perm.nil, fun j hj => by omega⟩
  case round =>
    obtain ⟨i, Z, rfl, rfl, rfl, rfl, hi, hst, HS, HZ, HI⟩ := hrel
    have hbr : Below (w.alloc (.cells #[.int .i64 (m : Int), .int .i64 (M : Int), .int .i64 (K : Int)] 43)).heap.size (w.alloc (.cells #[.int .i64 (m : Int), .int .i64 (M : Int), .int .i64 (K : Int)] 43)) wr := HB1.out.trans (hst.2.1.mono HB1.out.size)
    obtain ⟨k0, k1, k2, hbw, hlt⟩ := cut_box hbr
    by_cases hin : i < n
    · have hlr := HL.out.below hbw (Nat.le_refl _)
      obtain ⟨x, hx, g0, g1⟩ := hlr.at (j := i) (by rw [← HN.out]; exact hin)
      subst hx
      have hqb : (x.add (i * 2)).block < wr.heap.size := World.block_lt_of_cell? wr _ g0
      have HX : Hid (∀ c : Nat, codeF (l.take i) (fileOf l i) = c → c ≠ 0 → ∀ w', Below w.heap.size w w' → T (.returned (.tuple #[.slice none 0 0, .int .i64 (c : Int), .int .i64 (i : Int)])) w') := HB.out i hin HI.out
      have HI2 : Hid (codeF (l.take i) (fileOf l i) = 0 → ∀ j, j < i + 1 → codeF (l.take j) (fileOf l j) = 0) := fun hq j hj => by
        by_cases hji : j = i
        · subst hji; exact hq
        · exact HI.out j (by omega)
      have HZ2 : Hid ((l.take (i + 1)).map (entF m M K) = (l.take i).map (entF m M K) ++ [((fileOf l i).1, ((fileOf l i).2.size : Int), chunks m M K (fileOf l i).2)]) := by
        show _ = _
        rw [take_succ_file (by rw [← HN.out]; exact hin), List.map_append]; rfl
      have HIL : Hid (i ≤ l.length) := by show _ ≤ _; rw [← HN.out]; exact hi
      have HC2 : Hid (isPath (fileOf l i).1 = false → codeF (l.take i) (fileOf l i) = 2) := fun h => codeF_two h
      have HC7 : Hid (isPath (fileOf l i).1 = true → 1024 < (fileOf l i).2.size → codeF (l.take i) (fileOf l i) = 7) := fun h h2 => codeF_seven h h2
      have HC4 : Hid (∀ k, k < i → isPath (fileOf l i).1 = true → (fileOf l i).2.size ≤ 1024 → clashB (fileOf l k).1 (fileOf l i).1 = true → codeF (l.take i) (fileOf l i) = 4) := fun k hk h h2 h3 => codeF_four hk HIL.out h h2 h3
      have HC0 : Hid (isPath (fileOf l i).1 = true → (fileOf l i).2.size ≤ 1024 → (∀ k, k < i → clashB (fileOf l k).1 (fileOf l i).1 = false) → codeF (l.take i) (fileOf l i) = 0) := fun h h2 h3 => codeF_none HIL.out h h2 h3
      have HPI := HPA.out i hin
      have HCI : Hid (∀ k, k < n → ∀ W, Calls Tryd.prog 41 #[.string (fileOf l k).1, .string (fileOf l i).1] W fun e w' => e = .returned (.bool (clashB (fileOf l k).1 (fileOf l i).1)) ∧ Below W.heap.size W w') := fun k hk W => HCL.out k hk i hin W
      have hzb := HSZ.out i hin
      generalize codeF (l.take i) (fileOf l i) = r at HX HI2 HC2 HC7 HC4 HC0
      generalize fileOf l i = en at g0 g1 HZ2 HC2 HC7 HC4 HC0 HPI HCI hzb
      obtain ⟨p, bs⟩ := en
      have hix := index_file x n cap i hin
      simp only at g0 g1 HZ2 HC2 HC7 HC4 HC0 HPI HCI hzb
      obtain ⟨q, hq⟩ : ∃ q, q = x.add (i * 2) := ⟨_, rfl⟩
      rw [← hq] at g0 g1 hix hqb
      obtain ⟨z, hz⟩ : ∃ z, z = bs.size := ⟨_, rfl⟩
      have hlen := Tree.len_text bs z hz
      rw [← hz] at HZ2 HC7 HC4 HC0 hzb
      have HZS : Hid (z = bs.size) := hz
      have HWL : Hid (∀ W, Below wr.heap.size wr W → LiesF W (some x) l) := fun W h => hlr.below h (Nat.le_refl _)
      have HEN : Hid (Ents w1.heap.size u8 Z w1 wr) := hst
      have HBW : Hid (Below w.heap.size w wr) := hbw
      have HCU : Hid (wr.cell? ⟨w.heap.size, 0, none⟩ = some (.int .i64 (m : Int)) ∧ wr.cell? ⟨w.heap.size, 1, none⟩ = some (.int .i64 (M : Int)) ∧ wr.cell? ⟨w.heap.size, 2, none⟩ = some (.int .i64 (K : Int))) := ⟨k0, k1, k2⟩
      have HG : Hid (wr.cell? q = some (.string p) ∧ wr.cell? ⟨q.block, q.off + 1, none⟩ = some (.string bs)) := ⟨g0, g1⟩
      have HPA2 : Hid (∀ W, Calls Tryd.prog 31 #[.string p] W fun e w' => e = .returned (.bool (isPath p)) ∧ Below W.heap.size W w') := HPI
      clear hlr hst hbr hbw hq hz HPI k0 k1 k2 g1
      cases hP : isPath p with
      | false =>
        rw [hP] at HPA2
        have HE : Hid (∀ w', Below w.heap.size w w' → T (.returned (.tuple #[.slice none 0 0, .int .i64 2, .int .i64 (i : Int)])) w') := HX.out 2 (HC2.out hP) (by omega)
        clear hP HC2 HC7 HC4 HC0
        go_wp2_with fail
        refine (HPA2.out _).mono ?_
        rintro e w2 ⟨rfl, hb2⟩
        have HB2 : Hid (Below w.heap.size w w2) := HBW.out.trans (hb2.mono HBW.out.size)
        clear hb2
        go_wp2
        refine bodyPost_ret (v := .tuple #[.slice none 0 0, .int .i64 2, .int .i64 (i : Int)]) (by simp [results, Tryd.results20, go_sem]) rfl ?_
        exact HE.out _ HB2.out
      | true =>
        rw [hP] at HPA2
        by_cases hz1 : 1024 < z
        · have HE : Hid (∀ w', Below w.heap.size w w' → T (.returned (.tuple #[.slice none 0 0, .int .i64 7, .int .i64 (i : Int)])) w') := HX.out 7 (HC7.out hP hz1) (by omega)
          clear hP HC2 HC7 HC4 HC0
          go_wp2_with fail
          refine (HPA2.out _).mono ?_
          rintro e w2 ⟨rfl, hb2⟩
          have HB2 : Hid (Below w.heap.size w w2) := HBW.out.trans (hb2.mono HBW.out.size)
          have e1 := cell_kept hb2 HG.out.2
          clear hb2
          go_wp2
          refine bodyPost_ret (v := .tuple #[.slice none 0 0, .int .i64 7, .int .i64 (i : Int)]) (by simp [results, Tryd.results20, go_sem]) rfl ?_
          exact HE.out _ HB2.out
        · have HE4 : Hid (∀ k, k < i → clashB (fileOf l k).1 p = true → ∀ w', Below w.heap.size w w' → T (.returned (.tuple #[.slice none 0 0, .int .i64 4, .int .i64 (i : Int)])) w') := fun k hk hc => HX.out 4 (HC4.out k hk hP (by omega) hc) (by omega)
          have HE0 : Hid ((∀ k, k < i → clashB (fileOf l k).1 p = false) → ∀ j, j < i + 1 → codeF (l.take j) (fileOf l j) = 0) := fun h => HI2.out (HC0.out hP (by omega) h)
          have hz2 : z ≤ 1024 := by omega
          clear hP HC2 HC7 HC4 HC0 HX HI2 hz1
          go_wp2_with fail
          refine (HPA2.out _).mono ?_
          rintro e w2 ⟨rfl, hb2⟩
          have e1 := cell_kept hb2 HG.out.2
          have HWL2 : Hid (∀ W, Below w2.heap.size w2 W → LiesF W (some x) l) := fun W h => HWL.out W (hb2.trans (h.mono hb2.size))
          have HEN2 : Hid (Ents w1.heap.size u8 Z w1 w2) := HEN.out.later hb2
          have HBW2 : Hid (Below w.heap.size w w2) := HBW.out.trans (hb2.mono HBW.out.size)
          have HK2 : Hid (Kept2 w.heap.size q p bs m M K w2 w2) := ⟨Below.refl _ _, cell_kept hb2 HG.out.1, e1, cell_kept hb2 HCU.out.1, cell_kept hb2 HCU.out.2.1, cell_kept hb2 HCU.out.2.2⟩
          have hlt2 : w.heap.size < w2.heap.size := Nat.lt_of_lt_of_le hlt hb2.size
          have hqb2 : q.block < w2.heap.size := Nat.lt_of_lt_of_le hqb hb2.size
          clear hb2 g0 HWL HEN HBW HG HCU hlt hqb
          go_wp2
          go_loopw [4, 5, 6, 11, 12] (fun t4 t5 t6 t11 _ wz => ∃ k : Nat, t4 = .slice none 0 0 ∧ t5 = .int .i64 0 ∧ t6 = .int .i64 0 ∧ t11 = .int .i64 (k : Int) ∧ k ≤ i ∧ Below w2.heap.size w2 wz ∧ Hid (∀ j, j < k → clashB (fileOf l j).1 p = false)) (fun _ _ _ t11 _ _ => i - (intOf t11).toNat)
          case atStart => exact ⟨0, rfl, rfl, rfl, rfl, Nat.zero_le _, Below.refl _ _, fun j hj => by omega⟩
          case round =>
            obtain ⟨k, rfl, rfl, rfl, rfl, hki, hbz, HK⟩ := hrel
            have HKW : Hid (Kept2 w.heap.size q p bs m M K w2 wr) := HK2.out.below hbz
            have HBZ : Hid (Below w2.heap.size w2 wr) := hbz
            have f0 := HKW.out.2.1
            by_cases hkin : k < i
            · obtain ⟨x2, hx2, y0, _⟩ := (HWL2.out wr hbz).at (j := k) (by rw [← HN.out]; omega)
              simp only [Option.some.injEq] at hx2
              subst hx2
              have hix2 := index_file x n cap k (by omega)
              have hcl := HCI.out k (by omega)
              have HE5 : Hid (clashB (fileOf l k).1 p = true → ∀ w', Below w.heap.size w w' → T (.returned (.tuple #[.slice none 0 0, .int .i64 4, .int .i64 (i : Int)])) w') := HE4.out k hkin
              have HK5 : Hid (clashB (fileOf l k).1 p = false → ∀ j, j < k + 1 → clashB (fileOf l j).1 p = false) := fun hq j hj => by
                by_cases hji : j = k
                · subst hji; exact hq
                · exact HK.out j (by omega)
              generalize (fileOf l k).1 = pk at y0 hcl HE5 HK5
              generalize x.add (k * 2) = q2 at y0 hix2
              generalize clashB pk p = u at hcl HE5 HK5
              have HR : Hid (∀ W, (Below wr.heap.size wr W ∧ W.cell? q = some (.string p) ∧ W.cell? q2 = some (.string pk)) → Calls Tryd.prog 41 #[.string pk, .string p] W fun e w' => e = .returned (.bool u) ∧ (Below wr.heap.size wr w' ∧ w'.cell? q = some (.string p) ∧ w'.cell? q2 = some (.string pk))) := by
                rintro W ⟨b0, c0, c1⟩
                refine (hcl W).mono ?_
                rintro e w' ⟨rfl, hb⟩
                exact ⟨rfl, b0.trans (hb.mono b0.size), cell_kept hb c0, cell_kept hb c1⟩
              clear hcl hbz HK
              cases u with
              | true =>
                have HT5 : Hid (∀ w', Below w.heap.size w w' → T (.returned (.tuple #[.slice none 0 0, .int .i64 4, .int .i64 (i : Int)])) w') := HE5.out rfl
                clear HE5 HK5
                go_wp2_with fail
                go_region_held (fun W => (Below wr.heap.size wr W ∧ W.cell? q = some (.string p) ∧ W.cell? q2 = some (.string pk)))
                  (first | assumption | exact ⟨(Below.refl _ _).drew, by simpa using f0, by simpa using y0⟩)
                  (first | (go_at_call 41; refine (HR.out _ (by assumption)).mono ?_; rintro e w3 ⟨rfl, hb3⟩))
                all_goals
                  have HB3 : Hid (Below w.heap.size w w3) := HBW2.out.trans ((HBZ.out.trans (hb3.1.mono HBZ.out.size)).mono HBW2.out.size)
                  clear hb3 HR
                  go_wp2
                  refine bodyPost_ret (v := .tuple #[.slice none 0 0, .int .i64 4, .int .i64 (i : Int)]) (by simp [results, Tryd.results20, go_sem]) rfl ?_
                  exact HT5.out _ HB3.out
              | false =>
                have HK6 : Hid (∀ j, j < k + 1 → clashB (fileOf l j).1 p = false) := HK5.out rfl
                clear HE5 HK5
                go_wp2_with fail
                go_region_held (fun W => (Below wr.heap.size wr W ∧ W.cell? q = some (.string p) ∧ W.cell? q2 = some (.string pk)))
                  (first | assumption | exact ⟨(Below.refl _ _).drew, by simpa using f0, by simpa using y0⟩)
                  (first | (go_at_call 41; refine (HR.out _ (by assumption)).mono ?_; rintro e w3 ⟨rfl, hb3⟩))
                all_goals
                  have HB3 : Hid (Below w2.heap.size w2 w3) := HBZ.out.trans (hb3.1.mono HBZ.out.size)
                  clear hb3 HR
                  go_wp2
                  go_roundw
                  case rel => exact ⟨k + 1, rfl, rfl, rfl, by go_num, by omega, HB3.out, HK6⟩
                  case measure => simp [intOf]; omega
            · have HIN : Hid (∀ j, j < i + 1 → codeF (l.take j) (fileOf l j) = 0) := HE0.out fun j hj => HK.out j (by omega)
              have HNE : Hid (∀ y ∈ Z, y.1.1 ≠ p) := by
                intro y hy e
                have h1 : y.1 ∈ (l.take i).map (entF m M K) := HZ.out.mem_iff.1 (List.mem_map.2 ⟨y, hy, rfl⟩)
                obtain ⟨f, hf, hfe⟩ := List.mem_map.1 h1
                obtain ⟨j, hj, rfl⟩ := List.mem_take_iff_getElem.1 hf
                have h2 := HK.out j (by omega)
                have h3 : fileOf l j = l[j] := by simp [fileOf, List.getD_eq_getElem?_getD, show j < l.length by omega]
                have h4 : (l[j]).1 = p := by rw [← e, ← hfe]; rfl
                rw [h3, h4, clashB, decide_eq_true rfl] at h2
                cases h2
              have HEW : Hid (Ents w1.heap.size u8 Z w1 wr) := HEN2.out.later hbz
              have HKR : Hid (Kept2 w.heap.size q p bs m M K wr wr) := ⟨Below.refl _ _, HKW.out.2⟩
              have hlt3 : w.heap.size < wr.heap.size := Nat.lt_of_lt_of_le hlt2 hbz.size
              have hqb3 : q.block < wr.heap.size := Nat.lt_of_lt_of_le hqb2 hbz.size
              have HZL : Hid (Z.length = i) := by
                show _ = _
                have h := HZ.out.length_eq
                simp only [List.length_map, List.length_take] at h
                have h2 := HIL.out
                omega
              have HZN : Hid ((l.take (i + 1)).map (entF m M K) = (l.take i).map (entF m M K) ++ [(p, (z : Int), chunks m M K bs)]) := HZ2.out
              obtain ⟨C, hC⟩ : ∃ C, C = chunks m M K bs := ⟨_, rfl⟩
              rw [← hC] at HZN
              obtain ⟨L, hL⟩ : ∃ L, L = C.length := ⟨_, rfl⟩
              have HCL2 : Hid (L = C.length) := hL
              have HWK : Hid (∀ W, Kept2 w.heap.size q p bs m M K wr W → Calls Tryd.prog 42 #[.string bs, .agg #[.int .i64 (m : Int), .int .i64 (M : Int), .int .i64 (K : Int)]] W fun e w' => ∃ ac capc, e = .returned (.slice ac L capc) ∧ w'.ownsRow W.heap.size 9 1 (.slice ac L capc) C.length (sv C) ∧ Below W.heap.size W w' ∧ Kept2 w.heap.size q p bs m M K wr w') := by
                intro W h
                refine (HSP.out bs W (by rw [← HZS.out]; exact hz2)).mono ?_
                rintro e w' ⟨v, rfl, hs'⟩
                rw [← hC] at hs'
                obtain ⟨ac, capc, rfl, _, _, _⟩ := hs'.liesN HCL2.out
                exact ⟨ac, capc, rfl, hs'.1, hs'.2.1, h.below hs'.2.1⟩
              clear hC hL HE4 HE0 HK HZ2 HKW HBZ hbz f0 HK2 HWL2 HEN2 e1
              unfold Kept2 at HWK
              go_wp2_with fail
              go_region_held (fun W => Below wr.heap.size wr W ∧ W.cell? q = some (.string p) ∧ W.cell? ⟨q.block, q.off + 1, none⟩ = some (.string bs) ∧ W.cell? ⟨w.heap.size, 0, none⟩ = some (.int .i64 (m : Int)) ∧ W.cell? ⟨w.heap.size, 1, none⟩ = some (.int .i64 (M : Int)) ∧ W.cell? ⟨w.heap.size, 2, none⟩ = some (.int .i64 (K : Int)))
                (first | assumption | exact Kept2.below HKR.out ((Below.refl _ _).drew) | exact Kept2.below (by assumption) ((Below.refl _ _).alloc (Nat.le_refl _) _) | exact ((Kept2.set (by assumption) (Nat.le_refl _) (by omega) (by omega)).set (Nat.le_refl _) (by omega) (by omega)).set (Nat.le_refl _) (by omega) (by omega) | skip)
                (first | (go_at_call 42; refine (HWK.out _ (by assumption)).mono ?_; rintro e w3 ⟨ac, capc, rfl, ho3, hb3, hk3⟩; (first | (have hq : (w3.cell? ⟨wr.heap.size, 0, none⟩ = some (.string ⟨#[]⟩) ∧ w3.cell? ⟨wr.heap.size, 1, none⟩ = some (.int .i64 0) ∧ w3.cell? ⟨wr.heap.size, 2, none⟩ = some (.slice none 0 0)) ∧ w3.frozen? ⟨wr.heap.size, 0, none⟩ = false ∧ w3.frozen? ⟨wr.heap.size, 1, none⟩ = false ∧ w3.frozen? ⟨wr.heap.size, 2, none⟩ = false := ent_box2 (((Below.refl _ _).drew).trans hb3); obtain ⟨⟨q0, q1, q2⟩, q3, q4, q5⟩ := hq) | skip)))
              all_goals first
                | (
                  have HE : Hid (Ents w1.heap.size u8 Z w1 (((w3.setCell ⟨wr.heap.size, 0, none⟩ (.string p)).setCell ⟨wr.heap.size, 1, none⟩ (.int .i64 (z : Int))).setCell ⟨wr.heap.size, 2, none⟩ (.slice ac L capc))) := HEW.out.later (((hk3.1.setCell (Nat.le_refl _) _).setCell (Nat.le_refl _) _).setCell (Nat.le_refl _) _)
                  have ho4 : w3.ownsRow (wr.heap.size + 1) 9 1 (.slice ac L capc) C.length (sv C) := by
                    have e : (wr.alloc (.cells #[.string ⟨#[]⟩, .int .i64 0, .slice none 0 0] 30)).drew.heap.size = wr.heap.size + 1 := by
                      show (wr.alloc (.cells #[.string ⟨#[]⟩, .int .i64 0, .slice none 0 0] 30)).heap.size = _
                      simp
                    rw [← e]; exact ho3
                  have HKY : Hid (KeyRow w1.heap.size (((w3.setCell ⟨wr.heap.size, 0, none⟩ (.string p)).setCell ⟨wr.heap.size, 1, none⟩ (.int .i64 (z : Int))).setCell ⟨wr.heap.size, 2, none⟩ (.slice ac L capc)) ((p, (z : Int), C), .slice ac L capc)) := own_any (own_far (own_far (own_far ho4 (by omega)) (by omega)) (by omega)) (Nat.le_trans HEW.out.2.2.1 (by omega)))
                | (
                  have HE : Hid (Ents w1.heap.size u8 Z w1 (w3.alloc (.cells #[.string p, .int .i64 (z : Int), .slice ac L capc] 30))) := HEW.out.later (hk3.1.alloc hk3.1.size _)
                  have HKY : Hid (KeyRow w1.heap.size (w3.alloc (.cells #[.string p, .int .i64 (z : Int), .slice ac L capc] 30)) ((p, (z : Int), C), .slice ac L capc)) := own30_later (own_any ho3 HEW.out.2.2.1) ((Below.refl _ _).alloc (Nat.le_refl _) _))
              all_goals
                obtain ⟨LL, hLL⟩ : ∃ LL, LL = (Z ++ [(((p, (z : Int), C), .slice ac L capc) : (ByteArray × Int × List ByteArray) × Value)]).length := ⟨_, rfl⟩
                have HLL : Hid (LL = (Z ++ [(((p, (z : Int), C), .slice ac L capc) : (ByteArray × Int × List ByteArray) × Value)]).length) := hLL
                have hLi : LL = i + 1 := by have := HZL.out; rw [hLL]; simp; omega
                have hL1 : i < LL := by omega
                have hL2 : LL ≤ 33 := by omega
                have HLi : Hid (LL = i + 1) := hLi
                clear hLL hLi ho3 hb3 hk3 HWK
                go_wp2_with (at_builtin; refine wpList_ent_at rfl (.tmp 83) (.tmp 85) rfl w1.heap.size _ Z rfl w1 _ p (z : Int) C (.slice ac L capc) HE.out HKY.out _ rfl (by simp) (by have := HZL.out; omega) ?_; intro v' w4 hb4; obtain ⟨g, cg, rfl⟩ := hb4.letter HLL.out (by omega))
                go_loopw [14, 15] (fun t14 _ wz => ∃ k3 : Nat, t14 = .int .i64 (k3 : Int) ∧ k3 ≤ i ∧ Ents w1.heap.size (.slice (some ⟨g, 0, none⟩) LL cg) (ins Z k3 ((p, (z : Int), C), .slice ac L capc)) w1 wz ∧ KeyRow w1.heap.size wz ((p, (z : Int), C), .slice ac L capc) ∧ Hid (∀ y ∈ Z.drop k3, lt p y.1.1 = true)) (fun t14 _ _ => (intOf t14).toNat)
                case atStart =>
                  refine ⟨i, by have := HLi.out; congr 1; omega, Nat.le_refl _, ?_, hb4.2.2.2 _ (by simp), fun y hy => ?_⟩
                  · have h := HZL.out
                    rw [← h, ins_end]
                    exact hb4
                  · rw [List.drop_of_length_le (by rw [HZL.out]; exact Nat.le_refl _)] at hy
                    cases hy
                case round =>
                  obtain ⟨k3, rfl, hk3i, hE3, hKY3, HD3⟩ := hrel
                  have HE3 : Hid (Ents w1.heap.size (.slice (some ⟨g, 0, none⟩) LL cg) (ins Z k3 ((p, (z : Int), C), .slice ac L capc)) w1 wr) := hE3
                  have HKY3 : Hid (KeyRow w1.heap.size wr ((p, (z : Int), C), .slice ac L capc)) := hKY3
                  have HPM : Hid (((ins Z k3 ((p, (z : Int), C), .slice ac L capc)).map (·.1)).Perm ((l.take (i + 1)).map (entF m M K))) := by
                    show List.Perm _ _
                    rw [HZN.out]
                    exact ins_map HZ.out
                  have HLI : Hid (LL = (ins Z k3 ((p, (z : Int), C), .slice ac L capc)).length) := by show _ = _; rw [ins_len, HZL.out, HLi.out]
                  clear hE3 hKY3 hb4
                  rcases Nat.eq_zero_or_pos k3 with hk0 | hk0
                  · have hdi : decide (0 < k3) = false := decide_eq_false (by omega)
                    have HSN : Hid (SortedZ (ins Z k3 ((p, (z : Int), C), .slice ac L capc))) := ins_sorted (by omega) HS.out HD3.out (.inl hk0)
                    go_wp2_with fail
                    go_quiet (fail)
                    go_wp2
                    go_roundw
                    case rel => exact ⟨i + 1, _, rfl, rfl, rfl, by go_num, by omega, HE3.out.later (below_drewN (Below.refl _ _) _), HSN, HPM, HIN⟩
                    case measure => simp [intOf]; omega
                  · obtain ⟨kp, hkp⟩ : ∃ kp, k3 = kp + 1 := ⟨k3 - 1, by omega⟩
                    have HKP : Hid (k3 = kp + 1) := hkp
                    have hkl : kp < k3 := by omega
                    have hkZ : kp < Z.length := by have := HZL.out; omega
                    have HKZ : Hid (kp < Z.length) := hkZ
                    have hdi : decide (0 < k3) = true := decide_eq_true hk0
                    have hC3 := HE3.out.at_ HLI.out k3 (by omega)
                    have hCp := HE3.out.at_ HLI.out kp (by omega)
                    rw [ins_at (by have := HZL.out; omega)] at hC3
                    have hah : zOf (ins Z k3 ((p, (z : Int), C), .slice ac L capc)) kp = zOf Z kp := by rw [hkp]; exact ins_ahead hkZ
                    rw [hah] at hCp
                    obtain ⟨x0, x1, x2, _⟩ := hC3
                    obtain ⟨y0, y1, y2, hyk⟩ := hCp
                    have HMO : Hid (lt p (zOf Z kp).1.1 = true → ∀ y ∈ Z.drop kp, lt p y.1.1 = true) := fun h => by
                      have h2 := HD3.out
                      rw [hkp] at h2
                      exact ins_more (e := ((p, (z : Int), C), .slice ac L capc)) hkZ h2 h
                    have HSO : Hid (lt p (zOf Z kp).1.1 = false → SortedZ (ins Z k3 ((p, (z : Int), C), .slice ac L capc))) := fun h => by
                      refine ins_sorted (by have := HZL.out; omega) HS.out HD3.out (.inr ?_)
                      have e : k3 - 1 = kp := by omega
                      rw [e]
                      cases h2 : lt (zOf Z kp).1.1 p with
                      | true => rfl
                      | false => exact absurd (lt_total h2 h) (HNE.out _ (zOf_mem hkZ))
                    have HST : Hid (((ins Z k3 ((p, (z : Int), C), .slice ac L capc)).set k3 (zOf Z kp)).set kp ((p, (z : Int), C), .slice ac L capc) = ins Z kp ((p, (z : Int), C), .slice ac L capc)) := by
                      show _ = _
                      rw [hkp]; exact ins_step hkZ
                    generalize zOf Z kp = y at y0 y1 y2 hyk HMO HSO HST
                    obtain ⟨⟨py, sy, Cy⟩, kvy⟩ := y
                    simp only at y0 y1 y2 HMO HSO
                    have HYK : Hid (KeyRow w1.heap.size wr ((py, sy, Cy), kvy)) := hyk
                    have hi3 := index_at_row g LL cg k3 (k3 : Int) rfl (by omega)
                    have hip := index_at_row g LL cg kp ((k3 : Int) - 1) (by omega) (by omega)
                    obtain ⟨b, hb⟩ : ∃ b, b = lt p py := ⟨_, rfl⟩
                    have HGE : Hid (Op.bytesLess p.toList py.toList = b) := hb.symm
                    rw [← hb] at HMO HSO
                    have hgb : g < wr.heap.size := HE3.out.block
                    clear hyk hb hkp hah
                    cases b with
                    | true =>
                      have HDP : Hid (∀ y ∈ Z.drop kp, lt p y.1.1 = true) := HMO.out rfl
                      clear HMO HSO
                      go_wp2_with fail
                      go_quiet (fail)
                      rw [HGE.out]
                      have hdq : Below wr.heap.size wr (wr.drewN nq) := below_drewN (Below.refl _ _) nq
                      have x0' : (wr.drewN nq).cell? ⟨g, k3 * 3, none⟩ = some (.string p) := x0
                      have x1' : (wr.drewN nq).cell? ⟨g, k3 * 3 + 1, none⟩ = some (.int .i64 (z : Int)) := x1
                      have x2' : (wr.drewN nq).cell? ⟨g, k3 * 3 + 2, none⟩ = some (.slice ac L capc) := x2
                      have y0' : (wr.drewN nq).cell? ⟨g, kp * 3, none⟩ = some (.string py) := y0
                      have y1' : (wr.drewN nq).cell? ⟨g, kp * 3 + 1, none⟩ = some (.int .i64 sy) := y1
                      have y2' : (wr.drewN nq).cell? ⟨g, kp * 3 + 2, none⟩ = some kvy := y2
                      have HE4 : Hid (Ents w1.heap.size (.slice (some ⟨g, 0, none⟩) LL cg) (ins Z k3 ((p, (z : Int), C), .slice ac L capc)) w1 (wr.drewN nq)) := HE3.out.later hdq
                      have HKY4 : Hid (KeyRow w1.heap.size (wr.drewN nq) ((p, (z : Int), C), .slice ac L capc)) := own30_later HKY3.out hdq
                      have HYK4 : Hid (KeyRow w1.heap.size (wr.drewN nq) ((py, sy, Cy), kvy)) := own30_later HYK.out hdq
                      clear x0 x1 x2 y0 y1 y2 HE3 HKY3 HYK hgb hdq
                      generalize wr.drewN nq = wd at x0' x1' x2' y0' y1' y2' HE4 HKY4 HYK4 ⊢
                      have hgb : g < wd.heap.size := HE4.out.block
                      have HEA : Hid (∀ o, Ents w1.heap.size (.slice (some ⟨g, 0, none⟩) LL cg) (ins Z k3 ((p, (z : Int), C), .slice ac L capc)) w1 (wd.alloc o)) := fun o => HE4.out.alloc o
                      have HKA : Hid (∀ o, KeyRow w1.heap.size (wd.alloc o) ((p, (z : Int), C), .slice ac L capc)) := fun o => own30_later HKY4.out ((Below.refl _ _).alloc (Nat.le_refl _) o)
                      have HYA : Hid (∀ o, KeyRow w1.heap.size (wd.alloc o) ((py, sy, Cy), kvy)) := fun o => own30_later HYK4.out ((Below.refl _ _).alloc (Nat.le_refl _) o)
                      have z0 : (wd.alloc (.cells #[.string p, .int .i64 (z : Int), .slice ac L capc] 30)).cell? ⟨g, kp * 3, none⟩ = some (.string py) := by rw [World.cell?_alloc_lt _ _ _ hgb]; exact y0'
                      have z1 : (wd.alloc (.cells #[.string p, .int .i64 (z : Int), .slice ac L capc] 30)).cell? ⟨g, kp * 3 + 1, none⟩ = some (.int .i64 sy) := by rw [World.cell?_alloc_lt _ _ _ hgb]; exact y1'
                      have z2 : (wd.alloc (.cells #[.string p, .int .i64 (z : Int), .slice ac L capc] 30)).cell? ⟨g, kp * 3 + 2, none⟩ = some kvy := by rw [World.cell?_alloc_lt _ _ _ hgb]; exact y2'
                      go_wp2_with (first
                        | (refine wpList_putEnt rfl (.tmp 119) (.tmp 118) rfl rfl w1.heap.size g LL cg (ins Z k3 ((p, (z : Int), C), .slice ac L capc)) w1 k3 py sy Cy kvy rfl rfl (HEA.out _) HLI.out (by omega) (HYA.out _) ?_; intro w5 hE5 hg5; obtain ⟨bx0, bx1, bx2⟩ := box3 (bx := wd.heap.size) rfl hg5 (by omega))
                        | (refine wpList_putEnt rfl (.tmp 124) (.tmp 123) rfl rfl w1.heap.size g LL cg _ w1 kp p (z : Int) C (.slice ac L capc) rfl rfl hE5 (by rw [List.length_set]; exact HLI.out) (by omega) (KeyRow.keep (HKA.out _) (HEA.out _) hg5) ?_; intro w6 hE6 hg6))
                      rw [HST.out] at hE6
                      go_roundw
                      case rel => exact ⟨kp, by have := HKP.out; congr 1; omega, by omega, hE6, KeyRow.keep (KeyRow.keep (HKA.out _) (HEA.out _) hg5) hE5 hg6, HDP⟩
                      case measure => have := HKP.out; simp [intOf]; omega
                    | false =>
                      have HSN : Hid (SortedZ (ins Z k3 ((p, (z : Int), C), .slice ac L capc))) := HSO.out rfl
                      clear HMO HSO
                      go_wp2_with fail
                      go_quiet (fail)
                      rw [HGE.out]
                      go_wp2
                      go_roundw
                      case rel => exact ⟨i + 1, _, rfl, rfl, rfl, by go_num, by omega, HE3.out.later (below_drewN (Below.refl _ _) _), HSN, HPM, HIN⟩
                      case measure => simp [intOf]; omega
    · have HT : Hid (∀ v Y w', Ents w.heap.size v Y w w' → SortedZ Y → (Y.map (·.1)).Perm (l.map (entF m M K)) → T (.returned (.tuple #[v, .int .i64 0, .int .i64 (-1)])) w') := HO.out (fun j hj => HI.out j (by omega))
      have HZP : Hid ((Z.map (·.1)).Perm (l.map (entF m M K))) := by
        have h := HZ.out
        rw [List.take_of_length_le (by rw [← HN.out]; omega)] at h
        exact h
      have HE : Hid (Ents w1.heap.size u8 Z w1 wr) := hst
      have HB0 : Hid (Below w.heap.size w w1) := (cut_box HB1.out).2.2.2.1
      clear HI hst hbr hbw k0 k1 k2 HZ
      go_wp2
      refine bodyPost_ret (v := .tuple #[u8, .int .i64 0, .int .i64 (-1)]) (by simp [results, Tryd.results20, go_sem]) rfl ?_
      refine HT.out _ Z _ ⟨own_any HE.out.1 HB0.out.size, HB0.out.trans (HE.out.2.1.mono HB0.out.size), Nat.le_trans HB0.out.size HE.out.2.2.1, fun z hz => own_any (HE.out.2.2.2 z hz) HB0.out.size⟩ HS.out HZP.out
end Go.Proofs.YtcjkficpiedpfaaDoor.Tree
