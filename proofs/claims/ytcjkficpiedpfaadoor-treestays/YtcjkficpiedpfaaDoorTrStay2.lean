/-
  What was told and what is written over, and how it stands meanwhile: what came in, what was copied ahead, and the rows that are written.
-/
import Derived.Test.YtcjkficpiedpfaaDoorTrCopies
import Derived.Test.YtcjkficpiedpfaaDoorTrTurn
import Derived.Test.YtcjkficpiedpfaaDoorTrLBelow
namespace Go.Proofs.YtcjkficpiedpfaaDoor.Tree
open Go.RowKit Route Chunk

/-- Good files' one tree. -/
theorem tree_there {l : List (ByteArray × ByteArray)} (m M K : Nat) (hg : Good l) : ∃ L : List (ByteArray × Int × List ByteArray), Sorted L ∧ L.Perm (l.map (entF m M K)) := by
  refine ⟨(l.map (entF m M K)).mergeSort (fun x y => !lt y.1 x.1), ?_, List.mergeSort_perm _ _⟩
  have h1 : ((l.map (entF m M K)).mergeSort (fun x y => !lt y.1 x.1)).Pairwise fun x y => (!lt y.1 x.1) = true := by
    refine List.pairwise_mergeSort ?_ ?_ _
    · intro a b c h1 h2
      simp only [Bool.not_eq_true'] at *
      exact lt_ntrans h2 h1
    · intro a b
      cases h : lt b.1 a.1 with
      | false => rfl
      | true => simp [lt_asymm h]
  have h2 : ((l.map (entF m M K)).mergeSort (fun x y => !lt y.1 x.1)).Pairwise fun x y => x.1 ≠ y.1 := by
    refine ((List.mergeSort_perm _ _).pairwise_iff (fun {x y} h => h.symm)).2 ?_
    rw [List.pairwise_map]
    refine hg.2.imp ?_
    intro x y h e
    have e' : x.1 = y.1 := e
    rw [clashB, decide_eq_true e'] at h
    simp at h
  refine (h1.and h2).imp ?_
  rintro x y ⟨h, hne⟩
  cases e : lt x.1 y.1 with
  | true => rfl
  | false => exact absurd (lt_total e (by simpa using h)) hne

/-- Files have one tree, or none: an empty one. -/
theorem build_one (n : Nat) (l : List (ByteArray × ByteArray)) (mn mx mk : Int) : ∃ L : List (ByteArray × Int × List ByteArray), (FilesOk n l → L.length ≤ 100 ∧ ∀ j, j < L.length → (entOf L j).2.2.length ≤ 1000000) ∧
    ∀ (a : Option Addr) cap W, LiesF W a l → n ≤ cap → FilesOk n l → Calls Tryd.prog 19 #[.slice a n cap, cutV mn mx mk] W fun e w' => ∃ v Y E, e = .returned (.tuple #[v, E]) ∧ Ents W.heap.size v Y W w' ∧ Y.map (·.1) = L := by
  have none_ok : ∀ W w', Below W.heap.size W w' → Ents W.heap.size (.slice none 0 0) [] W w' := fun W w' hb => ⟨World.ownsRow_nil w' _ 30 3, hb, hb.size, fun z hz => by simp at hz⟩
  cases hm : mayB mn mx mk with
  | false =>
    refine ⟨[], fun _ => ⟨by simp, fun j hj => by simp at hj⟩, fun a cap W _ _ _ => ?_⟩
    refine (build_may a n cap mn mx mk W hm).mono ?_
    rintro e w' ⟨rfl, hb⟩
    exact ⟨_, [], _, rfl, none_ok W w' hb, rfl⟩
  | true =>
    by_cases hn : 32 < n
    · refine ⟨[], fun _ => ⟨by simp, fun j hj => by simp at hj⟩, fun a cap W _ _ _ => ?_⟩
      refine (build_large a n cap mn mx mk W hm hn).mono ?_
      rintro e w' ⟨rfl, hb⟩
      exact ⟨_, [], _, rfl, none_ok W w' hb, rfl⟩
    · obtain ⟨m, M, K, rfl, rfl, rfl, h1, h2, h3, h4⟩ := mayB_nat hm
      by_cases hg : Good l
      · obtain ⟨L, hs, hp⟩ := tree_there m M K hg
        refine ⟨L, fun hok => ?_, fun a cap W hl hc hok => ?_⟩
        · have hen := built_short h1 h2 h3 hg hok hp (by omega)
          exact ⟨by rw [← hen.1]; omega, fun j hj => Nat.le_trans (hen.2.2 j (by rw [hen.1]; exact hj)).2.1 (by omega)⟩
        · refine (build_any a n cap l m M K W h1 h2 h3 (by omega) (by omega) hok hl hc).mono ?_
          rintro e w' (⟨_, v, Y, rfl, h5, h6, h7⟩ | ⟨h, _⟩)
          · exact ⟨v, Y, _, rfl, h5, sorted_unique (h7.trans hp.symm) h6 hs⟩
          · exact absurd hg h
      · refine ⟨[], fun _ => ⟨by simp, fun j hj => by simp at hj⟩, fun a cap W hl hc hok => ?_⟩
        refine (build_any a n cap l m M K W h1 h2 h3 (by omega) (by omega) hok hl hc).mono ?_
        rintro e w' (⟨h, _⟩ | ⟨_, ⟨v, rfl, _⟩, hb⟩)
        · exact absurd h hg
        · exact ⟨_, [], _, rfl, none_ok W w' hb, rfl⟩

/-- What Find tells, whatever the entries. -/
theorem find_some (a : Option Addr) (n cap : Nat) (l : List (ByteArray × Int × List ByteArray)) (path : ByteArray) (W : World) (hl : EntsOk n l) (hl0 : LiesE W a l) (hc : n ≤ cap) :
    Calls Tryd.prog 12 #[.slice a n cap, .string path] W fun e w' => ∃ p sz v ks E, e = .returned (.tuple #[.agg #[.string p, .int .i64 sz, v], E]) ∧ Strs W.heap.size v ks W w' ∧ ks.length ≤ 1200 := by
  by_cases ht : isTree l
  · refine find_core _ a n cap l path W hl hl0 hc ht ?_ ?_
    · intro j hj _ v w' hs
      exact ⟨_, _, v, _, _, rfl, hs, (hl.2.2 j hj).2.1⟩
    · intro _ w' hb
      exact ⟨_, _, _, [], _, rfl, ⟨World.ownsRow_nil w' _ 9 1, hb, hb.size⟩, by simp⟩
  · refine (find_bad a n cap l path W hl hl0 hc ht).mono ?_
    rintro e w' ⟨⟨v, rfl, _⟩, hb⟩
    exact ⟨_, _, _, [], v, rfl, ⟨World.ownsRow_nil w' _ 9 1, hb, hb.size⟩, by simp⟩

/-- That Restore ends, whatever the entries, without a chunk. -/
theorem restore_some (a : Option Addr) (n cap : Nat) (l : List (ByteArray × Int × List ByteArray)) (W : World) (hl : EntsOk n l) (hl0 : LiesE W a l) (hc : n ≤ cap) :
    Calls Tryd.prog 22 #[.slice a n cap, .slice none 0 0] W fun e w' => (∃ v E, e = .returned (.tuple #[v, E])) ∧ Below W.heap.size W w' := by
  by_cases ht : isTree l
  · refine restore_core _ a none n cap 0 0 l [] W hl hl0 hc ht rfl (.inl rfl) (by omega) (fun j hj => by omega) ?_ ?_
    · intro _ _ _ _ v w' _ hb
      exact ⟨⟨_, v, rfl⟩, hb⟩
    · intro _ v w' hf
      exact ⟨⟨v, _, rfl⟩, hf.2.1⟩
  · refine (restore_bad a none n cap 0 0 l W hl hl0 hc ht).mono ?_
    rintro e w' ⟨⟨v, rfl, _⟩, hb⟩
    exact ⟨⟨_, v, rfl⟩, hb⟩

theorem own_farG {w : World} {B g i : Nat} {e : TypeId} {s : Nat} {x v : Value} {n : Nat} {xs : List Value} (h : w.ownsRow B e s v n xs) (hg : g < B) : (w.setCell ⟨g, i, none⟩ x).ownsRow B e s v n xs := by
  refine ⟨h.1, h.2.imp id fun ⟨g', cap, cur, h1, h2, h3, h4⟩ => ⟨g', cap, cur, h1, h2, ?_, h4⟩⟩
  rw [← h3, World.setCell]
  simp [Array.getElem?_modify, show g ≠ g' by omega]

/-- A row of entries, its own words alone. -/
def Row30 (B : Nat) (v : Value) (Z : List ((ByteArray × Int × List ByteArray) × Value)) (w : World) : Prop := w.ownsRow B 30 3 v Z.length (cellsOf Z) ∧ ∀ z ∈ Z, KeyRow B w z
theorem Row30.far {w : World} {B g i : Nat} {x v : Value} {Z : List ((ByteArray × Int × List ByteArray) × Value)} (h : Row30 B v Z w) (hg : g < B) : Row30 B v Z (w.setCell ⟨g, i, none⟩ x) :=
  ⟨own_farG h.1 hg, fun z hz => own_farG (h.2 z hz) hg⟩
theorem Row30.lies {B n : Nat} {a : Option Addr} {cap : Nat} {Z : List ((ByteArray × Int × List ByteArray) × Value)} {w : World} (h : Row30 B (.slice a n cap) Z w) (hB : B ≤ w.heap.size) : LiesE w a (Z.map (·.1)) := by
  obtain ⟨a', cap', e, _, hl⟩ := Ents.lies (W0 := w) ⟨h.1, Below.refl _ _, hB, h.2⟩
  simp only [Value.slice.injEq] at e
  rw [e.1]; exact hl

/-- A row of files that came in, behind a new one, at the operation. -/
theorem wpList_files {ops : Array Oper} {rest : List Oper} {o : Oper} {a : Act} {Q : Exit → Act → World → Prop} (hgd : o.guard = none) (s x : Operand)
    (ho : o.op = .call { callee := .builtin .append, args := #[s, x], argTypes := #[41, 41] })
    (B : Nat) (v : Value) (F : List (ByteArray × ByteArray)) (hs : a.eval s = v) (W0 w0 : World) (hb : FRow B v F W0 w0) (G : List (ByteArray × ByteArray)) (ad : Option Addr) (k c : Nat)
    (hx : a.eval x = .slice ad k c) (hk : k = G.length) (hg : LiesF w0 ad G) (hnil : ad = none → c = 0) (hlen : F.length + k ≤ 1000000)
    (h : ∀ v' w', FRow B v' (F ++ G) W0 w' → wpList Tryd.prog ops Q rest (a.put o.dst v') w') : wpList Tryd.prog ops Q (o :: rest) a w0 := by
  cases ad with
  | none =>
    obtain ⟨i0, hi, _, _, _⟩ := info_parts info58
    have hc : c = 0 := hnil rfl
    have hG : G = [] := by
      rcases hg with h | ⟨x, h, _⟩
      · exact h
      · cases h
    subst hG; subst hc; subst hk
    refine wpList_append_own_none hgd s x 41 ho B 58 i0 2 Tryd.underlying41 hi v F.length (fcells F) hs hb.1 hx ?_
    exact h v w0 (by rw [List.append_nil]; exact hb)
  | some ad => exact wpList_plain hgd fun K hK => wp_files s x ho B v F hs W0 w0 hb G ad k c hx hk hg hlen fun v' w' hf => hK _ _ (h v' w' hf)
end Go.Proofs.YtcjkficpiedpfaaDoor.Tree

namespace Go.Proofs.YtcjkficpiedpfaaDoor.Tree
open Go.RowKit Route Chunk

/-- A row of one's own, from block B on and ahead of block C, whatever it holds. -/
def RowIn (B C : Nat) (e : TypeId) (s : Nat) (a : Option Addr) (n cap : Nat) (w : World) : Prop := (∃ xs, w.ownsRow B e s (.slice a n cap) n xs) ∧ ∀ x, a = some x → x.block < C

theorem RowIn.far {B C : Nat} {e : TypeId} {s : Nat} {a : Option Addr} {n cap : Nat} {w : World} (h : RowIn B C e s a n cap w) {g i : Nat} (u : Value) (hg : g < B) : RowIn B C e s a n cap (w.setCell ⟨g, i, none⟩ u) := by
  obtain ⟨⟨xs, h1⟩, h2⟩ := h
  exact ⟨⟨xs, own_farG h1 hg⟩, h2⟩

/-- A row in a block behind all of another one's. -/
theorem RowIn.far2 {B C : Nat} {e : TypeId} {s : Nat} {a : Option Addr} {n cap : Nat} {w : World} (h : RowIn B C e s a n cap w) {g i : Nat} (u : Value) (hg : C ≤ g) : RowIn B C e s a n cap (w.setCell ⟨g, i, none⟩ u) := by
  obtain ⟨⟨xs, h1⟩, h2⟩ := h
  refine ⟨⟨xs, h1.1, ?_⟩, h2⟩
  rcases h1.2 with h3 | ⟨g', cap', cur, h3, h4, h5, h6⟩
  · exact .inl h3
  · refine .inr ⟨g', cap', cur, h3, h4, ?_, h6⟩
    simp only [Value.slice.injEq] at h3
    have := h2 _ h3.1
    simp only at this
    rw [← h5, World.setCell]
    simp [Array.getElem?_modify, show g ≠ g' by omega]

theorem RowIn.of {B : Nat} {e : TypeId} {s : Nat} {a : Option Addr} {n cap : Nat} {w w' : World} {xs : List Value} (h : w.ownsRow B e s (.slice a n cap) n xs) (hb : Below w.heap.size w w') : RowIn B w.heap.size e s a n cap w' := by
  refine ⟨⟨xs, own30_later h hb⟩, ?_⟩
  rintro x rfl
  rcases h.2 with ⟨h3, _⟩ | ⟨g', cap', cur, h3, h4, h5, h6⟩
  · simp at h3
  · simp only [Value.slice.injEq, Option.some.injEq] at h3
    rw [h3.1]
    exact (Array.getElem?_eq_some_iff.1 h5).1

/-- What a store needs, and what it leaves. -/
theorem RowIn.store {B C : Nat} {e : TypeId} {s : Nat} {a : Option Addr} {n cap : Nat} {w : World} (h : RowIn B C e s a n cap w) (j : Nat) (hj : j < n * s) (u : Value) :
    ∃ g, a = some ⟨g, 0, none⟩ ∧ B ≤ g ∧ g < C ∧ (∃ x, w.cell? ⟨g, j, none⟩ = some x) ∧ w.frozen? ⟨g, j, none⟩ = false ∧ RowIn B C e s a n cap (w.setCell ⟨g, j, none⟩ u) := by
  obtain ⟨⟨xs, h1⟩, h2⟩ := h
  rcases h1.2 with ⟨_, h3⟩ | ⟨g, cap', cur, h3, h4, _⟩
  · subst h3; omega
  · simp only [Value.slice.injEq] at h3
    obtain ⟨rfl, _, _⟩ := h3
    refine ⟨g, rfl, h4, h2 _ rfl, ⟨xs[j]'(by rw [h1.1]; exact hj), ?_⟩, h1.frozenAt j, ⟨_, (h1.stored j u).1⟩, h2⟩
    rw [h1.cellAt j hj, List.getElem?_eq_getElem]

/-- How it stands: below all is as it was; a row of entries, and one of texts whose slice lies in block y, may be written; the entries that were copied stay. -/
def St (w5 : World) (a6 : Option Addr) (m6 cap6 : Nat) (B6 y : Nat) (a7 : Option Addr) (kn c7 : Nat) (C : Nat) (v12 : Value) (Z : List ((ByteArray × Int × List ByteArray) × Value)) (wr : World) : Prop :=
  Below w5.heap.size w5 wr ∧ RowIn w5.heap.size B6 30 3 a6 m6 cap6 wr ∧ wr.cell? ⟨y, 2, none⟩ = some (.slice a7 kn c7) ∧ RowIn B6 y 9 1 a7 kn c7 wr ∧ Row30 C v12 Z wr ∧ C ≤ wr.heap.size ∧ w5.heap.size ≤ B6 ∧ B6 ≤ y ∧ y < C

theorem cell_far {w : World} {g i y k : Nat} {u x : Value} (h : w.cell? ⟨y, k, none⟩ = some x) (hg : g ≠ y) : (w.setCell ⟨g, i, none⟩ u).cell? ⟨y, k, none⟩ = some x := by
  rw [← h]
  refine World.cell?_of_block ?_
  rw [World.setCell]
  simp [Array.getElem?_modify, hg]

theorem St.one {w5 : World} {a6 : Option Addr} {m6 cap6 B6 y : Nat} {a7 : Option Addr} {kn c7 C : Nat} {v12 : Value} {Z : List ((ByteArray × Int × List ByteArray) × Value)} {wr : World} (h : St w5 a6 m6 cap6 B6 y a7 kn c7 C v12 Z wr) (j : Nat) (hj : j < m6 * 3) (u : Value) :
    ∃ g, a6 = some ⟨g, 0, none⟩ ∧ (∃ x, wr.cell? ⟨g, j, none⟩ = some x) ∧ wr.frozen? ⟨g, j, none⟩ = false ∧ St w5 a6 m6 cap6 B6 y a7 kn c7 C v12 Z (wr.setCell ⟨g, j, none⟩ u) := by
  obtain ⟨h1, h2, h3, h4, h5, h6, h7, h8, h9⟩ := h
  obtain ⟨g, e, hB, hC, hx, hf, hr⟩ := h2.store j hj u
  exact ⟨g, e, hx, hf, h1.setCell hB u, hr, cell_far h3 (by omega), h4.far u hC, h5.far (by omega), by simpa [World.setCell] using h6, h7, h8, h9⟩

theorem St.two {w5 : World} {a6 : Option Addr} {m6 cap6 B6 y : Nat} {a7 : Option Addr} {kn c7 C : Nat} {v12 : Value} {Z : List ((ByteArray × Int × List ByteArray) × Value)} {wr : World} (h : St w5 a6 m6 cap6 B6 y a7 kn c7 C v12 Z wr) (j : Nat) (hj : j < kn) (u : Value) :
    ∃ g, a7 = some ⟨g, 0, none⟩ ∧ (∃ x, wr.cell? ⟨g, j, none⟩ = some x) ∧ wr.frozen? ⟨g, j, none⟩ = false ∧ St w5 a6 m6 cap6 B6 y a7 kn c7 C v12 Z (wr.setCell ⟨g, j, none⟩ u) := by
  obtain ⟨h1, h2, h3, h4, h5, h6, h7, h8, h9⟩ := h
  obtain ⟨g, e, hB, hC, hx, hf, hr⟩ := h4.store j (by omega) u
  exact ⟨g, e, hx, hf, h1.setCell (Nat.le_trans h7 hB) u, h2.far2 u hB, cell_far h3 (by omega), hr, h5.far (by omega), by simpa [World.setCell] using h6, h7, h8, h9⟩

set_option maxRecDepth 100000 in
theorem index_text (x : Addr) (n cap i : Nat) (hi : i < n) (w : World) : (Instr.indexAt 28 (.slice (some x) n cap) (.int .i64 (i : Int))).run Tryd.prog w = .ok (.pointer (some (x.add (i * 1)))) w := by
  rw [run_indexAt_slice w 28 x n cap .i64 i (by kernel_rfl), if_pos (by omega)]
  rfl

theorem index_ent0 (g n cap i j : Nat) (hj : j = i * 3) (hi : i < n) (w : World) : (Instr.indexAt 22 (.slice (some ⟨g, 0, none⟩) n cap) (.int .i64 (i : Int))).run Tryd.prog w = .ok (.pointer (some ⟨g, j, none⟩)) w := by
  rw [index_ent _ n cap i hi, Go.WideShapes.add_plain, Nat.zero_add, hj]

set_option maxHeartbeats 4000000 in
set_option maxRecDepth 100000 in
theorem stays_none (a : Option Addr) (n cap : Nat) (l : List (ByteArray × Int × List ByteArray)) (fa : Option Addr) (fn fcap : Nat) (fl : List (ByteArray × ByteArray)) (mn mx mk : Int) (path : ByteArray) (w : World) (hg : Known w) (hl : EntsIn w a n cap l) (hfl : fn = fl.length ∧ LiesF w fa fl) (hp : path.size ≤ maxLen)
    (h : ¬ (EntsOk n l ∧ FilesOk fn fl ∧ path.size ≤ 2000)) :
    Calls Tryd.prog 7 #[.slice a n cap, .slice fa fn fcap, cutV mn mx mk, .string path] w fun e w' => e = .returned (.bool true) ∧ Below w.heap.size w w' := by
  have HUP : Hid (Calls Tryd.prog 9 #[] (w.alloc (.cells #[.int .i64 mn, .int .i64 mx, .int .i64 mk] 43)) fun e w' => e = .returned (.bool true) ∧ Below (w.alloc (.cells #[.int .i64 mn, .int .i64 mx, .int .i64 mk] 43)).heap.size (w.alloc (.cells #[.int .i64 mn, .int .i64 mx, .int .i64 mk] 43)) w') := up_any _ (hg.below ((Below.refl _ _).alloc (Nat.le_refl _) _) (Nat.le_refl _))
  have HSH : Hid (∀ W, Below w.heap.size w W → Calls Tryd.prog 10 #[.slice a n cap] W fun e w' => Shorts e n l ∧ w' = W) := fun W hb => short_any a n cap l W hl.1 (hl.2.1.below hb (Nat.le_refl _))
  have HFW : Hid (∀ W, Below w.heap.size w W → Calls Tryd.prog 18 #[.slice fa fn fcap] W fun e w' => Fews e fn fl ∧ w' = W) := fun W hb => few_any fa fn fcap fl W hfl.1 (hfl.2.below hb (Nat.le_refl _))
  obtain ⟨z, hz⟩ : ∃ z, z = path.size := ⟨_, rfl⟩
  have hlen := Tree.len_text path z hz
  have HH : Hid (¬ ((n ≤ 100 ∧ ∀ j, j < n → shortE (entOf l j)) ∧ (fn ≤ 100 ∧ ∀ j, j < fn → (fileOf fl j).1.size ≤ 2000 ∧ (fileOf fl j).2.size ≤ 3000) ∧ z ≤ 2000)) := by
    rw [hz]
    rintro ⟨h1, h2, h3⟩
    exact h ⟨⟨hl.1, h1.1, h1.2⟩, ⟨hfl.1, by omega, h2.2⟩, h3⟩
  have hzm : z ≤ 9223372036854775807 := by rw [hz]; unfold maxLen at hp; omega
  clear hg hl hfl hp h hz
  unfold cutV
  go_enter Tryd.func7, Tryd.ntmps7
  go_wp2_with fail
  refine HUP.out.mono ?_
  rintro e w1 ⟨rfl, hb1⟩
  obtain ⟨_, _, _, hbw, _⟩ := cut_box hb1
  have HBW : Hid (Below w.heap.size w w1) := hbw
  clear hb1 hbw
  go_wp2_with fail
  refine (HSH.out _ HBW.out).mono ?_
  rintro e w2 ⟨⟨b, rfl, hb⟩, rfl⟩
  have HB1 : Hid (b = true → n ≤ 100 ∧ ∀ j, j < n → shortE (entOf l j)) := hb
  clear hb
  go_wp2_with fail
  refine (HFW.out _ HBW.out).mono ?_
  rintro e w3 ⟨⟨b', rfl, hb'⟩, rfl⟩
  have HB2 : Hid (b' = true → fn ≤ 100 ∧ ∀ j, j < fn → (fileOf fl j).1.size ≤ 2000 ∧ (fileOf fl j).2.size ≤ 3000) := hb'
  clear hb'
  cases b with
  | false =>
    go_wp2
    go_ret
    exact ⟨rfl, HBW.out⟩
  | true =>
    cases b' with
    | false =>
      go_wp2
      go_ret
      exact ⟨rfl, HBW.out⟩
    | true =>
      have hz2 : ¬ z ≤ 2000 := fun h => HH.out ⟨HB1.out rfl, HB2.out rfl, h⟩
      clear HB1 HB2 HH
      go_wp2
      go_ret
      exact ⟨rfl, HBW.out⟩
end Go.Proofs.YtcjkficpiedpfaaDoor.Tree
