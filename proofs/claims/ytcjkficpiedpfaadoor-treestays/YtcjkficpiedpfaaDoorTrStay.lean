/-
  What TreeStays stands on: the one tree of files, whatever becomes of it; what is told of entries by Find and by Restore; rows that stay where another one is written.
-/
import Derived.Test.YtcjkficpiedpfaaDoorTrCopies
import Derived.Test.YtcjkficpiedpfaaDoorTrLBack
namespace Go.Proofs.YtcjkficpiedpfaaDoor.Tree
open Go.RowKit Route Chunk

/-- Good files' one tree. -/
theorem tree_there {l : List (ByteArray × ByteArray)} (m M K : Nat) (hg : Good l) : ∃ L : List (ByteArray × Int × List ByteArray), Sorted L ∧ L.Perm (l.map (entF m M K)) := by
  refine ⟨(l.map (entF m M K)).mergeSort (fun x y => !lt y.1 x.1), ?_, List.mergeSort_perm _ _⟩
  have h1 : ((l.map (entF m M K)).mergeSort (fun x y => !lt y.1 x.1)).Pairwise fun x y => (!lt y.1 x.1) = true := by
    refine List.pairwise_mergeSort ?_ ?_ _
    · intro a b c h1 h2
      simp only [Bool.not_eq_true'] at *
      exact lt_ntrans h2 h1
    · intro a b
      cases h : lt b.1 a.1 with
      | false => rfl
      | true => simp [lt_asymm h]
  have h2 : ((l.map (entF m M K)).mergeSort (fun x y => !lt y.1 x.1)).Pairwise fun x y => x.1 ≠ y.1 := by
    refine ((List.mergeSort_perm _ _).pairwise_iff (fun {x y} h => h.symm)).2 ?_
    rw [List.pairwise_map]
    refine hg.2.imp ?_
    intro x y h e
    have e' : x.1 = y.1 := e
    rw [clashB, decide_eq_true e'] at h
    simp at h
  refine (h1.and h2).imp ?_
  rintro x y ⟨h, hne⟩
  cases e : lt x.1 y.1 with
  | true => rfl
  | false => exact absurd (lt_total e (by simpa using h)) hne

/-- Files have one tree, or none: an empty one. -/
theorem build_one (n : Nat) (l : List (ByteArray × ByteArray)) (mn mx mk : Int) : ∃ L : List (ByteArray × Int × List ByteArray), (FilesOk n l → L.length ≤ 100 ∧ ∀ j, j < L.length → (entOf L j).2.2.length ≤ 1000000) ∧
    ∀ (a : Option Addr) cap W, LiesF W a l → n ≤ cap → FilesOk n l → Calls Tryd.prog 19 #[.slice a n cap, cutV mn mx mk] W fun e w' => ∃ v Y E, e = .returned (.tuple #[v, E]) ∧ Ents W.heap.size v Y W w' ∧ Y.map (·.1) = L := by
  have none_ok : ∀ W w', Below W.heap.size W w' → Ents W.heap.size (.slice none 0 0) [] W w' := fun W w' hb => ⟨World.ownsRow_nil w' _ 30 3, hb, hb.size, fun z hz => by simp at hz⟩
  cases hm : mayB mn mx mk with
  | false =>
    refine ⟨[], fun _ => ⟨by simp, fun j hj => by simp at hj⟩, fun a cap W _ _ _ => ?_⟩
    refine (build_may a n cap mn mx mk W hm).mono ?_
    rintro e w' ⟨rfl, hb⟩
    exact ⟨_, [], _, rfl, none_ok W w' hb, rfl⟩
  | true =>
    by_cases hn : 32 < n
    · refine ⟨[], fun _ => ⟨by simp, fun j hj => by simp at hj⟩, fun a cap W _ _ _ => ?_⟩
      refine (build_large a n cap mn mx mk W hm hn).mono ?_
      rintro e w' ⟨rfl, hb⟩
      exact ⟨_, [], _, rfl, none_ok W w' hb, rfl⟩
    · obtain ⟨m, M, K, rfl, rfl, rfl, h1, h2, h3, h4⟩ := mayB_nat hm
      by_cases hg : Good l
      · obtain ⟨L, hs, hp⟩ := tree_there m M K hg
        refine ⟨L, fun hok => ?_, fun a cap W hl hc hok => ?_⟩
        · have hen := built_short h1 h2 h3 hg hok hp (by omega)
          exact ⟨by rw [← hen.1]; omega, fun j hj => Nat.le_trans (hen.2.2 j (by rw [hen.1]; exact hj)).2.1 (by omega)⟩
        · refine (build_any a n cap l m M K W h1 h2 h3 (by omega) (by omega) hok hl hc).mono ?_
          rintro e w' (⟨_, v, Y, rfl, h5, h6, h7⟩ | ⟨h, _⟩)
          · exact ⟨v, Y, _, rfl, h5, sorted_unique (h7.trans hp.symm) h6 hs⟩
          · exact absurd hg h
      · refine ⟨[], fun _ => ⟨by simp, fun j hj => by simp at hj⟩, fun a cap W hl hc hok => ?_⟩
        refine (build_any a n cap l m M K W h1 h2 h3 (by omega) (by omega) hok hl hc).mono ?_
        rintro e w' (⟨h, _⟩ | ⟨_, ⟨v, rfl, _⟩, hb⟩)
        · exact absurd h hg
        · exact ⟨_, [], _, rfl, none_ok W w' hb, rfl⟩

/-- What Find tells, whatever the entries. -/
theorem find_some (a : Option Addr) (n cap : Nat) (l : List (ByteArray × Int × List ByteArray)) (path : ByteArray) (W : World) (hl : EntsOk n l) (hl0 : LiesE W a l) (hc : n ≤ cap) :
    Calls Tryd.prog 12 #[.slice a n cap, .string path] W fun e w' => ∃ p sz v ks E, e = .returned (.tuple #[.agg #[.string p, .int .i64 sz, v], E]) ∧ Strs W.heap.size v ks W w' ∧ ks.length ≤ 1200 := by
  by_cases ht : isTree l
  · refine find_core _ a n cap l path W hl hl0 hc ht ?_ ?_
    · intro j hj _ v w' hs
      exact ⟨_, _, v, _, _, rfl, hs, (hl.2.2 j hj).2.1⟩
    · intro _ w' hb
      exact ⟨_, _, _, [], _, rfl, ⟨World.ownsRow_nil w' _ 9 1, hb, hb.size⟩, by simp⟩
  · refine (find_bad a n cap l path W hl hl0 hc ht).mono ?_
    rintro e w' ⟨⟨v, rfl, _⟩, hb⟩
    exact ⟨_, _, _, [], v, rfl, ⟨World.ownsRow_nil w' _ 9 1, hb, hb.size⟩, by simp⟩

/-- That Restore ends, whatever the entries, without a chunk. -/
theorem restore_some (a : Option Addr) (n cap : Nat) (l : List (ByteArray × Int × List ByteArray)) (W : World) (hl : EntsOk n l) (hl0 : LiesE W a l) (hc : n ≤ cap) :
    Calls Tryd.prog 22 #[.slice a n cap, .slice none 0 0] W fun e w' => (∃ v E, e = .returned (.tuple #[v, E])) ∧ Below W.heap.size W w' := by
  by_cases ht : isTree l
  · refine restore_core _ a none n cap 0 0 l [] W hl hl0 hc ht rfl (.inl rfl) (by omega) (fun j hj => by omega) ?_ ?_
    · intro _ _ _ _ v w' _ hb
      exact ⟨⟨_, v, rfl⟩, hb⟩
    · intro _ v w' hf
      exact ⟨⟨v, _, rfl⟩, hf.2.1⟩
  · refine (restore_bad a none n cap 0 0 l W hl hl0 hc ht).mono ?_
    rintro e w' ⟨⟨v, rfl, _⟩, hb⟩
    exact ⟨⟨_, v, rfl⟩, hb⟩

theorem own_farG {w : World} {B g i : Nat} {e : TypeId} {s : Nat} {x v : Value} {n : Nat} {xs : List Value} (h : w.ownsRow B e s v n xs) (hg : g < B) : (w.setCell ⟨g, i, none⟩ x).ownsRow B e s v n xs := by
  refine ⟨h.1, h.2.imp id fun ⟨g', cap, cur, h1, h2, h3, h4⟩ => ⟨g', cap, cur, h1, h2, ?_, h4⟩⟩
  rw [← h3, World.setCell]
  simp [Array.getElem?_modify, show g ≠ g' by omega]

/-- A row of entries, its own words alone. -/
def Row30 (B : Nat) (v : Value) (Z : List ((ByteArray × Int × List ByteArray) × Value)) (w : World) : Prop := w.ownsRow B 30 3 v Z.length (cellsOf Z) ∧ ∀ z ∈ Z, KeyRow B w z
theorem Row30.far {w : World} {B g i : Nat} {x v : Value} {Z : List ((ByteArray × Int × List ByteArray) × Value)} (h : Row30 B v Z w) (hg : g < B) : Row30 B v Z (w.setCell ⟨g, i, none⟩ x) :=
  ⟨own_farG h.1 hg, fun z hz => own_farG (h.2 z hz) hg⟩
theorem Row30.lies {B n : Nat} {a : Option Addr} {cap : Nat} {Z : List ((ByteArray × Int × List ByteArray) × Value)} {w : World} (h : Row30 B (.slice a n cap) Z w) (hB : B ≤ w.heap.size) : LiesE w a (Z.map (·.1)) := by
  obtain ⟨a', cap', e, _, hl⟩ := Ents.lies (W0 := w) ⟨h.1, Below.refl _ _, hB, h.2⟩
  simp only [Value.slice.injEq] at e
  rw [e.1]; exact hl

/-- A row of files that came in, behind a new one, at the operation. -/
theorem wpList_files {ops : Array Oper} {rest : List Oper} {o : Oper} {a : Act} {Q : Exit → Act → World → Prop} (hgd : o.guard = none) (s x : Operand)
    (ho : o.op = .call { callee := .builtin .append, args := #[s, x], argTypes := #[41, 41] })
    (B : Nat) (v : Value) (F : List (ByteArray × ByteArray)) (hs : a.eval s = v) (W0 w0 : World) (hb : FRow B v F W0 w0) (G : List (ByteArray × ByteArray)) (ad : Option Addr) (k c : Nat)
    (hx : a.eval x = .slice ad k c) (hk : k = G.length) (hg : LiesF w0 ad G) (hnil : ad = none → c = 0) (hlen : F.length + k ≤ 1000000)
    (h : ∀ v' w', FRow B v' (F ++ G) W0 w' → wpList Tryd.prog ops Q rest (a.put o.dst v') w') : wpList Tryd.prog ops Q (o :: rest) a w0 := by
  cases ad with
  | none =>
    obtain ⟨i0, hi, _, _, _⟩ := info_parts info58
    have hc : c = 0 := hnil rfl
    have hG : G = [] := by
      rcases hg with h | ⟨x, h, _⟩
      · exact h
      · cases h
    subst hG; subst hc; subst hk
    refine wpList_append_own_none hgd s x 41 ho B 58 i0 2 Tryd.underlying41 hi v F.length (fcells F) hs hb.1 hx ?_
    exact h v w0 (by rw [List.append_nil]; exact hb)
  | some ad => exact wpList_plain hgd fun K hK => wp_files s x ho B v F hs W0 w0 hb G ad k c hx hk hg hlen fun v' w' hf => hK _ _ (h v' w' hf)
end Go.Proofs.YtcjkficpiedpfaaDoor.Tree
