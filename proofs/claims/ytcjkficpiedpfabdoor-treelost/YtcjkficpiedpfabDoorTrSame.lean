/-
  Are two entries, or two rows of them, the same: the law's 'Same' and 'SameAll'; what a row that a call owns reads as.
-/
import Derived.Test.YtcjkficpiedpfabDoorTrRow
import Derived.Test.YtcjkficpiedpfabDoorTrFind
namespace Go.Proofs.YtcjkficpiedpfabDoor.Tree
open Go.RowKit Route Chunk

theorem key_lies {B : Nat} {w : World} {v : Value} {l : List ByteArray} (h : w.ownsRow B 9 1 v l.length (sv l)) : ∃ a cap, v = .slice a l.length cap ∧ KeysIn w a cap l := by
  rcases h.2 with ⟨rfl, hn⟩ | ⟨g, cap, cur, rfl, hb, hg, hnc, hcm, hcs, ht⟩
  · have : l = [] := List.eq_nil_of_length_eq_zero hn
    subst this
    exact ⟨none, 0, rfl, .inl rfl, Nat.le_refl _, Nat.zero_le _, fun _ => rfl⟩
  · refine ⟨_, cap, rfl, .inr ⟨_, rfl, fun j hj => ?_⟩, hnc, hcm, fun h => by cases h⟩
    rw [Go.WideShapes.add_plain, Nat.zero_add, h.cellAt j (by omega), sv_at l j hj]

theorem zOf_mem {Z : List ((ByteArray × Int × List ByteArray) × Value)} {j : Nat} (h : j < Z.length) : zOf Z j ∈ Z := by
  simp [zOf, List.getD_eq_getElem?_getD, h]
theorem zOf_map {Z : List ((ByteArray × Int × List ByteArray) × Value)} {j : Nat} (h : j < Z.length) : entOf (Z.map (·.1)) j = (zOf Z j).1 := by
  simp [zOf, entOf, List.getD_eq_getElem?_getD, h]

/-- What a row of entries reads as. -/
theorem Ents.lies {B : Nat} {v : Value} {Z : List ((ByteArray × Int × List ByteArray) × Value)} {W0 w : World} (h : Ents B v Z W0 w) : ∃ a cap, v = .slice a Z.length cap ∧ Z.length ≤ cap ∧ LiesE w a (Z.map (·.1)) := by
  rcases h.1.2 with ⟨rfl, hn⟩ | ⟨g, cap, cur, rfl, hb, hg, hnc, hcm, hcs, ht⟩
  · have : Z = [] := List.eq_nil_of_length_eq_zero hn
    subst this
    exact ⟨none, 0, rfl, Nat.le_refl _, .inl rfl⟩
  · refine ⟨_, cap, rfl, hnc, .inr ⟨_, rfl, fun j hj => ?_⟩⟩
    have hj' : j < Z.length := by simpa using hj
    have hk := h.2.2.2 _ (zOf_mem hj')
    have ez := enc_key hk
    have c : ∀ k, k < 3 → w.cell? ⟨g, j * 3 + k, none⟩ = (enc (zOf Z j))[k]? := fun k hk => by
      rw [h.1.cellAt (j * 3 + k) (by omega), cellsOf_at Z j k hj' hk]
    have c0 := c 0 (by omega)
    have c1 := c 1 (by omega)
    have c2 := c 2 (by omega)
    rw [ez] at c0 c1 c2
    rw [zOf_map hj', Go.WideShapes.add_plain, Nat.zero_add]
    obtain ⟨ka, kc, e, hkk⟩ := key_lies hk
    refine ⟨c0, c1, ka, kc, ?_, hkk⟩
    rw [← e]
    exact c2

theorem Ents.liesN {B n : Nat} {v : Value} {Z : List ((ByteArray × Int × List ByteArray) × Value)} {W0 w : World} (h : Ents B v Z W0 w) (hn : n = Z.length) : ∃ a cap, v = .slice a n cap ∧ n ≤ cap ∧ LiesE w a (Z.map (·.1)) := by
  subst hn; exact h.lies

set_option maxHeartbeats 4000000 in
set_option maxRecDepth 100000 in
theorem sameE_any (p p' : ByteArray) (sz sz' : Int) (ka ka' : Option Addr) (kn kn' kc kc' : Nat) (ks ks' : List ByteArray) (w : World) (hkn : kn = ks.length) (hk : Lies w ka ks) (hkn' : kn' = ks'.length) (hk' : Lies w ka' ks') (hm : kn ≤ 1000000) (hm' : kn' ≤ 1000000) :
    Calls Tryd.prog 8 #[.agg #[.string p, .int .i64 sz, .slice ka kn kc], .agg #[.string p', .int .i64 sz', .slice ka' kn' kc']] w fun e w' => e = .returned (.bool (decide (p = p' ∧ sz = sz' ∧ ks = ks'))) ∧ Below w.heap.size w w' := by
  have hs : Hid (∀ W, Below w.heap.size w W → Calls Tryd.prog 18 #[.slice ka kn kc, .slice ka' kn' kc'] W fun e w' => e = .returned (.bool (decide (ks = ks'))) ∧ Below W.heap.size W w') := fun W hb => Chunk.same_any ka ks kn kc ka' ks' kn' kc' W hkn (hk.below hb (Nat.le_refl _)) hkn' (hk'.below hb (Nat.le_refl _)) (by omega) (by omega)
  clear hkn hk hkn' hk'
  by_cases hp : p = p'
  · subst hp
    by_cases hz : sz = sz'
    · subst hz
      have e : decide (p = p ∧ sz = sz ∧ ks = ks') = decide (ks = ks') := decide_eq_decide.2 ⟨fun h => h.2.2, fun h => ⟨rfl, rfl, h⟩⟩
      rw [e]
      generalize decide (ks = ks') = r at hs
      clear e
      go_enter Tryd.func8, Tryd.ntmps8
      go_wp2_with (go_at_call 18; refine (hs.out _ (((Below.refl _ _).alloc (Nat.le_refl _) _).alloc (by simp) _)).mono ?_; rintro e w1 ⟨rfl, hb1⟩)
      all_goals
        go_ret
        exact ⟨by simp_all, (((Below.refl w.heap.size w).alloc (Nat.le_refl _) _).alloc (by simp) _).trans (hb1.mono (by simp; omega))⟩
    · have e : decide (p = p ∧ sz = sz' ∧ ks = ks') = false := decide_eq_false (fun h => hz h.2.1)
      rw [e]
      have hd : (sz == sz') = false := by simp [hz]
      clear e hz
      go_enter Tryd.func8, Tryd.ntmps8
      go_wp2
      go_ret
      exact ⟨rfl, ((Below.refl w.heap.size w).alloc (Nat.le_refl _) _).alloc (by simp) _⟩
  · have e : decide (p = p' ∧ sz = sz' ∧ ks = ks') = false := decide_eq_false (fun h => hp h.1)
    rw [e]
    have hd := ne_text hp
    clear e hp
    go_enter Tryd.func8, Tryd.ntmps8
    go_wp2
    go_ret
    exact ⟨rfl, ((Below.refl w.heap.size w).alloc (Nat.le_refl _) _).alloc (by simp) _⟩
end Go.Proofs.YtcjkficpiedpfabDoor.Tree
