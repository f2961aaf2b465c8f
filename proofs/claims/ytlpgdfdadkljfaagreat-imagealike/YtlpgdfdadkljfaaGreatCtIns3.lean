/-
  A snapshot's entries anew, in memory: what the catalog has then.
-/
import Derived.Test.YtlpgdfdadkljfaaGreatCtOps3
import Derived.Test.YtlpgdfdadkljfaaGreatCtIns2
namespace Go.Proofs.YtlpgdfdadkljfaaGreat.Cat
open Go.RowKit Route Tree

theorem own_block {w : World} {B e s n g : Nat} {v : Value} {us : List Value} (h : w.ownsRow B e s v n us) (hg : v.ownBlock = some g) : ∃ cur, w.heap[g]? = some (.cells cur e (0, 0)) := by
  rcases h.2 with ⟨rfl, _⟩ | ⟨g', cap', cur, rfl, _, hgg, _⟩
  · simp [Value.ownBlock] at hg
  · simp [Value.ownBlock] at hg
    subst hg
    exact ⟨cur, hgg⟩

theorem next_ins {B p g cap i : Nat} {Z : List SZ} {w w6 w7 : World} {v7 : Value} {Y7 : List (Ent × Value)} (h : Cat B p (.slice (some ⟨g, 0, none⟩) Z.length cap) Z w) (hi : i < Z.length) (hb : Below w.heap.size w w6) (hown : w7.ownsRow B 84 3 v7 Y7.length (cellsOf Y7)) (hk : ∀ y ∈ Y7, KeyRow B w7 y)
    (hg : w6.grownBy w7 (szAt Z i).2.2.2.1.ownBlock) (hat : ∀ k, v7.ownBlock = some k → (szAt Z i).2.2.2.1.ownBlock = some k ∨ w.heap.size ≤ k) (hkb : ∀ y ∈ Y7, ∀ k, y.2.ownBlock = some k → (∃ y0 ∈ (szAt Z i).2.2.2.2, y0.2.ownBlock = some k) ∨ w.heap.size ≤ k) :
    Next B p (.slice (some ⟨g, 0, none⟩) Z.length cap) Z w (.slice (some ⟨g, 0, none⟩) Z.length cap) (Z.set i ((szAt Z i).1, (szAt Z i).2.1, (szAt Z i).2.2.1, v7, Y7)) (w7.setCell ⟨g, i * 4 + 3, none⟩ v7) ∧ w7.heap[g]? = w.heap[g]? := by
  have hzi : szAt Z i = Z[i] := sz_at hi
  have hei := h.ents _ (sz_mem hi)
  obtain ⟨cur, hgc⟩ := own_block h.row (rfl : (Value.slice (some ⟨g, 0, none⟩) Z.length cap).ownBlock = some g)
  have hgl : g < w.heap.size := (Array.getElem?_eq_some_iff.1 hgc).1
  -- blocks that are not the old entries' stay
  have hst : ∀ k, k < w.heap.size → (szAt Z i).2.2.2.1.ownBlock ≠ some k → w7.heap[k]? = w.heap[k]? := fun k hk hne => (hg.block k (Nat.lt_of_lt_of_le hk hb.size) fun e => hne e.symm).trans (hb.block k hk)
  have htype : ∀ {k : Nat} {c : Array Value} {T : TypeId} {f : Nat × Nat}, w.heap[k]? = some (.cells c T f) → T ≠ 84 → (szAt Z i).2.2.2.1.ownBlock ≠ some k := fun {k c T f} hkk hT e => by
    obtain ⟨c', hc'⟩ := own_block hei.1 e
    rw [hkk] at hc'
    simp at hc'
    exact hT hc'.2.1
  have hrow7 : ∀ {e s n : Nat} {v : Value} {us : List Value}, w.ownsRow B e s v n us → (∀ k, v.ownBlock = some k → (szAt Z i).2.2.2.1.ownBlock ≠ some k) → w7.ownsRow B e s v n us := fun {e s n v us} h1 hne => own_keep h1 fun k hk => hst k (h1.lt k hk).2 (hne k hk)
  have hg7 : w7.heap[g]? = w.heap[g]? := hst g hgl (htype hgc (by decide))
  obtain ⟨s1, s2, s3, s4, s5⟩ := heap_setCell (w := w7) (r := g) (i := i * 4 + 3) (x := v7)
  have hset : ∀ {e s n : Nat} {v : Value} {us : List Value}, w7.ownsRow B e s v n us → e ≠ 71 → (w7.setCell ⟨g, i * 4 + 3, none⟩ v7).ownsRow B e s v n us := fun {e s n v us} h1 hte => by
    refine own_keep h1 fun k hk => s1 k fun e1 => ?_
    subst e1
    obtain ⟨c', hc'⟩ := own_block h1 hk
    rw [hg7, hgc] at hc'
    simp at hc'
    exact hte hc'.2.symm
  have hap : ∀ j (hj : j < Z.length), j ≠ i → ∀ k, Z[j].2.2.2.1.ownBlock = some k → (szAt Z i).2.2.2.1.ownBlock ≠ some k := fun j hj hne k hk e => by
    rw [hzi] at e
    rcases Nat.lt_or_gt_of_ne hne with h1 | h1
    · rcases List.pairwise_iff_getElem.1 h.apart j i hj hi h1 with h2 | h2
      · rw [h2] at hk; cases hk
      · exact h2 (hk.trans e.symm)
    · rcases List.pairwise_iff_getElem.1 h.apart i j hi hj h1 with h2 | h2
      · rw [h2] at e; cases e
      · exact h2 (e.trans hk.symm)
  have hkeys : ∀ {z : SZ}, ERow B w z → ∀ y ∈ z.2.2.2.2, KeyRow B w7 y := fun {z} hz y hy => hrow7 (hz.2 y hy) fun k hk => by
    obtain ⟨c', hc'⟩ := own_block (hz.2 y hy) hk
    exact htype hc' (by decide)
  have hpg : p ≠ g := fun e => by
    have := h.box
    rw [e, hgc] at this
    simp at this
  have hp7 : w7.heap[p]? = w.heap[p]? := hst p (Array.getElem?_eq_some_iff.1 h.box).1 (htype h.box (by decide))
  have hfix := fix_own hown
  have hr7 : w7.ownsRow B 71 4 (.slice (some ⟨g, 0, none⟩) Z.length cap) Z.length (scells Z) := own_keep h.row fun k hk => by
    simp [Value.ownBlock] at hk; subst hk; exact hg7
  have hall : ∀ z ∈ Z.set i ((szAt Z i).1, (szAt Z i).2.1, (szAt Z i).2.2.1, v7, Y7), z = ((szAt Z i).1, (szAt Z i).2.1, (szAt Z i).2.2.1, v7, Y7) ∨ ∃ j, ∃ hj : j < Z.length, j ≠ i ∧ z = Z[j] := fun z hz => by
    obtain ⟨j, hj, rfl⟩ := List.mem_iff_getElem.1 hz
    have hj' : j < Z.length := by simpa using hj
    by_cases e : i = j
    · subst e; left; simp
    · right; exact ⟨j, hj', fun h => e h.symm, by simp [e]⟩
  refine ⟨⟨⟨by rw [s1 p hpg, hp7]; exact h.box, h.low, ?_, fun z hz => ?_, ?_⟩, ⟨s3.trans (hg.os.trans hb.os), s4.trans (hg.tape.trans hb.tape), s5.trans (hg.output.trans hb.output), by rw [s2]; exact Nat.le_trans hb.size hg.size, fun k hk hn => ?_⟩, fun k hk => ?_, fun k ⟨z, hz, y, hy, hk⟩ => ?_⟩, hg7⟩
  · rw [List.length_set, scells_set Z i 3 _ v7 hi (by decide) (by simp [encS, hfix])]
    exact (hr7.stored (i * 4 + 3) v7).1
  · rcases hall z hz with rfl | ⟨j, hj, hji, rfl⟩
    · exact ⟨hset hown (by decide), fun y hy => hset (hk y hy) (by decide)⟩
    · have hz := h.ents _ (List.getElem_mem hj)
      exact ⟨hset (hrow7 hz.1 (hap j hj hji)) (by decide), fun y hy => hset (hkeys hz y hy) (by decide)⟩
  · refine List.pairwise_iff_getElem.2 fun x y hx hy hxy => ?_
    have hx' : x < Z.length := by simpa using hx
    have hy' : y < Z.length := by simpa using hy
    have hxy' := List.pairwise_iff_getElem.1 h.apart x y hx' hy' hxy
    simp only [List.getElem_set]
    have hnew : ∀ j (hj : j < Z.length), j ≠ i → ∀ k, v7.ownBlock = some k → Z[j].2.2.2.1.ownBlock = some k → False := fun j hj hji k h1 h2 => by
      rcases hat k h1 with h3 | h3
      · exact hap j hj hji k h2 h3
      · have := ((h.ents _ (List.getElem_mem hj)).1.lt k h2).2
        omega
    by_cases hx2 : i = x
    · subst hx2
      rw [if_pos rfl, if_neg (by omega)]
      cases hv : v7.ownBlock with
      | none => exact .inl rfl
      | some k => exact .inr fun e => hnew y hy' (by omega) k hv e.symm
    · rw [if_neg hx2]
      by_cases hy2 : i = y
      · subst hy2
        rw [if_pos rfl]
        cases hv : Z[x].2.2.2.1.ownBlock with
        | none => exact .inl rfl
        | some k => exact .inr fun e => hnew x hx' (by omega) k e.symm hv
      · rw [if_neg hy2]; exact hxy'
  · rw [s1 k fun e => hn (.inr (.inl (by rw [e]; rfl)))]
    exact hst k hk fun e => hn (.inr (.inr ⟨_, sz_mem hi, e⟩))
  · rcases hk with rfl | hk | ⟨z, hz, hk⟩
    · exact .inl (.inl rfl)
    · exact .inl (.inr (.inl hk))
    · rcases hall z hz with rfl | ⟨j, hj, hji, rfl⟩
      · rcases hat k hk with h1 | h1
        · exact .inl (.inr (.inr ⟨_, sz_mem hi, h1⟩))
        · exact .inr h1
      · exact .inl (.inr (.inr ⟨_, List.getElem_mem hj, hk⟩))
  · rcases hall z hz with rfl | ⟨j, hj, hji, rfl⟩
    · rcases hkb y hy k hk with ⟨y0, hy0, h1⟩ | h1
      · exact .inl ⟨_, sz_mem hi, y0, hy0, h1⟩
      · exact .inr h1
    · exact .inl ⟨_, List.getElem_mem hj, y, hy, hk⟩
end Go.Proofs.YtlpgdfdadkljfaaGreat.Cat
