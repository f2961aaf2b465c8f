/-
  What CatalogPlans stands on: its operations in plain mathematics, and a list of texts beside a catalog.
-/
import Derived.Test.YtejhnobhpjlkaaaCtAborts
import Derived.Test.YtejhnobhpjlkaaaCtLw2
import Derived.Test.YtejhnobhpjlkaaaCtFew
import Derived.Test.YtejhnobhpjlkaaaCtHas
import Derived.Test.YtejhnobhpjlkaaaCtTold
namespace Go.Proofs.Ytejhnobhpjlkaaa.Cat
open Go.RowKit Route Tree Order

/-- What was added so far: the entries, and the paths told as added. -/
def PI (E : List Ent) (I ks : List ByteArray) : Prop := E.length = I.length ∧ ∀ e ∈ E, e.1 ∈ I ∧ e.2 = ((keysSize ks : Int), ks)

theorem pi_put {E : List Ent} {I ks : List ByteArray} {pt : ByteArray} (h : PI E I ks) : PI (putE E (pt, (keysSize ks : Int), ks)) (I ++ [pt]) ks := by
  refine ⟨?_, fun e he => ?_⟩
  · have := h.1
    have := spot_le E pt
    unfold putE
    simp
    omega
  · unfold putE at he
    rcases List.mem_append.1 he with he | he
    · have := h.2 e (List.mem_of_mem_take he)
      exact ⟨List.mem_append_left _ this.1, this.2⟩
    · rcases List.mem_cons.1 he with rfl | he
      · exact ⟨by simp, rfl⟩
      · have := h.2 e (List.mem_of_mem_drop he)
        exact ⟨List.mem_append_left _ this.1, this.2⟩

section
variable {client : Int} {nm pt : ByteArray} {ks : List ByteArray} {E : List Ent}

theorem found_one {d d' : Bool} : found client nm d [(client, nm, d', E)] = if d' = d then (0, 0) else (0, 6) := found_at (A := []) (B := []) (by simp [isOne]) (fun a ha => by cases ha)

theorem plan_add {I : List ByteArray} (h : PI E I ks) : ((full [(client, nm, false, E)] ⟨client, 1, 2, 0, nm, pt, ks⟩).1.code = 0 ∧ ∃ E', (full [(client, nm, false, E)] ⟨client, 1, 2, 0, nm, pt, ks⟩).2 = [(client, nm, false, E')] ∧ PI E' (I ++ [pt]) ks) ∨ ((full [(client, nm, false, E)] ⟨client, 1, 2, 0, nm, pt, ks⟩).1.code ≠ 0 ∧ (full [(client, nm, false, E)] ⟨client, 1, 2, 0, nm, pt, ks⟩).2 = [(client, nm, false, E)]) := by
  rw [full_else (.inl (by show (2 : Int) ≠ 9; decide))]
  cases hm : may ⟨client, 1, 2, 0, nm, pt, ks⟩ with
  | false =>
    have e : step [(client, nm, false, E)] ⟨client, 1, 2, 0, nm, pt, ks⟩ = (no 1, [(client, nm, false, E)]) := by simp [step, hm]
    rw [e]
    exact .inr ⟨by simp [no], rfl⟩
  | true =>
    have e : step [(client, nm, false, E)] ⟨client, 1, 2, 0, nm, pt, ks⟩ = if fault E pt (keysSize ks) ≠ 0 then (no (fault E pt (keysSize ks)), [(client, nm, false, E)]) else (no 0, [(client, nm, false, putE E (pt, (keysSize ks : Int), ks))]) := by
      simp [step, hm, found_one, snapAt]
    rw [e]
    by_cases h0 : fault E pt (keysSize ks) ≠ 0
    · rw [if_pos h0]; exact .inr ⟨h0, rfl⟩
    · rw [if_neg h0]; exact .inl ⟨rfl, _, rfl, pi_put h⟩

theorem plan_commit (hm : may ⟨client, 1, 1, 0, nm, ⟨#[]⟩, []⟩ = true) : full [(client, nm, false, E)] ⟨client, 1, 3, 0, nm, ⟨#[]⟩, []⟩ = (no 0, [(client, nm, true, E)]) := by
  have hm3 : may ⟨client, 1, 3, 0, nm, ⟨#[]⟩, []⟩ = true := by simpa [may, mayOp] using hm
  rw [full_else (.inl (by show (3 : Int) ≠ 9; decide))]
  simp [step, hm3, found_one, snapAt]

theorem plan_plan (hm : may ⟨client, 1, 1, 0, nm, ⟨#[]⟩, []⟩ = true) : full [(client, nm, true, E)] ⟨client, 1, 7, 0, nm, ⟨#[]⟩, []⟩ = (⟨0, 0, [], [], E⟩, [(client, nm, true, E)]) := by
  have hm7 : may ⟨client, 1, 7, 0, nm, ⟨#[]⟩, []⟩ = true := by simpa [may, mayOp] using hm
  rw [full_else (.inl (by show (7 : Int) ≠ 9; decide))]
  simp [step, hm7, found_one, snapAt]

theorem plan_look (hm : may ⟨client, 1, 1, 0, nm, ⟨#[]⟩, []⟩ = true) (hI : isTree E) {j : Nat} (hj : j < E.length) : full [(client, nm, true, E)] ⟨client, 1, 6, 0, nm, (entOf E j).1, []⟩ = (⟨0, (entOf E j).2.1, [], (entOf E j).2.2, []⟩, [(client, nm, true, E)]) := by
  have hpath : isPath (entOf E j).1 = true := ((treeL_iff.1 hI).2.1 _ (by simp [entOf, List.getD_eq_getElem?_getD, hj])).1
  have hm6 : may ⟨client, 1, 6, 0, nm, (entOf E j).1, []⟩ = true := by
    simp only [may, mayOp, Bool.and_eq_true] at hm ⊢
    simp at hm ⊢
    simp_all
  have hf : E.find? (fun e => decide (e.1 = (entOf E j).1)) = some (entOf E j) := find_at hI hj rfl
  rw [full_else (.inl (by show (6 : Int) ≠ 9; decide))]
  simp [step, hm6, found_one, snapAt, hf]

theorem plan_prune (hm : may ⟨client, 1, 1, 0, nm, ⟨#[]⟩, []⟩ = true) : full [(client, nm, true, E)] ⟨client, 1, 8, 0, ⟨#[]⟩, ⟨#[]⟩, []⟩ = (⟨0, 1, [], [], []⟩, []) := by
  have hm8 : may ⟨client, 1, 8, 0, ⟨#[]⟩, ⟨#[]⟩, []⟩ = true := by
    simp only [may, mayOp, Bool.and_eq_true] at hm ⊢
    simp [noText, noKeys, within] at hm ⊢
    exact ⟨hm.1, rfl⟩
  rw [full_else (.inl (by show (8 : Int) ≠ 9; decide))]
  simp [step, hm8, names, kept, pruned]

theorem plan_gone (hm : may ⟨client, 1, 1, 0, nm, ⟨#[]⟩, []⟩ = true) : full [] ⟨client, 1, 7, 0, nm, ⟨#[]⟩, []⟩ = (no 3, []) := by
  have hm7 : may ⟨client, 1, 7, 0, nm, ⟨#[]⟩, []⟩ = true := by simpa [may, mayOp] using hm
  rw [full_else (.inl (by show (7 : Int) ≠ 9; decide))]
  have hf : found client nm true [] = (0, 3) := rfl
  simp [step, hm7, hf]
end

theorem Cat.kb {B p k : Nat} {v : Value} {Z : List SZ} {w : World} (h : Cat B p v Z w) (hk : KB Z k) : k < w.heap.size := by
  obtain ⟨z, hz, y, hy, hk⟩ := hk
  exact (((h.ents z hz).2 y hy).lt k hk).2

/-- A row of texts that no chunks lie in grows beside a catalog. -/
theorem Cat.grown {B p : Nat} {v : Value} {Z : List SZ} {w w' : World} {row : Option Nat} (h : Cat B p v Z w) (hg : w.grownBy w' row) (h1 : ∀ k, row = some k → ∃ c, w.heap[k]? = some (.cells c 9 (0, 0))) (h2 : ∀ k, row = some k → ¬ KB Z k) : Cat B p v Z w' := by
  have hown : ∀ {e s n : Nat} {u : Value} {us : List Value}, w.ownsRow B e s u n us → e ≠ 9 → w'.ownsRow B e s u n us := fun {e s n u us} ho he => own_keep ho fun g hgg => hg.block g (ho.lt g hgg).2 fun e1 => by
    obtain ⟨c, hc⟩ := h1 g e1.symm
    obtain ⟨c2, hc2⟩ := own_block ho hgg
    rw [hc] at hc2
    simp at hc2
    exact he hc2.2.symm
  refine ⟨?_, h.low, hown h.row (by decide), fun z hz => ⟨hown (h.ents z hz).1 (by decide), fun y hy => own_keep ((h.ents z hz).2 y hy) fun g hgg => hg.block g (((h.ents z hz).2 y hy).lt g hgg).2 fun e1 => h2 g e1.symm ⟨z, hz, y, hy, hgg⟩⟩, h.apart⟩
  rw [hg.block p (Array.getElem?_eq_some_iff.1 h.box).1 fun e1 => by
    obtain ⟨c, hc⟩ := h1 p e1.symm
    rw [h.box] at hc
    simp at hc]
  exact h.box

/-- A list of texts of a law's own beside a catalog. -/
structure InR (p : Nat) (v : Value) (I : List ByteArray) (Z : List SZ) (w : World) : Prop where
  own : w.ownsRow p 9 1 v I.length (sv I)
  far : ∀ k, v.ownBlock = some k → ¬ KB Z k

theorem InR.below {p : Nat} {v : Value} {I : List ByteArray} {Z : List SZ} {w w' : World} (h : InR p v I Z w) (hb : Below w.heap.size w w') : InR p v I Z w' := ⟨own30_later h.own hb, h.far⟩
theorem InR.did {B p : Nat} {v vc vc' : Value} {I : List ByteArray} {Z Z' : List SZ} {w w' : World} {r : Rq} {y : An} (h : InR p v I Z w) (hc : Cat B p vc Z w) (hD : Did B p vc Z r w y vc' Z' w') : InR p v I Z' w' :=
  ⟨hD.next.keep hc h.own (by decide) (by decide) (by decide), fun k hk hK => by
    rcases hD.next.keys k hK with h1 | h1
    · exact h.far k hk h1
    · have := (h.own.lt k hk).2
      omega⟩

/-- One more text behind it: the catalog stays. -/
theorem InR.grow {w0 w w' : World} {p : Nat} {v v' vc : Value} {I : List ByteArray} {d : ByteArray} {Z : List SZ} (h : InR p v I Z w) (hL : Lw w0 p p vc Z w) (ho : w'.ownsRow p 9 1 v' (I ++ [d]).length (sv (I ++ [d]))) (hg : (w.alloc (.cells #[.string d] 9)).grownBy w' v.ownBlock) (hat : v'.ownBlock = v.ownBlock ∨ v'.ownBlock = some (w.heap.size + 1)) :
    InR p v' (I ++ [d]) Z w' ∧ Lw w0 p p vc Z w' := by
  have hba : Below w.heap.size w (w.alloc (.cells #[.string d] 9)) := (Below.refl _ _).alloc (Nat.le_refl _) _
  have hLa := hL.below hba
  have ha := h.below hba
  have hrow : ∀ k, v.ownBlock = some k → ∃ c, (w.alloc (.cells #[.string d] 9)).heap[k]? = some (.cells c 9 (0, 0)) := fun k hk => own_block ha.own hk
  have hlow : w0.heap.size ≤ p := hL.low
  refine ⟨⟨ho, fun k hk hK => ?_⟩, ⟨hLa.cat.grown hg hrow ha.far, hLa.inv, ⟨hg.os.trans hLa.bel.os, hg.tape.trans hLa.bel.tape, hg.output.trans hLa.bel.output, Nat.le_trans hLa.bel.size hg.size, fun k hk => ?_⟩, hL.low, Nat.le_trans hLa.fit hg.size⟩⟩
  · rcases hat with e | e
    · exact h.far k (by rw [← e]; exact hk) hK
    · rw [e] at hk
      have := hL.cat.kb hK
      simp at hk
      omega
  · refine (hg.block k (Nat.lt_of_lt_of_le hk hLa.bel.size) fun e => ?_).trans (hLa.bel.block k hk)
    have := (h.own.lt k e.symm).1
    omega

theorem wpList_in {ops : Array Oper} {rest : List Oper} {o : Oper} {a : Act} {Q : Exit → Act → World → Prop} (hgd : o.guard = none) (s x : Operand)
    (ho : o.op = .call { callee := .builtin .append, args := #[s, x], argTypes := #[27, 27] })
    (B : Nat) (v : Value) (l : List ByteArray) (hs : a.eval s = v) (w0 : World) (d : ByteArray) (hb : w0.ownsRow B 9 1 v l.length (sv l)) (hB : B ≤ w0.heap.size)
    (bk : Nat) (hbk : bk = w0.heap.size) (hx : a.eval x = .slice (some ⟨bk, 0, none⟩) 1 1) (hlen : l.length + 1 ≤ 1000000000000)
    (h : ∀ v' w', Hid (w'.ownsRow B 9 1 v' (l ++ [d]).length (sv (l ++ [d]))) → Hid ((w0.alloc (.cells #[.string d] 9)).grownBy w' v.ownBlock) → Hid (v'.ownBlock = v.ownBlock ∨ v'.ownBlock = some (w0.heap.size + 1)) → wpList Try.prog ops Q rest (a.put o.dst v') w') : wpList Try.prog ops Q (o :: rest) a (w0.alloc (.cells #[.string d] 9)) := by
  subst hbk
  obtain ⟨i0, hi, hz0, hz1, hz2⟩ := info_parts info9
  have hal : Below w0.heap.size w0 (w0.alloc (.cells #[.string d] 9)) := (Below.refl _ _).alloc (Nat.le_refl _) _
  refine wpList_append_own_at _ hgd s x 27 ho B 9 i0 (.string ByteArray.empty) 1 16 Try.underlying27 hi hz0 hz1 hz2 rfl (by decide) v l.length (sv l) hs (own30_later hb hal) ⟨w0.heap.size, 0, none⟩ 1 1 [.string d] hx rfl ?_ ?_ (by unfold maxLen; omega) (by omega) (Nat.le_trans hB hal.size) ?_
  · intro j u hj
    match j, hj with
    | 0, hj => simp at hj; subst hj; simp [Addr.add]
    | (j + 1), hj => simp at hj
  · intro u hu; simp at hu; subst hu; rfl
  · intro v' w' ho' hg _ hat
    have hat2 : v'.ownBlock = v.ownBlock ∨ v'.ownBlock = some (w0.heap.size + 1) := by simpa using hat
    refine h v' w' ?_ hg hat2
    have e : sv (l ++ [d]) = sv l ++ [.string d] := by simp [sv]
    show World.ownsRow _ _ _ _ _ _ _
    rw [e]
    simpa using ho'
end Go.Proofs.Ytejhnobhpjlkaaa.Cat
