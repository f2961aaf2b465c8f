/-
  Begin, commit, abort: what they tell, and what they leave behind.
-/
import Derived.Test.YtlpgdfdadkljfaaCtNext
import Derived.Test.YtlpgdfdadkljfaaMgF
import Derived.Deep.RegionLaw
namespace Go.Proofs.Ytlpgdfdadkljfaa.Cat
open Go.RowKit Route Tree

/-- 'append' at a step of a region that draws, its run being known. -/
theorem step_run {ops : Array Oper} {o : Oper} {a : Act} {K : Act → World → Prop} {Q : Exit → Act → World → Prop} {E : Prop} {w w' : World} (hgd : o.guard = none) (s x : Operand) (t : TypeId)
    (ho : o.op = .call { callee := .builtin .append, args := #[s, x], argTypes := #[t, t] }) (vs vx v' : Value) (hs : a.eval s = vs) (hx : a.eval x = vx)
    (hrun : (Builtin.append_ #[t, t] o.type #[vs, vx]).run Try.prog w = .ok v' w') (h : K (a.put o.dst v') w') :
    if Region.wanted o (yielded ops a.tmps) = true then o.wp Try.prog a w K Q else E := by
  have hw : Region.wanted o (yielded ops a.tmps) = true := by simp [Region.wanted, hgd]
  rw [if_pos hw]
  unfold Oper.wp execOp
  simp only [ho, resolve, invoke, builtin, Sem.run_bind, Sem.run_pure, Result.andThen_ok, List.map_toArray, List.map_cons, List.map_nil, hs, hx, hrun]
  exact h

theorem placeI_none {c : Int} {nm : ByteArray} {S : List Snap} (h : place c nm S = none) : placeI c nm S = -1 := by unfold placeI; rw [h]
theorem placeI_some {c : Int} {nm : ByteArray} {S : List Snap} {i : Nat} (h : place c nm S = some i) : placeI c nm S = (i : Int) := by unfold placeI; rw [h]

/-- What 'begin' has done, in memory. -/
theorem begin_done {B p : Nat} {v : Value} {Z : List SZ} {w w4 w5 : World} {c : Int} {nm : ByteArray} {v5 : Value} (h : Cat B p v Z w) (hb : Below w.heap.size w w4)
    (h5 : SRow B v5 (Z ++ [(c, nm, false, .slice none 0 0, [])]) w5) (hg : (w4.alloc (.cells #[.int .i64 c, .string nm, .bool false, .slice none 0 0] 52)).grownBy w5 v.ownBlock) (hat : v5.ownBlock = v.ownBlock ∨ v5.ownBlock = some (w4.heap.size + 1)) :
    Next B p v Z w v5 (Z ++ [(c, nm, false, .slice none 0 0, [])]) (w5.setCell ⟨p, 0, none⟩ v5) ∧ w5.heap[p]? = w.heap[p]? := by
  have hp := (h.owns (.inl rfl : Owns p v Z p)).2
  have hbp : Below w.heap.size w (w4.alloc (.cells #[.int .i64 c, .string nm, .bool false, .slice none 0 0] 52)) := hb.alloc hb.size _
  have hvp : v.ownBlock ≠ some p := fun e => by
    rcases h.row.2 with ⟨rfl, _⟩ | ⟨g, cap, cur, rfl, _, hgg, _⟩
    · simp [Value.ownBlock] at e
    · simp [Value.ownBlock] at e
      subst e
      rw [h.box] at hgg
      simp at hgg
  have hwp : w5.heap[p]? = w.heap[p]? := (hg.block p (Nat.lt_of_lt_of_le hp hbp.size) fun e => hvp e.symm).trans (hbp.block p hp)
  obtain ⟨s1, s2, s3, s4, s5⟩ := heap_setCell (w := w5) (r := p) (i := 0) (x := v5)
  have hbox : (w5.setCell ⟨p, 0, none⟩ v5).heap[p]? = some (.cells #[v5] 60 (0, 0)) := by
    have := heap_setCell_same w5 p 0 _ 60 v5 (hwp.trans h.box)
    simpa using this
  have hne : ∀ {e : TypeId} {s n : Nat} {u : Value} {us : List Value}, w5.ownsRow B e s u n us → e ≠ 60 → (w5.setCell ⟨p, 0, none⟩ v5).ownsRow B e s u n us := fun {e s n u us} h1 hte => by
    refine own_keep h1 fun g hg => s1 g fun e1 => ?_
    subst e1
    rcases h1.2 with ⟨rfl, _⟩ | ⟨g', cap, cur, rfl, _, hgg, _⟩
    · simp [Value.ownBlock] at hg
    · simp [Value.ownBlock] at hg
      subst hg
      rw [hwp, h.box] at hgg
      simp at hgg
      exact hte hgg.2.symm
  have hsz : w.heap.size ≤ w5.heap.size := Nat.le_trans hbp.size hg.size
  refine ⟨⟨⟨hbox, h.low, hne h5.own (by decide), fun z hz => ⟨hne (h5.ents z hz).1 (by decide), fun y hy => hne ((h5.ents z hz).2 y hy) (by decide)⟩, h5.apart⟩, ⟨?_, ?_, ?_, by rw [s2]; exact hsz, fun k hk hn => ?_⟩, fun k hk => ?_, fun k hk => ?_⟩, hwp⟩
  · exact s3.trans (hg.os.trans hbp.os)
  · exact s4.trans (hg.tape.trans hbp.tape)
  · exact s5.trans (hg.output.trans hbp.output)
  · rw [s1 k fun e => hn (.inl e)]
    exact (hg.block k (Nat.lt_of_lt_of_le hk hbp.size) fun e => hn (.inr (.inl e.symm))).trans (hbp.block k hk)
  · rcases hk with rfl | hk | ⟨z, hz, hk⟩
    · exact .inl (.inl rfl)
    · rcases hat with e | e
      · exact .inl (.inr (.inl (by rw [← e]; exact hk)))
      · rw [e] at hk; simp at hk; have := hb.size; exact .inr (by omega)
    · rcases List.mem_append.1 hz with hz | hz
      · exact .inl (.inr (.inr ⟨z, hz, hk⟩))
      · rw [List.mem_singleton.1 hz] at hk; simp [Value.ownBlock] at hk
  · obtain ⟨z, hz, y, hy, hk⟩ := hk
    rcases List.mem_append.1 hz with hz | hz
    · exact .inl ⟨z, hz, y, hy, hk⟩
    · rw [List.mem_singleton.1 hz] at hy; simp at hy
end Go.Proofs.Ytlpgdfdadkljfaa.Cat
