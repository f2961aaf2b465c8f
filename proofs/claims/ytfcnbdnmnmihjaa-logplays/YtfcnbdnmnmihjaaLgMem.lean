/-
  Rows of slices of bytes in memory, a log's box, and what a call may turn.
-/
import Derived.Test.YtfcnbdnmnmihjaaTpMore
import Derived.Test.YtfcnbdnmnmihjaaLgMath
namespace Go.Proofs.Ytfcnbdnmnmihjaa
open Go.RowKit

theorem info31 : (Try.prog.info? 31).map (fun i => (i.zero, i.size, i.bytes)) = some (some (.slice none 0 0), 1, 24) := by kernel_rfl

theorem addr_add_block (a : Addr) (n : Nat) : (a.add n).block = a.block := by unfold Addr.add; split <;> rfl

/-- Bytes that a slice has, in a block of L (where there are any). -/
def Slc (L : Nat → Prop) (w : World) (u : Value) (r : List UInt8) : Prop :=
  ∃ a k cap, u = .slice a k cap ∧ Hid (k = r.length) ∧ k ≤ cap ∧ cap ≤ maxLen ∧ Lies w a r ∧ (a = none → k = 0 ∧ cap = 0) ∧ ∀ x, a = some x → r = [] ∨ L x.block

theorem Lies.keep {w w' : World} {a : Option Addr} {l : List UInt8} (h : Lies w a l) (hk : ∀ x, a = some x → l = [] ∨ w'.heap[x.block]? = w.heap[x.block]?) : Lies w' a l := by
  rcases h with h | ⟨x, rfl, h⟩
  · exact Or.inl h
  · rcases hk x rfl with h0 | h0
    · exact Or.inl h0
    · refine Or.inr ⟨x, rfl, fun j u hj => ?_⟩
      rw [World.cell?_of_block (w := w) (by rw [addr_add_block]; exact h0)]
      exact h j u hj

theorem Lies.lt {w : World} {x : Addr} {l : List UInt8} (h : Lies w (some x) l) : l = [] ∨ x.block < w.heap.size := by
  rcases h with h | ⟨y, hy, h⟩
  · exact .inl h
  · simp only [Option.some.injEq] at hy
    subst hy
    cases l with
    | nil => exact .inl rfl
    | cons d r =>
      have := World.block_lt_of_cell? w _ (h 0 _ rfl)
      rw [addr_add_block] at this
      exact .inr this

theorem Slc.keep {L : Nat → Prop} {w w' : World} {u : Value} {r : List UInt8} (h : Slc L w u r) (hk : ∀ k, L k → w'.heap[k]? = w.heap[k]?) : Slc L w' u r := by
  obtain ⟨a, k, cap, e, h1, h2, h3, hl, h4, h5⟩ := h
  exact ⟨a, k, cap, e, h1, h2, h3, hl.keep fun x hx => (h5 x hx).imp id fun h => hk _ h, h4, h5⟩
theorem Slc.mono {L L' : Nat → Prop} {w : World} {u : Value} {r : List UInt8} (h : Slc L w u r) (hk : ∀ k, L k → L' k) : Slc L' w u r := by
  obtain ⟨a, k, cap, e, h1, h2, h3, hl, h4, h5⟩ := h
  exact ⟨a, k, cap, e, h1, h2, h3, hl, h4, fun x hx => (h5 x hx).imp id fun h => hk _ h⟩
theorem Slc.bound {L : Nat → Prop} {w : World} {u : Value} {r : List UInt8} (h : Slc L w u r) : Slc (fun k => L k ∧ k < w.heap.size) w u r := by
  obtain ⟨a, k, cap, e, h1, h2, h3, hl, h4, h5⟩ := h
  refine ⟨a, k, cap, e, h1, h2, h3, hl, h4, fun x hx => ?_⟩
  subst hx
  rcases h5 x rfl with h0 | h0
  · exact .inl h0
  · exact hl.lt.imp id fun h => ⟨h0, h⟩
theorem Slc.below {L : Nat → Prop} {C : Nat} {w w' : World} {u : Value} {r : List UInt8} (h : Slc L w u r) (hb : Below C w w') (hC : w.heap.size ≤ C) : Slc L w' u r :=
  (h.bound.keep fun k hk => hb.block k (by omega)).mono fun _ hk => hk.1
theorem Slc.of_row {L : Nat → Prop} {B : Nat} {w : World} {v : Value} {l : List UInt8} (h : Row B w v l) (hL : ∀ g, v.ownBlock = some g → L g) : Slc L w v l := by
  obtain ⟨a, k, cap, rfl, h1, h2, h3, hl, h4, _⟩ := h.form
  exact ⟨a, k, cap, rfl, h1, h2, h3, hl, h4, fun x hx => .inr (hL _ (by subst hx; rfl))⟩

/-- At the address rows of bytes lie, all in blocks of L. -/
def SRows (L : Nat → Prop) (w : World) (a : Option Addr) (rs : List (List UInt8)) : Prop :=
  rs = [] ∨ ∃ x, a = some x ∧ L x.block ∧ ∀ j (hj : j < rs.length), ∃ u, w.cell? (x.add j) = some u ∧ Slc L w u rs[j]

theorem SRows.keep {L : Nat → Prop} {w w' : World} {a : Option Addr} {rs : List (List UInt8)} (h : SRows L w a rs) (hk : ∀ k, L k → w'.heap[k]? = w.heap[k]?) : SRows L w' a rs := by
  rcases h with h | ⟨x, rfl, hx, h⟩
  · exact .inl h
  · refine .inr ⟨x, rfl, hx, fun j hj => ?_⟩
    obtain ⟨u, h1, h2⟩ := h j hj
    exact ⟨u, by rw [World.cell?_of_block (w := w) (by rw [addr_add_block]; exact hk _ hx)]; exact h1, h2.keep hk⟩
theorem SRows.mono {L L' : Nat → Prop} {w : World} {a : Option Addr} {rs : List (List UInt8)} (h : SRows L w a rs) (hk : ∀ k, L k → L' k) : SRows L' w a rs := by
  rcases h with h | ⟨x, rfl, hx, h⟩
  · exact .inl h
  · refine .inr ⟨x, rfl, hk _ hx, fun j hj => ?_⟩
    obtain ⟨u, h1, h2⟩ := h j hj
    exact ⟨u, h1, h2.mono hk⟩
theorem SRows.bound {L : Nat → Prop} {w : World} {a : Option Addr} {rs : List (List UInt8)} (h : SRows L w a rs) : SRows (fun k => L k ∧ k < w.heap.size) w a rs := by
  rcases h with h | ⟨x, rfl, hx, h⟩
  · exact .inl h
  · by_cases h0 : rs = []
    · exact .inl h0
    · have hp : 0 < rs.length := by cases rs with | nil => exact absurd rfl h0 | cons _ _ => simp
      have hlt : x.block < w.heap.size := by
        obtain ⟨u, h1, _⟩ := h 0 hp
        have := World.block_lt_of_cell? w _ h1
        rwa [addr_add_block] at this
      refine .inr ⟨x, rfl, ⟨hx, hlt⟩, fun j hj => ?_⟩
      obtain ⟨u, h1, h2⟩ := h j hj
      exact ⟨u, h1, h2.bound⟩
theorem SRows.below {L : Nat → Prop} {C : Nat} {w w' : World} {a : Option Addr} {rs : List (List UInt8)} (h : SRows L w a rs) (hb : Below C w w') (hC : w.heap.size ≤ C) : SRows L w' a rs :=
  (h.bound.keep fun k hk => hb.block k (by omega)).mono fun _ hk => hk.1

/-- The slice v owns the row us of slices; what these have are the bytes rs; all of it in blocks of L. -/
def RwsU (L : Nat → Prop) (w : World) (v : Value) (us : List Value) (rs : List (List UInt8)) : Prop :=
  w.ownsRow 0 31 1 v rs.length us ∧ (∀ g, v.ownBlock = some g → L g) ∧ ∀ j (h : j < rs.length), ∃ u, us[j]? = some u ∧ Slc (fun k => L k ∧ v.ownBlock ≠ some k) w u rs[j]
def Rws (L : Nat → Prop) (w : World) (v : Value) (rs : List (List UInt8)) : Prop := ∃ us, RwsU L w v us rs

theorem Rws.nil (L : Nat → Prop) (w : World) : Rws L w (.slice none 0 0) [] := ⟨[], World.ownsRow_nil w 0 31 1, (fun g h => by simp [Value.ownBlock] at h), (fun j h => absurd h (by simp))⟩

theorem own_keep {B e s : Nat} {w w' : World} {v : Value} {n : Nat} {us : List Value} (h : w.ownsRow B e s v n us) (hk : ∀ g, v.ownBlock = some g → w'.heap[g]? = w.heap[g]?) : w'.ownsRow B e s v n us := by
  refine ⟨h.1, ?_⟩
  rcases h.2 with h0 | ⟨g, cap, cur, rfl, hb, hg, hr⟩
  · exact .inl h0
  · exact .inr ⟨g, cap, cur, rfl, hb, by rw [hk g rfl]; exact hg, hr⟩

theorem RwsU.keep {L : Nat → Prop} {w w' : World} {v : Value} {us : List Value} {rs : List (List UInt8)} (h : RwsU L w v us rs) (hk : ∀ k, L k → w'.heap[k]? = w.heap[k]?) : RwsU L w' v us rs := by
  obtain ⟨h1, h2, h3⟩ := h
  refine ⟨own_keep h1 fun g hg => hk g (h2 g hg), h2, fun j hj => ?_⟩
  obtain ⟨u, e, hs⟩ := h3 j hj
  exact ⟨u, e, hs.keep fun k hk' => hk k hk'.1⟩
theorem Rws.keep {L : Nat → Prop} {w w' : World} {v : Value} {rs : List (List UInt8)} (h : Rws L w v rs) (hk : ∀ k, L k → w'.heap[k]? = w.heap[k]?) : Rws L w' v rs := by
  obtain ⟨us, h⟩ := h; exact ⟨us, h.keep hk⟩
theorem Rws.mono {L L' : Nat → Prop} {w : World} {v : Value} {rs : List (List UInt8)} (h : Rws L w v rs) (hk : ∀ k, L k → L' k) : Rws L' w v rs := by
  obtain ⟨us, h1, h2, h3⟩ := h
  refine ⟨us, h1, fun g hg => hk g (h2 g hg), fun j hj => ?_⟩
  obtain ⟨u, e, hs⟩ := h3 j hj
  exact ⟨u, e, hs.mono fun k hk' => ⟨hk k hk'.1, hk'.2⟩⟩
theorem Rws.lt {L : Nat → Prop} {w : World} {v : Value} {rs : List (List UInt8)} (h : Rws L w v rs) : ∀ g, v.ownBlock = some g → g < w.heap.size := by
  obtain ⟨us, h1, _⟩ := h; exact fun g hg => (h1.lt g hg).2
theorem Rws.bound {L : Nat → Prop} {w : World} {v : Value} {rs : List (List UInt8)} (h : Rws L w v rs) : Rws (fun k => L k ∧ k < w.heap.size) w v rs := by
  have hlt := h.lt
  obtain ⟨us, h1, h2, h3⟩ := h
  refine ⟨us, h1, fun g hg => ⟨h2 g hg, hlt g hg⟩, fun j hj => ?_⟩
  obtain ⟨u, e, hs⟩ := h3 j hj
  exact ⟨u, e, hs.bound.mono fun k hk' => ⟨⟨hk'.1.1, hk'.2⟩, hk'.1.2⟩⟩
theorem Rws.below {L : Nat → Prop} {C : Nat} {w w' : World} {v : Value} {rs : List (List UInt8)} (h : Rws L w v rs) (hb : Below C w w') (hC : w.heap.size ≤ C) : Rws L w' v rs :=
  (h.bound.keep fun k hk => hb.block k (by omega)).mono fun _ hk => hk.1

/-- What is owned: the slice's own words. -/
theorem Rws.form {L : Nat → Prop} {w : World} {v : Value} {rs : List (List UInt8)} (h : Rws L w v rs) :
    ∃ a k cap, v = .slice a k cap ∧ Hid (k = rs.length) ∧ k ≤ cap ∧ cap ≤ maxLen ∧ SRows L w a rs ∧ (a = none → k = 0 ∧ cap = 0) := by
  obtain ⟨us, h1, h2, h3⟩ := h
  rcases h1.2 with ⟨rfl, hn⟩ | ⟨g, cap, cur, rfl, hb, hg, hnc, hcm, hcs, ht⟩
  · have : rs = [] := List.eq_nil_of_length_eq_zero hn
    subst this
    exact ⟨none, 0, 0, rfl, rfl, Nat.le_refl _, Nat.zero_le _, Or.inl rfl, fun _ => ⟨rfl, rfl⟩⟩
  · refine ⟨some ⟨g, 0, none⟩, _, cap, rfl, rfl, hnc, hcm, Or.inr ⟨_, rfl, h2 g rfl, fun j hj => ?_⟩, fun h => (by cases h)⟩
    obtain ⟨u, e, hs⟩ := h3 j hj
    exact ⟨u, World.ownsRow.cells h1 rfl j u e, hs.mono fun k hk => hk.1⟩

/-- Behind an append. -/
theorem RwsU.grown {L L' : Nat → Prop} {w w' : World} {v v' : Value} {us us2 : List Value} {rs rs2 : List (List UInt8)} (h : RwsU L w v us rs) (ho : w'.ownsRow 0 31 1 v' (rs.length + rs2.length) (us ++ us2)) (hg : w.grownBy w' v.ownBlock)
    (hat : v'.ownBlock = v.ownBlock ∨ v'.ownBlock = some w.heap.size) (h2 : ∀ j (h : j < rs2.length), ∃ u, us2[j]? = some u ∧ Slc (fun k => L k ∧ v.ownBlock ≠ some k) w u rs2[j])
    (hL : ∀ k, L k → L' k) (hN : L' w.heap.size) : Rws L' w' v' (rs ++ rs2) := by
  obtain ⟨h1, hb, h3⟩ := h
  have key : ∀ u r, Slc (fun k => L k ∧ v.ownBlock ≠ some k) w u r → Slc (fun k => L' k ∧ v'.ownBlock ≠ some k) w' u r := by
    intro u r hs
    refine (hs.bound.keep fun k hk => hg.block k hk.2 (fun e => hk.1.2 e.symm)).mono fun k hk => ⟨hL k hk.1.1, ?_⟩
    rcases hat with e | e
    · rw [e]; exact hk.1.2
    · rw [e]; intro e2; simp only [Option.some.injEq] at e2; have := hk.2; omega
  have hlen : us.length = rs.length := by have := h1.1; omega
  refine ⟨us ++ us2, by rw [List.length_append]; exact ho, fun g hg' => ?_, fun j hj => ?_⟩
  · rcases hat with e | e
    · exact hL g (hb g (by rw [← e]; exact hg'))
    · rw [e] at hg'; simp only [Option.some.injEq] at hg'; subst hg'; exact hN
  · by_cases hlt : j < rs.length
    · obtain ⟨u, e, hs⟩ := h3 j hlt
      refine ⟨u, ?_, ?_⟩
      · rw [List.getElem?_append_left (by omega)]; exact e
      · rw [List.getElem_append_left hlt]; exact key u _ hs
    · rw [List.length_append] at hj
      obtain ⟨u, e, hs⟩ := h2 (j - rs.length) (by omega)
      refine ⟨u, ?_, ?_⟩
      · rw [List.getElem?_append_right (by omega), hlen]; exact e
      · rw [List.getElem_append_right (by omega)]; exact key u _ hs

theorem Slc.one {L : Nat → Prop} {w : World} {u : Value} {r : List UInt8} (h : Slc L w u r) : u.oneCell' = true := by
  obtain ⟨a, k, cap, rfl, _⟩ := h; rfl

/-- 'append(out, u)': the one slice lies in the block that the statement has just laid. -/
theorem run_row1 {ty : TypeId} {L : Nat → Prop} {v u : Value} {rs : List (List UInt8)} {r : List UInt8} {w0 : World} (hb : Rws L w0 v rs) (hu : Slc (fun k => L k ∧ v.ownBlock ≠ some k) w0 u r) (hlen : rs.length + 1 ≤ 1000000000000) :
    ∃ v' w', (Builtin.append_ #[32, 32] ty #[v, .slice (some ⟨w0.heap.size, 0, none⟩) 1 1]).run Try.prog (w0.alloc (.cells #[u] 31)) = .ok v' w' ∧ Rws (fun k => L k ∨ w0.heap.size ≤ k) w' v' (rs ++ [r]) ∧ w0.grownBy w' v.ownBlock ∧ (v'.ownBlock = v.ownBlock ∨ v'.ownBlock = some (w0.heap.size + 1)) := by
  obtain ⟨i0, hi, hz0, hz1, hz2⟩ := info_parts info31
  obtain ⟨us, hus⟩ := hb
  have hba : Below w0.heap.size w0 (w0.alloc (.cells #[u] 31)) := (Below.refl _ _).alloc (Nat.le_refl _) _
  have hsz : (w0.alloc (.cells #[u] 31)).heap.size = w0.heap.size + 1 := by simp
  have ho : (w0.alloc (.cells #[u] 31)).ownsRow 0 31 1 v rs.length us := hus.1.alloc _
  obtain ⟨v', w', hrun, h2, h3, _, h5⟩ := run_append_own_at (P := Try.prog) (w0.alloc (.cells #[u] 31)) 0 32 ty 31 i0 (.slice none 0 0) 1 24 Try.underlying32 hi hz0 hz1 hz2 rfl (by decide) v rs.length us ho ⟨w0.heap.size, 0, none⟩ 1 1 [u] rfl (cell_one_new _ _ _) (by intro x hx; simp at hx; subst hx; exact hu.one) (by unfold maxLen; omega) (by omega) (Nat.zero_le _)
  have hU : RwsU (fun k => L k ∧ k < w0.heap.size) (w0.alloc (.cells #[u] 31)) v us rs := by
    refine ⟨ho, fun g hg => ⟨hus.2.1 g hg, (hus.1.lt g hg).2⟩, fun j hj => ?_⟩
    obtain ⟨x, e, hs⟩ := hus.2.2 j hj
    exact ⟨x, e, ((hs.bound.keep fun k hk => hba.block k hk.2)).mono fun k hk => ⟨⟨hk.1.1, hk.2⟩, hk.1.2⟩⟩
  refine ⟨v', w', hrun, ?_, ?_, by rw [hsz] at h5; exact h5⟩
  · refine hU.grown (us2 := [u]) (rs2 := [r]) h2 h3 h5 ?_ (fun k hk => .inl hk.1) (.inr (by rw [hsz]; omega))
    intro j hj
    simp only [List.length_singleton] at hj
    obtain rfl : j = 0 := by omega
    exact ⟨u, rfl, (hu.bound.keep fun k hk => hba.block k hk.2).mono fun k hk => ⟨⟨hk.1.1, hk.2⟩, hk.1.2⟩⟩
  · exact ⟨h3.os, h3.tape, h3.output, Nat.le_trans hba.size h3.size, fun k hk hr => (h3.block k (by omega) hr).trans (hba.block k hk)⟩

theorem wpList_row1 {ops : Array Oper} {rest : List Oper} {o : Oper} {a : Act} {Q : Exit → Act → World → Prop} (hgd : o.guard = none) (s x : Operand)
    (ho : o.op = .call { callee := .builtin .append, args := #[s, x], argTypes := #[32, 32] })
    (L : Nat → Prop) (v u : Value) (rs : List (List UInt8)) (r : List UInt8) (hs : a.eval s = v) (w0 : World) (hb : Rws L w0 v rs) (hu : Slc (fun k => L k ∧ v.ownBlock ≠ some k) w0 u r)
    (hx : a.eval x = .slice (some ⟨w0.heap.size, 0, none⟩) 1 1) (hlen : rs.length + 1 ≤ 1000000000000)
    (h : ∀ v' w', Rws (fun k => L k ∨ w0.heap.size ≤ k) w' v' (rs ++ [r]) → w0.grownBy w' v.ownBlock → (v'.ownBlock = v.ownBlock ∨ v'.ownBlock = some (w0.heap.size + 1)) → wpList Try.prog ops Q rest (a.put o.dst v') w') : wpList Try.prog ops Q (o :: rest) a (w0.alloc (.cells #[u] 31)) := by
  obtain ⟨v', w', hrun, h2, h3, h4⟩ := run_row1 (ty := o.type) hb hu hlen
  refine wpList_plain hgd fun K hK => ?_
  unfold Oper.wp execOp
  simp only [ho, resolve, invoke, builtin, Sem.run_bind, Sem.run_pure, Result.andThen_ok, List.map_toArray, List.map_cons, List.map_nil, hs, hx, hrun]
  exact hK _ _ (h v' w' h2 h3 h4)

/-- What may turn, what may turn behind it; the rest stays. -/
structure Turn (M M' : Nat → Prop) (w w' : World) : Prop where
  os : w'.os = w.os
  tape : w'.tape = w.tape
  output : w'.output = w.output
  size : w.heap.size ≤ w'.heap.size
  block : ∀ k, k < w.heap.size → ¬ M k → w'.heap[k]? = w.heap[k]?
  new : ∀ k, M' k → M k ∨ w.heap.size ≤ k

theorem Turn.refl (M : Nat → Prop) (w : World) : Turn M M w w := ⟨rfl, rfl, rfl, Nat.le_refl _, fun _ _ _ => rfl, fun _ h => .inl h⟩
theorem Turn.trans {M M1 M2 : Nat → Prop} {w w1 w2 : World} (h : Turn M M1 w w1) (k : Turn M1 M2 w1 w2) : Turn M M2 w w2 := by
  refine ⟨k.os.trans h.os, k.tape.trans h.tape, k.output.trans h.output, Nat.le_trans h.size k.size, fun i hi hm => ?_, fun i hi => ?_⟩
  · refine (k.block i (Nat.lt_of_lt_of_le hi h.size) fun hm1 => ?_).trans (h.block i hi hm)
    rcases h.new i hm1 with h' | h'
    · exact hm h'
    · omega
  · rcases k.new i hi with h' | h'
    · exact h.new i h'
    · exact .inr (Nat.le_trans h.size h')
theorem Turn.of_below {M : Nat → Prop} {w w' : World} (h : Below w.heap.size w w') : Turn M M w w' := ⟨h.os, h.tape, h.output, h.size, fun k hk _ => h.block k hk, fun _ h => .inl h⟩
theorem Turn.mono {M M' N N' : Nat → Prop} {w w' : World} (h : Turn M M' w w') (h1 : ∀ k, M k → N k) (h2 : ∀ k, N' k → M' k ∨ N k ∨ w.heap.size ≤ k) : Turn N N' w w' :=
  ⟨h.os, h.tape, h.output, h.size, fun k hk hn => h.block k hk fun hm => hn (h1 k hm), fun k hk => by
    rcases h2 k hk with h' | h'
    · exact (h.new k h').imp (h1 k) id
    · exact h'⟩
theorem Turn.below {M M' : Nat → Prop} {C : Nat} {w w' : World} (h : Turn M M' w w') (hC : C ≤ w.heap.size) (hM : ∀ k, M k → C ≤ k) : Below C w w' :=
  ⟨h.os, h.tape, h.output, h.size, fun k hk => h.block k (by omega) fun hm => by have := hM k hm; omega⟩

/-- Blocks that are there, and that may not turn. -/
def Off (M : Nat → Prop) (w : World) (k : Nat) : Prop := k < w.heap.size ∧ ¬ M k
theorem Turn.off {M M' : Nat → Prop} {w w' : World} (h : Turn M M' w w') {k : Nat} (hk : Off M w k) : Off M' w' k := by
  refine ⟨Nat.lt_of_lt_of_le hk.1 h.size, fun hm => ?_⟩
  rcases h.new k hm with h' | h'
  · exact hk.2 h'
  · have := hk.1; omega
theorem Turn.kept {M M' : Nat → Prop} {w w' : World} (h : Turn M M' w w') {k : Nat} (hk : Off M w k) : w'.heap[k]? = w.heap[k]? := h.block k hk.1 hk.2

def MT (tp : Nat) (r : Option Nat) (k : Nat) : Prop := k = tp ∨ some k = r
def ML (tp : Nat) (r : Option Nat) (lg : Nat) (rv : Option Nat) (k : Nat) : Prop := (k = tp ∨ some k = r) ∨ k = lg ∨ some k = rv

theorem Turns.turn {tp : Nat} {r r' : Option Nat} {w w' : World} (h : Turns tp r r' w w') : Turn (MT tp r) (MT tp r') w w' := by
  refine ⟨h.os, h.tape, h.output, h.size, fun k hk hm => h.block k hk (fun e => hm (.inl e)) (fun e => hm (.inr e)), fun k hk => ?_⟩
  rcases hk with hk | hk
  · exact .inl (.inl hk)
  · rcases h.row with e | ⟨j, e, hj⟩
    · exact .inl (.inr (by rw [← e]; exact hk))
    · rw [e] at hk; simp only [Option.some.injEq] at hk; subst hk; exact .inr hj

/-- The log in block lg is the tape's in block tp, and has the records rs; all of it in blocks of L; its row lies in block rv. -/
def LogAt (L : Nat → Prop) (w : World) (lg tp : Nat) (rs : List (List UInt8)) (torn : Bool) (rv : Option Nat) : Prop :=
  ∃ v, w.heap[lg]? = some (.cells #[.pointer (some ⟨tp, 0, none⟩), v, .bool torn] 55 (0, 0)) ∧ L lg ∧ Rws (fun k => L k ∧ k ≠ lg) w v rs ∧ v.ownBlock = rv

theorem LogAt.keep {L : Nat → Prop} {w w' : World} {lg tp : Nat} {rs : List (List UInt8)} {torn : Bool} {rv : Option Nat} (h : LogAt L w lg tp rs torn rv) (hk : ∀ k, L k → w'.heap[k]? = w.heap[k]?) : LogAt L w' lg tp rs torn rv := by
  obtain ⟨v, h1, h2, h3, h4⟩ := h
  exact ⟨v, by rw [hk _ h2]; exact h1, h2, h3.keep fun k hk' => hk k hk'.1, h4⟩
theorem LogAt.mono {L L' : Nat → Prop} {w : World} {lg tp : Nat} {rs : List (List UInt8)} {torn : Bool} {rv : Option Nat} (h : LogAt L w lg tp rs torn rv) (hk : ∀ k, L k → L' k) : LogAt L' w lg tp rs torn rv := by
  obtain ⟨v, h1, h2, h3, h4⟩ := h
  exact ⟨v, h1, hk _ h2, h3.mono fun k hk' => ⟨hk k hk'.1, hk'.2⟩, h4⟩
theorem LogAt.bound {L : Nat → Prop} {w : World} {lg tp : Nat} {rs : List (List UInt8)} {torn : Bool} {rv : Option Nat} (h : LogAt L w lg tp rs torn rv) : LogAt (fun k => L k ∧ k < w.heap.size) w lg tp rs torn rv := by
  obtain ⟨v, h1, h2, h3, h4⟩ := h
  exact ⟨v, h1, ⟨h2, (Array.getElem?_eq_some_iff.1 h1).1⟩, h3.bound.mono fun k hk => ⟨⟨hk.1.1, hk.2⟩, hk.1.2⟩, h4⟩

/-- The log's cells, as a walk reads them. -/
theorem LogAt.open {L : Nat → Prop} {w : World} {lg tp : Nat} {rs : List (List UInt8)} {torn : Bool} {rv : Option Nat} (h : LogAt L w lg tp rs torn rv) :
    ∃ a k cap, w.cell? ⟨lg, 0, none⟩ = some (.pointer (some ⟨tp, 0, none⟩)) ∧ w.cell? ⟨lg, 1, none⟩ = some (.slice a k cap) ∧ w.cell? ⟨lg, 2, none⟩ = some (.bool torn) ∧ w.frozen? ⟨lg, 1, none⟩ = false ∧ w.frozen? ⟨lg, 2, none⟩ = false ∧
      Hid (k = rs.length) ∧ k ≤ cap ∧ cap ≤ maxLen ∧ SRows L w a rs ∧ (a = none → k = 0 ∧ cap = 0) ∧ Rws (fun k => L k ∧ k ≠ lg) w (.slice a k cap) rs ∧ (Value.slice a k cap).ownBlock = rv ∧ w.heap[lg]? = some (.cells #[.pointer (some ⟨tp, 0, none⟩), .slice a k cap, .bool torn] 55 (0, 0)) ∧ lg < w.heap.size ∧ L lg := by
  obtain ⟨v, hh, hL, hr, hv⟩ := h
  obtain ⟨a, k, cap, rfl, hk, hkc, hcm, hs, hnil⟩ := hr.form
  refine ⟨a, k, cap, ?_, ?_, ?_, frozen_of_row w lg 1 _ 55 hh, frozen_of_row w lg 2 _ 55 hh, hk, hkc, hcm, hs.mono fun k hk => hk.1, hnil, hr, hv, hh, (Array.getElem?_eq_some_iff.1 hh).1, hL⟩
  · rw [cell_of_row w lg 0 _ 55 (0, 0) hh]; rfl
  · rw [cell_of_row w lg 1 _ 55 (0, 0) hh]; rfl
  · rw [cell_of_row w lg 2 _ 55 (0, 0) hh]; rfl
end Go.Proofs.Ytfcnbdnmnmihjaa
