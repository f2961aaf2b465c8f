/-
  A deed whose answer holds lists turns nothing; what rows are, whatever is written over them.
-/
import Derived.Test.YtejhnobhpjlkaaaCtTold
import Derived.Test.YtejhnobhpjlkaaaCtSCopy
namespace Go.Proofs.Ytejhnobhpjlkaaa.Cat
open Go.RowKit Route Tree Order

/-- An answer without lists. -/
def Bare (x : Ans) : Prop := x.names = [] ∧ x.keys = [] ∧ x.ents = []
theorem Bare.no (c : Nat) : Bare (no c) := ⟨rfl, rfl, rfl⟩

theorem full_bare (S : List Snap) (r : Rq) (h5 : r.k ≠ 5) (h6 : r.k ≠ 6) (h7 : r.k ≠ 7) (h9 : r.k ≠ 9 ∨ may r = false) : Bare (full S r).1 := by
  rw [full_else h9]
  unfold step
  repeat' split
  all_goals first
    | exact Bare.no _
    | exact ⟨rfl, rfl, rfl⟩
    | (rename_i h; exact absurd h h5)
    | (rename_i h _; exact absurd h h5)
    | (rename_i h; exact absurd h h6)
    | (rename_i h _; exact absurd h h6)
    | (rename_i h _ _; exact absurd h h6)
    | (rename_i h; exact absurd h h7)
    | (rename_i h _; exact absurd h h7)
    | contradiction

theorem told_fix {w W w2 : World} {k m : Int} {nm pt : ByteArray} {ka : Option Addr} {kn kc : Nat} {x : Ans} (y : An) (hb : Below (W2of w k nm pt ka kn kc m).heap.size (W2of w k nm pt ka kn kc m) W) (h1 : AnsV W.heap.size x (.returned y.val) w2) (h2 : Below W.heap.size W w2) :
    Hid (ResAt w2 (w.heap.size + 1)) ∧ Hid ((fun e w' => Below w.heap.size w w' ∧ AnsV w.heap.size x e w') (.returned y.val) (y.put w2 (w.heap.size + 1))) := by
  obtain ⟨nv, kv, ev, Y, he, r1, r2, r3, r4⟩ := h1
  obtain ⟨_, hd, hf, hbw, hlt, cs, hcs⟩ := two_box hb
  have hr : w2.heap[w.heap.size + 1]? = W.heap[w.heap.size + 1]? := h2.block _ hlt
  have hc : ∀ j, w2.cell? ⟨w.heap.size + 1, j, none⟩ = W.cell? ⟨w.heap.size + 1, j, none⟩ := fun j => World.cell?_of_block (w := W) (a := ⟨w.heap.size + 1, j, none⟩) hr
  have hz : ∀ j, w2.frozen? ⟨w.heap.size + 1, j, none⟩ = W.frozen? ⟨w.heap.size + 1, j, none⟩ := fun j => World.frozen?_of_block (w := W) (a := ⟨w.heap.size + 1, j, none⟩) hr
  have hR : ResAt w2 (w.heap.size + 1) := ⟨⟨by rw [hc]; exact hd.1, by rw [hc]; exact hd.2.1, by rw [hc]; exact hd.2.2.1, by rw [hc]; exact hd.2.2.2.1, by rw [hc]; exact hd.2.2.2.2⟩, fun j => by rw [hz]; exact hf j⟩
  refine ⟨hR, ?_, nv, kv, ev, Y, he, ?_, ?_, r3, ?_⟩
  · exact below_set5b (hbw.trans (h2.mono hbw.size)) (Nat.le_succ _)
  · exact own_any (own_far5 r1 hlt) hbw.size
  · exact own_any (own_far5 r2 hlt) hbw.size
  · exact EOwn.less (((((r4.far hlt _).far hlt _).far hlt _).far hlt _).far hlt _) hbw.size

theorem list_told {w0 w : World} {B p : Nat} {v : Value} {Z : List SZ} (h : Lw w0 B p v Z w) {c m : Int} {nm pt : ByteArray} {ka : Option Addr} {kn kc : Nat} {ks : List ByteArray} (hnm : nm.size ≤ 100000) (hpt : pt.size ≤ 100000) (hk : KeysAt w ka kn kc ks) :
    Calls Try.prog 11 #[.pointer (some ⟨p, 0, none⟩), .int .i64 c, .agg #[.int .i64 5, .string nm, .string pt, .slice ka kn kc, .int .i64 m]] w (Told (full (Z.map snapOf) ⟨c, 1, 5, m, nm, pt, ks⟩).1 w) := by
  rw [full_else (.inl (by show (5 : Int) ≠ 9; decide))]
  cases hmay : may ⟨c, 1, 5, m, nm, pt, ks⟩ with
  | false =>
    have hst : step (Z.map snapOf) ⟨c, 1, 5, m, nm, pt, ks⟩ = (no 1, Z.map snapOf) := by simp [step, hmay]
    rw [hst]
    exact (do_no p c 5 m nm pt ka kn kc ks w hnm hpt hk hmay).mono fun e w' he => told_of ⟨he.2, (told_no (c := 1) he.1 he.2 rfl).1⟩
  | true =>
    have hst : step (Z.map snapOf) ⟨c, 1, 5, m, nm, pt, ks⟩ = (⟨0, 0, names c (Z.map snapOf), [], []⟩, Z.map snapOf) := by simp [step, hmay]
    refine (do_list (fun e w' => Below w.heap.size w w' ∧ AnsV w.heap.size (step (Z.map snapOf) ⟨c, 1, 5, m, nm, pt, ks⟩).1 e w') p c m nm pt ka kn kc ks w hnm hpt hk hmay fun W hb => ?_).mono fun e w' he => told_of he
    have hbw : Below w.heap.size w W := (below_box2 w _ _).trans (hb.mono (below_box2 w _ _).size)
    obtain ⟨a, n, cap, _, hs⟩ := (h.cat.below hbw).see
    have hl : Z.length ≤ 64 := by have := inv_len h.inv; simpa using this
    have hn : n = Z.length := by simpa using hs.len
    refine (committed_any p a n cap _ c W hs (by omega) (names_sizes h.inv)).mono ?_
    rintro e w2 ⟨u, rfl, ho, hb2, _⟩
    obtain ⟨s, n2, k2, rfl⟩ := slice_of ho
    refine ⟨s, n2, k2, rfl, told_fix ⟨0, 0, s, n2, k2, none, 0, 0, none, 0, 0⟩ hb ?_ hb2⟩
    rw [hst]
    exact ⟨_, _, _, [], rfl, ho, World.ownsRow_nil _ _ _ _, rfl, EOwn.nil _ _⟩

theorem did_told {w0 w : World} {B p : Nat} {v : Value} {Z : List SZ} {r : Rq} (h : Lw w0 B p v Z w) (hr : r.k = 7 ∨ r.k = 6 ∨ r.k = 5) {y : An} {w' : World} (ht : Below w.heap.size w w' ∧ AnsV w.heap.size (full (Z.map snapOf) r).1 (.returned y.val) w') : Did B p v Z r w y v Z w' :=
  ⟨Next.of_below h.cat ht.1, (full_same _ _ hr).symm, h.inv, ht.2⟩

/-- Do, and that what is told in lists turned nothing. -/
theorem did_split {w0 w : World} {B p : Nat} {v : Value} {Z : List SZ} (h : Lw w0 B p v Z w) {c k m : Int} {nm pt : ByteArray} {ka : Option Addr} {kn kc : Nat} {ks : List ByteArray} (hnm : nm.size ≤ 100000) (hpt : pt.size ≤ 100000) (hk : KeysAt w ka kn kc ks) :
    Calls Try.prog 11 #[.pointer (some ⟨p, 0, none⟩), .int .i64 c, .agg #[.int .i64 k, .string nm, .string pt, .slice ka kn kc, .int .i64 m]] w fun e w' => ∃ (y : An) (v' : Value) (Z' : List SZ), e = .returned (.agg #[.int .i64 y.a, .int .i64 y.b, .slice y.s2 y.n2 y.c2, .slice y.s3 y.n3 y.c3, .slice y.s4 y.n4 y.c4]) ∧ Hid (Did B p v Z ⟨c, 1, k, m, nm, pt, ks⟩ w y v' Z' w') ∧ Hid ((v' = v ∧ Z' = Z) ∨ Bare (full (Z.map snapOf) ⟨c, 1, k, m, nm, pt, ks⟩).1) := by
  by_cases h7 : k = 7
  · subst h7
    refine (plan_told h hnm hpt hk).mono ?_
    rintro e w' ⟨y, rfl, ht⟩
    exact ⟨y, v, Z, rfl, did_told h (.inl rfl) ht.out, .inl ⟨rfl, rfl⟩⟩
  by_cases h6 : k = 6
  · subst h6
    refine (look_told h hnm hpt hk).mono ?_
    rintro e w' ⟨y, rfl, ht⟩
    exact ⟨y, v, Z, rfl, did_told h (.inr (.inl rfl)) ht.out, .inl ⟨rfl, rfl⟩⟩
  by_cases h5 : k = 5
  · subst h5
    refine (list_told h hnm hpt hk).mono ?_
    rintro e w' ⟨y, rfl, ht⟩
    exact ⟨y, v, Z, rfl, did_told h (.inr (.inr rfl)) ht.out, .inl ⟨rfl, rfl⟩⟩
  by_cases h9 : k ≠ 9 ∨ may ⟨c, 1, k, m, nm, pt, ks⟩ = false
  · refine (own_call2 h hnm hpt hk).mono ?_
    rintro e w' ⟨y, v', Z', rfl, hD⟩
    exact ⟨y, v', Z', rfl, hD, .inr (full_bare _ _ h5 h6 h7 h9)⟩
  · have hk9 : k = 9 := Decidable.byContradiction fun e => h9 (.inl e)
    have hmay : may ⟨c, 1, k, m, nm, pt, ks⟩ = true := by
      cases q : may ⟨c, 1, k, m, nm, pt, ks⟩ with
      | true => rfl
      | false => exact absurd (.inr q) h9
    subst hk9
    have hl : Z.length ≤ 64 := by have := inv_len h.inv; simpa using this
    refine (do_nine h.cat h.inv hl hnm hpt hk hmay).mono ?_
    rintro e w' ⟨K, kv, hK, hN, rfl, ho⟩
    obtain ⟨s, n, q, rfl⟩ := slice_of ho
    have hKe : K = heldOf (Z.map snapOf) := held_unique hK (held_of _)
    subst hKe
    refine ⟨⟨0, 0, none, 0, 0, s, n, q, none, 0, 0⟩, v, Z, rfl, ⟨hN, ?_, h.inv, ?_⟩, .inl ⟨rfl, rfl⟩⟩
    · rw [full_nine hmay rfl]
    · rw [full_nine hmay rfl]
      exact ⟨_, _, _, [], rfl, World.ownsRow_nil _ _ _ _, ho, rfl, EOwn.nil _ _⟩

/-- A row of one's own, whatever it holds. -/
def RowAny (B : Nat) (e : TypeId) (s : Nat) (v : Value) (n : Nat) (w : World) : Prop := ∃ xs, w.ownsRow B e s v n xs

theorem RowAny.below {B : Nat} {e : TypeId} {s n : Nat} {v : Value} {w w' : World} (h : RowAny B e s v n w) (hb : Below w.heap.size w w') : RowAny B e s v n w' := by
  obtain ⟨xs, h⟩ := h
  exact ⟨xs, own30_later h hb⟩

/-- It stays a row, wherever a cell is written. -/
theorem RowAny.set {B : Nat} {e : TypeId} {s n : Nat} {v : Value} {w : World} (h : RowAny B e s v n w) (g i : Nat) (u : Value) : RowAny B e s v n (w.setCell ⟨g, i, none⟩ u) := by
  obtain ⟨xs, h⟩ := h
  by_cases hg : v.ownBlock = some g
  · rcases h.2 with ⟨rfl, _⟩ | ⟨g', cap', cur, rfl, _⟩
    · simp [Value.ownBlock] at hg
    · simp [Value.ownBlock] at hg
      subst hg
      exact ⟨_, (h.stored i u).1⟩
  · exact ⟨xs, own_keep h fun k hk => heap_setCell.1 k fun e1 => hg (by rw [← e1]; exact hk)⟩

/-- What a store needs of it. -/
theorem RowAny.at {B : Nat} {e : TypeId} {s n : Nat} {a : Option Addr} {cap : Nat} {w : World} (h : RowAny B e s (.slice a n cap) n w) {j : Nat} (hj : j < n * s) :
    ∃ g, a = some ⟨g, 0, none⟩ ∧ B ≤ g ∧ g < w.heap.size ∧ (∃ x, w.cell? ⟨g, j, none⟩ = some x) ∧ w.frozen? ⟨g, j, none⟩ = false := by
  obtain ⟨xs, h1⟩ := h
  rcases h1.2 with ⟨_, h3⟩ | ⟨g, cap', cur, h3, h4, hg, _⟩
  · subst h3; omega
  · simp only [Value.slice.injEq] at h3
    obtain ⟨rfl, _, _⟩ := h3
    refine ⟨g, rfl, h4, (Array.getElem?_eq_some_iff.1 hg).1, ⟨xs[j]'(by rw [h1.1]; exact hj), ?_⟩, h1.frozenAt j⟩
    rw [h1.cellAt j hj, List.getElem?_eq_getElem]
end Go.Proofs.Ytejhnobhpjlkaaa.Cat
