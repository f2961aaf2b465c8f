/-
  A plan and a look in a law: what was there stays as it was.
-/
import Derived.Test.YtejhnobhpjlkaaaCtLw2
namespace Go.Proofs.Ytejhnobhpjlkaaa.Cat
open Go.RowKit Route Tree Order

theorem told_put {w W w2 : World} {k m : Int} {nm pt : ByteArray} {ka : Option Addr} {kn kc : Nat} {x : Ans} {e : Ending} (hb : Below (W2of w k nm pt ka kn kc m).heap.size (W2of w k nm pt ka kn kc m) W) (h1 : AnsV W.heap.size x e w2) (h2 : Below W.heap.size W w2) :
    ∃ y : An, e = .returned y.val ∧ Hid (ResAt w2 (w.heap.size + 1)) ∧ Hid ((fun e w' => Below w.heap.size w w' ∧ AnsV w.heap.size x e w') (.returned y.val) (y.put w2 (w.heap.size + 1))) := by
  obtain ⟨nv, kv, ev, Y, rfl, r1, r2, r3, r4⟩ := h1
  obtain ⟨a2, n2, c2, rfl⟩ := slice_of r1
  obtain ⟨a3, n3, c3, rfl⟩ := slice_of r2
  obtain ⟨a4, n4, c4, rfl⟩ := slice_of r4.1
  obtain ⟨_, hd, hf, hbw, hlt, cs, hcs⟩ := two_box hb
  have hr : w2.heap[w.heap.size + 1]? = W.heap[w.heap.size + 1]? := h2.block _ hlt
  have hc : ∀ j, w2.cell? ⟨w.heap.size + 1, j, none⟩ = W.cell? ⟨w.heap.size + 1, j, none⟩ := fun j => World.cell?_of_block (w := W) (a := ⟨w.heap.size + 1, j, none⟩) hr
  have hz : ∀ j, w2.frozen? ⟨w.heap.size + 1, j, none⟩ = W.frozen? ⟨w.heap.size + 1, j, none⟩ := fun j => World.frozen?_of_block (w := W) (a := ⟨w.heap.size + 1, j, none⟩) hr
  have hR : ResAt w2 (w.heap.size + 1) := ⟨⟨by rw [hc]; exact hd.1, by rw [hc]; exact hd.2.1, by rw [hc]; exact hd.2.2.1, by rw [hc]; exact hd.2.2.2.1, by rw [hc]; exact hd.2.2.2.2⟩, fun j => by rw [hz]; exact hf j⟩
  refine ⟨⟨_, _, a2, n2, c2, a3, n3, c3, a4, n4, c4⟩, rfl, hR, ?_, _, _, _, Y, rfl, ?_, ?_, r3, ?_⟩
  · exact below_set5b (hbw.trans (h2.mono hbw.size)) (Nat.le_succ _)
  · exact own_any (own_far5 r1 hlt) hbw.size
  · exact own_any (own_far5 r2 hlt) hbw.size
  · exact EOwn.less (((((r4.far hlt _).far hlt _).far hlt _).far hlt _).far hlt _) hbw.size

theorem told_no {w w' : World} {x : Ans} {e : Ending} {c : Nat} (he : e = .returned (bareV (c : Nat) 0)) (hb : Below w.heap.size w w') (hx : x = no c) : AnsV w.heap.size x e w' ∧ Below w.heap.size w w' := by
  subst he; subst hx; exact ⟨AnsV.no, hb⟩

/-- What a call tells that turns nothing. -/
def Told (x : Ans) (w : World) (e : Ending) (w' : World) : Prop := ∃ y : An, e = .returned (.agg #[.int .i64 y.a, .int .i64 y.b, .slice y.s2 y.n2 y.c2, .slice y.s3 y.n3 y.c3, .slice y.s4 y.n4 y.c4]) ∧ Hid (Below w.heap.size w w' ∧ AnsV w.heap.size x (.returned y.val) w')

theorem told_of {x : Ans} {w w' : World} {e : Ending} (h : Below w.heap.size w w' ∧ AnsV w.heap.size x e w') : Told x w e w' := by
  obtain ⟨hb, nv, kv, ev, Y, rfl, r1, r2, r3, r4⟩ := h
  obtain ⟨a2, n2, c2, rfl⟩ := slice_of r1
  obtain ⟨a3, n3, c3, rfl⟩ := slice_of r2
  obtain ⟨a4, n4, c4, rfl⟩ := slice_of r4.1
  exact ⟨⟨_, _, a2, n2, c2, a3, n3, c3, a4, n4, c4⟩, rfl, hb, _, _, _, Y, rfl, r1, r2, r3, r4⟩

theorem plan_told {w0 w : World} {B p : Nat} {v : Value} {Z : List SZ} (h : Lw w0 B p v Z w) {c m : Int} {nm pt : ByteArray} {ka : Option Addr} {kn kc : Nat} {ks : List ByteArray} (hnm : nm.size ≤ 100000) (hpt : pt.size ≤ 100000) (hk : KeysAt w ka kn kc ks) :
    Calls Try.prog 11 #[.pointer (some ⟨p, 0, none⟩), .int .i64 c, .agg #[.int .i64 7, .string nm, .string pt, .slice ka kn kc, .int .i64 m]] w (Told (full (Z.map snapOf) ⟨c, 1, 7, m, nm, pt, ks⟩).1 w) := by
  rw [full_else (.inl (by show (7 : Int) ≠ 9; decide))]
  cases hmay : may ⟨c, 1, 7, m, nm, pt, ks⟩ with
  | false =>
    have hst : step (Z.map snapOf) ⟨c, 1, 7, m, nm, pt, ks⟩ = (no 1, Z.map snapOf) := by simp [step, hmay]
    rw [hst]
    exact (do_no p c 7 m nm pt ka kn kc ks w hnm hpt hk hmay).mono fun e w' he => told_of ⟨he.2, (told_no (c := 1) he.1 he.2 rfl).1⟩
  | true =>
    have hst : step (Z.map snapOf) ⟨c, 1, 7, m, nm, pt, ks⟩ = if (found c nm true (Z.map snapOf)).2 ≠ 0 then (no (found c nm true (Z.map snapOf)).2, Z.map snapOf) else (⟨0, 0, [], [], (snapAt (Z.map snapOf) (found c nm true (Z.map snapOf)).1).2.2.2⟩, Z.map snapOf) := by simp [step, hmay]
    refine (do_plan (fun e w' => Below w.heap.size w w' ∧ AnsV w.heap.size (step (Z.map snapOf) ⟨c, 1, 7, m, nm, pt, ks⟩).1 e w') p c m nm pt ka kn kc ks w hnm hpt hk hmay fun W hb => ?_).mono fun e w' he => told_of he
    have hbw : Below w.heap.size w W := (below_box2 w _ _).trans (hb.mono (below_box2 w _ _).size)
    obtain ⟨a, n, cap, _, hs⟩ := (h.cat.below hbw).see
    have hfit : ∀ s ∈ Z.map snapOf, EntsFit s.2.2.2 := fun s hs => ⟨h.inv.tree s hs, h.inv.ents s hs⟩
    by_cases h1 : (found c nm true (Z.map snapOf)).2 ≠ 0
    · refine (plan_no p a n cap _ c nm W hs h1).mono fun e w2 he => told_put hb ?_ he.2
      exact (told_no he.1 he.2 (by rw [hst, if_pos h1])).1
    · refine (plan_ok p a n cap _ c nm W hs (by omega) hfit).mono fun e w2 he => told_put hb ?_ he.2
      rw [hst, if_neg h1]; exact he.1

theorem look_told {w0 w : World} {B p : Nat} {v : Value} {Z : List SZ} (h : Lw w0 B p v Z w) {c m : Int} {nm pt : ByteArray} {ka : Option Addr} {kn kc : Nat} {ks : List ByteArray} (hnm : nm.size ≤ 100000) (hpt : pt.size ≤ 100000) (hk : KeysAt w ka kn kc ks) :
    Calls Try.prog 11 #[.pointer (some ⟨p, 0, none⟩), .int .i64 c, .agg #[.int .i64 6, .string nm, .string pt, .slice ka kn kc, .int .i64 m]] w (Told (full (Z.map snapOf) ⟨c, 1, 6, m, nm, pt, ks⟩).1 w) := by
  rw [full_else (.inl (by show (6 : Int) ≠ 9; decide))]
  cases hmay : may ⟨c, 1, 6, m, nm, pt, ks⟩ with
  | false =>
    have hst : step (Z.map snapOf) ⟨c, 1, 6, m, nm, pt, ks⟩ = (no 1, Z.map snapOf) := by simp [step, hmay]
    rw [hst]
    exact (do_no p c 6 m nm pt ka kn kc ks w hnm hpt hk hmay).mono fun e w' he => told_of ⟨he.2, (told_no (c := 1) he.1 he.2 rfl).1⟩
  | true =>
    have hst : step (Z.map snapOf) ⟨c, 1, 6, m, nm, pt, ks⟩ = if (found c nm true (Z.map snapOf)).2 ≠ 0 then (no (found c nm true (Z.map snapOf)).2, Z.map snapOf) else match (snapAt (Z.map snapOf) (found c nm true (Z.map snapOf)).1).2.2.2.find? (fun e => decide (e.1 = pt)) with
        | none => (no 3, Z.map snapOf)
        | some e => (⟨0, e.2.1, [], e.2.2, []⟩, Z.map snapOf) := by
      simp [step, hmay]
      rfl
    refine (do_look (fun e w' => Below w.heap.size w w' ∧ AnsV w.heap.size (step (Z.map snapOf) ⟨c, 1, 6, m, nm, pt, ks⟩).1 e w') p c m nm pt ka kn kc ks w hnm hpt hk hmay fun W hb => ?_).mono fun e w' he => told_of he
    have hbw : Below w.heap.size w W := (below_box2 w _ _).trans (hb.mono (below_box2 w _ _).size)
    obtain ⟨a, n, cap, _, hs⟩ := (h.cat.below hbw).see
    have hfit : ∀ s ∈ Z.map snapOf, EntsFit s.2.2.2 := fun s hs => ⟨h.inv.tree s hs, h.inv.ents s hs⟩
    by_cases h1 : (found c nm true (Z.map snapOf)).2 ≠ 0
    · refine (look_no p a n cap _ c nm pt W hs h1).mono fun e w2 he => told_put hb ?_ he.2
      exact (told_no he.1 he.2 (by rw [hst, if_pos h1])).1
    · cases q : (snapAt (Z.map snapOf) (found c nm true (Z.map snapOf)).1).2.2.2.find? (fun e => decide (e.1 = pt)) with
      | none =>
        refine (look_miss p a n cap _ c nm pt W hs (by omega) hfit q).mono fun e w2 he => told_put hb ?_ he.2
        exact (told_no (c := 3) he.1 he.2 (by rw [hst, if_neg h1, q])).1
      | some x =>
        refine (look_hit p a n cap _ c nm pt W x hs (by omega) hfit q).mono fun e w2 he => told_put hb ?_ he.2
        rw [hst, if_neg h1, q]; exact he.1
end Go.Proofs.Ytejhnobhpjlkaaa.Cat
