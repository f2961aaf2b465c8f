/-
  Do: what it tells and what it leaves behind, of every kind but the ninth.
-/
import Derived.Test.YtlpgdfdadkljfaaGreatCtDo
import Derived.Test.YtlpgdfdadkljfaaGreatCtOps
import Derived.Test.YtlpgdfdadkljfaaGreatCtPrune
import Derived.Test.YtlpgdfdadkljfaaGreatCtHeld
namespace Go.Proofs.YtlpgdfdadkljfaaGreat.Cat
open Go.RowKit Route Tree Order

theorem EOwn.less {B B' : Nat} {v : Value} {Y : List (Ent × Value)} {w : World} (h : EOwn B v Y w) (hb : B' ≤ B) : EOwn B' v Y w := ⟨own_any h.1 hb, fun y hy => own_any (h.2 y hy) hb⟩

/-- What an operation comes to: the catalog then, and what is told. -/
def Mid (B p : Nat) (v : Value) (Z : List SZ) (w : World) (x : Ans × List Snap) (e : Ending) (w' : World) : Prop :=
  ∃ v' Z', Next B p v Z w v' Z' w' ∧ Z'.map snapOf = x.2 ∧ AnsV w.heap.size x.1 e w'

theorem slice_of {w : World} {B e s n : Nat} {v : Value} {us : List Value} (h : w.ownsRow B e s v n us) : ∃ a k c, v = .slice a k c := by
  rcases h.2 with ⟨rfl, _⟩ | ⟨g, cap, cur, rfl, _⟩
  · exact ⟨_, _, _, rfl⟩
  · exact ⟨_, _, _, rfl⟩

theorem mid_no {B p : Nat} {v : Value} {Z : List SZ} {W w' : World} {c : Nat} {e : Ending} (h : Cat B p v Z W) (he : e = .returned (bareV (c : Nat) 0)) (hb : Below W.heap.size W w') : Mid B p v Z W (no c, Z.map snapOf) e w' :=
  ⟨v, Z, Next.of_below h hb, rfl, by rw [he]; exact AnsV.no⟩

theorem mid_told {B p : Nat} {v : Value} {Z : List SZ} {W w' : World} {x : Ans} {e : Ending} (h : Cat B p v Z W) (he : AnsV W.heap.size x e w') (hb : Below W.heap.size W w') : Mid B p v Z W (x, Z.map snapOf) e w' :=
  ⟨v, Z, Next.of_below h hb, rfl, he⟩

theorem mid_an {B p : Nat} {v : Value} {Z : List SZ} {W w2 : World} {x : Ans × List Snap} {e : Ending} (hm : Mid B p v Z W x e w2) : ∃ y : An, e = .returned y.val := by
  obtain ⟨_, _, _, _, nv, kv, ev, Y, rfl, h1, h2, _, h4⟩ := hm
  obtain ⟨a2, n2, c2, rfl⟩ := slice_of h1
  obtain ⟨a3, n3, c3, rfl⟩ := slice_of h2
  obtain ⟨a4, n4, c4, rfl⟩ := slice_of h4.1
  exact ⟨⟨_, _, a2, n2, c2, a3, n3, c3, a4, n4, c4⟩, rfl⟩

theorem mid_put {B p : Nat} {v : Value} {Z : List SZ} {w W w2 : World} {k m : Int} {nm pt : ByteArray} {ka : Option Addr} {kn kc : Nat} {x : Ans × List Snap} (h : Cat B p v Z w) (hb : Below (W2of w k nm pt ka kn kc m).heap.size (W2of w k nm pt ka kn kc m) W) (y : An) (hm : Mid B p v Z W x (.returned y.val) w2) :
    Hid (ResAt w2 (w.heap.size + 1)) ∧ Hid (Mid B p v Z w x (.returned y.val) (y.put w2 (w.heap.size + 1))) := by
  obtain ⟨v', Z', hN, hZ, nv, kv, ev, Y, he, h1, h2, h3, h4⟩ := hm
  obtain ⟨_, hd, hf, hbw, hlt, cs, hcs⟩ := two_box hb
  have hr : w2.heap[w.heap.size + 1]? = W.heap[w.heap.size + 1]? := hN.turn.block _ hlt fun ho => by
    have := (h.owns ho).2
    omega
  have hc : ∀ j, w2.cell? ⟨w.heap.size + 1, j, none⟩ = W.cell? ⟨w.heap.size + 1, j, none⟩ := fun j => World.cell?_of_block (w := W) (a := ⟨w.heap.size + 1, j, none⟩) hr
  have hz : ∀ j, w2.frozen? ⟨w.heap.size + 1, j, none⟩ = W.frozen? ⟨w.heap.size + 1, j, none⟩ := fun j => World.frozen?_of_block (w := W) (a := ⟨w.heap.size + 1, j, none⟩) hr
  have hR : ResAt w2 (w.heap.size + 1) := ⟨⟨by rw [hc]; exact hd.1, by rw [hc]; exact hd.2.1, by rw [hc]; exact hd.2.2.1, by rw [hc]; exact hd.2.2.2.1, by rw [hc]; exact hd.2.2.2.2⟩, fun j => by rw [hz]; exact hf j⟩
  refine ⟨hR, v', Z', (hN.ahead hbw).res5 (hr.trans hcs) (Nat.le_succ _), hZ, nv, kv, ev, Y, he, ?_, ?_, h3, ?_⟩
  · exact own_any (own_far5 h1 hlt) hbw.size
  · exact own_any (own_far5 h2 hlt) hbw.size
  · exact EOwn.less (((((h4.far hlt _).far hlt _).far hlt _).far hlt _).far hlt _) hbw.size

theorem mid_end {B p : Nat} {v : Value} {Z : List SZ} {w W w2 : World} {k m : Int} {nm pt : ByteArray} {ka : Option Addr} {kn kc : Nat} {x : Ans × List Snap} {e : Ending} (h : Cat B p v Z w) (hb : Below (W2of w k nm pt ka kn kc m).heap.size (W2of w k nm pt ka kn kc m) W) (hm : Mid B p v Z W x e w2) :
    ∃ y : An, e = .returned y.val ∧ Hid (ResAt w2 (w.heap.size + 1)) ∧ Hid (Mid B p v Z w x (.returned y.val) (y.put w2 (w.heap.size + 1))) := by
  obtain ⟨y, rfl⟩ := mid_an hm
  exact ⟨y, rfl, mid_put h hb y hm⟩

theorem erase_map {α β : Type} (f : α → β) : ∀ (l : List α) (i : Nat), (l.eraseIdx i).map f = (l.map f).eraseIdx i
  | [], _ => rfl
  | _ :: _, 0 => rfl
  | a :: l, i + 1 => by simp [List.eraseIdx, erase_map f l i]

section
variable {B p : Nat} {v : Value} {Z : List SZ} {c m : Int} {nm pt : ByteArray} {ks : List ByteArray} {W : World}

theorem begin_mid (h : Cat B p v Z W) (hB : B ≤ W.heap.size) (hl : Z.length ≤ 64) (hnm : nm.size ≤ 100000) (hmay : may ⟨c, 1, 1, m, nm, pt, ks⟩ = true) :
    Calls Tryz.prog 20 #[.pointer (some ⟨p, 0, none⟩), .int .i64 c, .string nm] W (Mid B p v Z W (step (Z.map snapOf) ⟨c, 1, 1, m, nm, pt, ks⟩)) := by
  obtain ⟨a, n, cap, _, hs⟩ := h.see
  have hst : step (Z.map snapOf) ⟨c, 1, 1, m, nm, pt, ks⟩ = if (place c nm (Z.map snapOf)).isSome = true then (no 4, Z.map snapOf) else if 8 ≤ count c (Z.map snapOf) then (no 5, Z.map snapOf) else (no 0, Z.map snapOf ++ [(c, nm, false, [])]) := by simp [step, hmay]
  rw [hst]
  by_cases h1 : (place c nm (Z.map snapOf)).isSome = true
  · rw [if_pos h1]
    exact (begin_twice p a n cap _ c nm W hs h1).mono fun e w' he => mid_no (c := 4) h he.1 he.2
  rw [if_neg h1]
  have h1' : place c nm (Z.map snapOf) = none := by
    cases q : place c nm (Z.map snapOf) with
    | none => rfl
    | some i => rw [q] at h1; simp at h1
  by_cases h2 : 8 ≤ count c (Z.map snapOf)
  · rw [if_pos h2]
    exact (begin_full p a n cap _ c nm W hs h1' h2).mono fun e w' he => mid_no (c := 5) h he.1 he.2
  rw [if_neg h2]
  refine (begin_ok B p v Z c nm W h hB (by omega) hnm h1' (by omega)).mono ?_
  rintro e w' ⟨v', rfl, hN⟩
  exact ⟨v', _, hN, by simp [snapOf], AnsV.no (c := 0)⟩

theorem commit_mid (h : Cat B p v Z W) (hmay : may ⟨c, 1, 3, m, nm, pt, ks⟩ = true) :
    Calls Tryz.prog 22 #[.pointer (some ⟨p, 0, none⟩), .int .i64 c, .string nm] W (Mid B p v Z W (step (Z.map snapOf) ⟨c, 1, 3, m, nm, pt, ks⟩)) := by
  obtain ⟨a, n, cap, _, hs⟩ := h.see
  have hst : step (Z.map snapOf) ⟨c, 1, 3, m, nm, pt, ks⟩ = if (found c nm false (Z.map snapOf)).2 ≠ 0 then (no (found c nm false (Z.map snapOf)).2, Z.map snapOf) else (no 0, (Z.map snapOf).set (found c nm false (Z.map snapOf)).1 (c, nm, true, (snapAt (Z.map snapOf) (found c nm false (Z.map snapOf)).1).2.2.2)) := by simp [step, hmay]
  rw [hst]
  by_cases h1 : (found c nm false (Z.map snapOf)).2 ≠ 0
  · rw [if_pos h1]
    exact (commit_no p a n cap _ c nm W hs h1).mono fun e w' he => mid_no h he.1 he.2
  rw [if_neg h1]
  refine (commit_ok B p v Z c nm W h (by omega)).mono ?_
  rintro e w' ⟨v', z', rfl, hz, hN⟩
  exact ⟨v', _, hN, by rw [List.map_set, hz], AnsV.no (c := 0)⟩

theorem abort_mid (h : Cat B p v Z W) (hmay : may ⟨c, 1, 4, m, nm, pt, ks⟩ = true) :
    Calls Tryz.prog 23 #[.pointer (some ⟨p, 0, none⟩), .int .i64 c, .string nm] W (Mid B p v Z W (step (Z.map snapOf) ⟨c, 1, 4, m, nm, pt, ks⟩)) := by
  obtain ⟨a, n, cap, _, hs⟩ := h.see
  have hst : step (Z.map snapOf) ⟨c, 1, 4, m, nm, pt, ks⟩ = if (found c nm false (Z.map snapOf)).2 ≠ 0 then (no (found c nm false (Z.map snapOf)).2, Z.map snapOf) else (no 0, (Z.map snapOf).eraseIdx (found c nm false (Z.map snapOf)).1) := by simp [step, hmay]
  rw [hst]
  by_cases h1 : (found c nm false (Z.map snapOf)).2 ≠ 0
  · rw [if_pos h1]
    exact (abort_no p a n cap _ c nm W hs h1).mono fun e w' he => mid_no h he.1 he.2
  rw [if_neg h1]
  refine (abort_ok B p v Z c nm W h (by omega)).mono ?_
  rintro e w' ⟨v', rfl, hN⟩
  exact ⟨v', _, hN, erase_map _ _ _, AnsV.no (c := 0)⟩

theorem look_mid (h : Cat B p v Z W) (hI : Inv (Z.map snapOf)) (hmay : may ⟨c, 1, 6, m, nm, pt, ks⟩ = true) :
    Calls Tryz.prog 25 #[.pointer (some ⟨p, 0, none⟩), .int .i64 c, .string nm, .string pt] W (Mid B p v Z W (step (Z.map snapOf) ⟨c, 1, 6, m, nm, pt, ks⟩)) := by
  obtain ⟨a, n, cap, _, hs⟩ := h.see
  have hst : step (Z.map snapOf) ⟨c, 1, 6, m, nm, pt, ks⟩ = if (found c nm true (Z.map snapOf)).2 ≠ 0 then (no (found c nm true (Z.map snapOf)).2, Z.map snapOf) else match (snapAt (Z.map snapOf) (found c nm true (Z.map snapOf)).1).2.2.2.find? (fun e => decide (e.1 = pt)) with
      | none => (no 3, Z.map snapOf)
      | some e => (⟨0, e.2.1, [], e.2.2, []⟩, Z.map snapOf) := by
    simp [step, hmay]
    rfl
  rw [hst]
  have hfit : ∀ s ∈ Z.map snapOf, EntsFit s.2.2.2 := fun s hs => ⟨hI.tree s hs, hI.ents s hs⟩
  by_cases h1 : (found c nm true (Z.map snapOf)).2 ≠ 0
  · rw [if_pos h1]
    exact (look_no p a n cap _ c nm pt W hs h1).mono fun e w' he => mid_no h he.1 he.2
  rw [if_neg h1]
  cases q : (snapAt (Z.map snapOf) (found c nm true (Z.map snapOf)).1).2.2.2.find? (fun e => decide (e.1 = pt)) with
  | none => exact (look_miss p a n cap _ c nm pt W hs (by omega) hfit q).mono fun e w' he => mid_no (c := 3) h he.1 he.2
  | some x => exact (look_hit p a n cap _ c nm pt W x hs (by omega) hfit q).mono fun e w' he => mid_told h he.1 he.2

theorem plan_mid (h : Cat B p v Z W) (hI : Inv (Z.map snapOf)) (hmay : may ⟨c, 1, 7, m, nm, pt, ks⟩ = true) :
    Calls Tryz.prog 26 #[.pointer (some ⟨p, 0, none⟩), .int .i64 c, .string nm] W (Mid B p v Z W (step (Z.map snapOf) ⟨c, 1, 7, m, nm, pt, ks⟩)) := by
  obtain ⟨a, n, cap, _, hs⟩ := h.see
  have hst : step (Z.map snapOf) ⟨c, 1, 7, m, nm, pt, ks⟩ = if (found c nm true (Z.map snapOf)).2 ≠ 0 then (no (found c nm true (Z.map snapOf)).2, Z.map snapOf) else (⟨0, 0, [], [], (snapAt (Z.map snapOf) (found c nm true (Z.map snapOf)).1).2.2.2⟩, Z.map snapOf) := by simp [step, hmay]
  rw [hst]
  have hfit : ∀ s ∈ Z.map snapOf, EntsFit s.2.2.2 := fun s hs => ⟨hI.tree s hs, hI.ents s hs⟩
  by_cases h1 : (found c nm true (Z.map snapOf)).2 ≠ 0
  · rw [if_pos h1]
    exact (plan_no p a n cap _ c nm W hs h1).mono fun e w' he => mid_no h he.1 he.2
  rw [if_neg h1]
  exact (plan_ok p a n cap _ c nm W hs (by omega) hfit).mono fun e w' he => mid_told h he.1 he.2

theorem names_sizes (hI : Inv (Z.map snapOf)) : ∀ s ∈ Z.map snapOf, s.2.1.size ≤ 1000000 := fun s hs => by
  have := part_size (hI.name s hs)
  omega

theorem list_mid (h : Cat B p v Z W) (hI : Inv (Z.map snapOf)) (hl : Z.length ≤ 64) (hmay : may ⟨c, 1, 5, m, nm, pt, ks⟩ = true) :
    Calls Tryz.prog 24 #[.pointer (some ⟨p, 0, none⟩), .int .i64 c] W fun e w' => ∃ s n k, e = .returned (.slice s n k) ∧ Mid B p v Z W (step (Z.map snapOf) ⟨c, 1, 5, m, nm, pt, ks⟩) (.returned (An.val ⟨0, 0, s, n, k, none, 0, 0, none, 0, 0⟩)) w' := by
  obtain ⟨a, n, cap, _, hs⟩ := h.see
  have hst : step (Z.map snapOf) ⟨c, 1, 5, m, nm, pt, ks⟩ = (⟨0, 0, names c (Z.map snapOf), [], []⟩, Z.map snapOf) := by simp [step, hmay]
  rw [hst]
  have hn : n = Z.length := by simpa using hs.len
  refine (committed_any p a n cap _ c W hs (by omega) (names_sizes hI)).mono ?_
  rintro e w' ⟨u, rfl, ho, hb, _⟩
  obtain ⟨s, n, k, rfl⟩ := slice_of ho
  exact ⟨s, n, k, rfl, mid_told h ⟨_, _, _, [], rfl, ho, World.ownsRow_nil _ _ _ _, rfl, EOwn.nil _ _⟩ hb⟩

theorem prune_mid {k : Nat} (h : Cat B p v Z W) (hB : B ≤ W.heap.size) (hI : Inv (Z.map snapOf)) (hl : Z.length ≤ 64) (hk : k ≤ 100) (hmay : may ⟨c, 1, 8, (k : Int), nm, pt, ks⟩ = true) :
    Calls Tryz.prog 27 #[.pointer (some ⟨p, 0, none⟩), .int .i64 c, .int .i64 (k : Int)] W fun e w' => ∃ b : Int, e = .returned (.int .i64 b) ∧ Mid B p v Z W (step (Z.map snapOf) ⟨c, 1, 8, (k : Int), nm, pt, ks⟩) (.returned (An.val ⟨0, b, none, 0, 0, none, 0, 0, none, 0, 0⟩)) w' := by
  have hst : step (Z.map snapOf) ⟨c, 1, 8, (k : Int), nm, pt, ks⟩ = (⟨0, ((names c (Z.map snapOf)).length - k : Nat), [], [], []⟩, pruned c ((names c (Z.map snapOf)).length - k) (Z.map snapOf)) := by simp [step, hmay]
  rw [hst]
  refine (prune_any B p v Z c k W h hB (by omega) hk fun z hz => names_sizes hI _ (List.mem_map.2 ⟨z, hz, rfl⟩)).mono ?_
  rintro e w' ⟨v', rfl, hN⟩
  exact ⟨_, rfl, v', _, hN, prunedZ_map _ _ _, AnsV.bare⟩
end
end Go.Proofs.YtlpgdfdadkljfaaGreat.Cat
