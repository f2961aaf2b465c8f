/-
  New; what an operation leaves as it was; Held by Do; Do as the laws call it.
-/
import Derived.Test.YtlpgdfdadkljfaaGreatCtDo3
namespace Go.Proofs.YtlpgdfdadkljfaaGreat.Cat
open Go.RowKit Route Tree Order

theorem new_any (w : World) : Calls Tryz.prog 8 #[] w fun e w' => e = .returned (.pointer (some ⟨w.heap.size, 0, none⟩)) ∧ w' = w.alloc (.cells #[.slice none 0 0] 56) := by
  go_enter Tryz.func8, Tryz.ntmps8
  go_wp2
  exact bodyPost_ret (by simp [results, Tryz.results8, go_sem]) rfl ⟨rfl, rfl⟩

theorem cat_new {B : Nat} {w : World} (hB : B ≤ w.heap.size) : Cat B w.heap.size (.slice none 0 0) [] (w.alloc (.cells #[.slice none 0 0] 56)) :=
  ⟨by exact heap_alloc_new w _, hB, World.ownsRow_nil _ _ _ _, fun z hz => by simp at hz, List.Pairwise.nil⟩

/-- What kind of block the catalog owns. -/
theorem Cat.type {B p : Nat} {v : Value} {Z : List SZ} {w : World} (h : Cat B p v Z w) {k : Nat} (hk : Owns p v Z k) : ∃ c T, w.heap[k]? = some (.cells c T (0, 0)) ∧ (T = 56 ∨ T = 71 ∨ T = 84) := by
  rcases hk with rfl | hk | ⟨z, hz, hk⟩
  · exact ⟨_, _, h.box, .inl rfl⟩
  · obtain ⟨c, hc⟩ := own_block h.row hk
    exact ⟨_, _, hc, .inr (.inl rfl)⟩
  · obtain ⟨c, hc⟩ := own_block (h.ents z hz).1 hk
    exact ⟨_, _, hc, .inr (.inr rfl)⟩

/-- Blocks of another type stay. -/
theorem Next.stay {B p : Nat} {v v' : Value} {Z Z' : List SZ} {w w' : World} (h : Cat B p v Z w) (hN : Next B p v Z w v' Z' w') {k : Nat} {c : Array Value} {T : TypeId} {f : Nat × Nat} (hk : w.heap[k]? = some (.cells c T f)) (h1 : T ≠ 56) (h2 : T ≠ 71) (h3 : T ≠ 84) : w'.heap[k]? = w.heap[k]? :=
  hN.turn.block k (Array.getElem?_eq_some_iff.1 hk).1 fun ho => by
    obtain ⟨c', T', hc', ht⟩ := h.type ho
    rw [hk] at hc'
    simp at hc'
    obtain ⟨_, rfl, _⟩ := hc'
    rcases ht with e | e | e
    · exact h1 e
    · exact h2 e
    · exact h3 e

theorem Next.keep {B p : Nat} {v v' : Value} {Z Z' : List SZ} {w w' : World} (h : Cat B p v Z w) (hN : Next B p v Z w v' Z' w') {B' s n : Nat} {T : TypeId} {u : Value} {us : List Value} (ho : w.ownsRow B' T s u n us) (h1 : T ≠ 56) (h2 : T ≠ 71) (h3 : T ≠ 84) : w'.ownsRow B' T s u n us :=
  own_keep ho fun g hg => by
    obtain ⟨c, hc⟩ := own_block ho hg
    exact hN.stay h hc h1 h2 h3

/-- Held: what it tells. -/
def HeldPost (B p : Nat) (v : Value) (Z : List SZ) (w : World) (e : Ending) (w' : World) : Prop :=
  ∃ K kv, Held (Z.map snapOf) K ∧ Next B p v Z w v Z w' ∧ e = .returned (.agg #[.int .i64 0, .int .i64 0, .slice none 0 0, kv, .slice none 0 0]) ∧ w'.ownsRow w.heap.size 9 1 kv K.length (sv K)

theorem do_nine {B p : Nat} {v : Value} {Z : List SZ} {c m : Int} {nm pt : ByteArray} {ka : Option Addr} {kn kc : Nat} {ks : List ByteArray} {w : World} (h : Cat B p v Z w) (hI : Inv (Z.map snapOf)) (hl : Z.length ≤ 64) (hnm : nm.size ≤ 100000) (hpt : pt.size ≤ 100000) (hk : KeysAt w ka kn kc ks) (hmay : may ⟨c, 1, 9, m, nm, pt, ks⟩ = true) :
    Calls Tryz.prog 9 #[.pointer (some ⟨p, 0, none⟩), .int .i64 c, opV 9 nm pt ka kn kc m] w (HeldPost B p v Z w) := by
  refine do_held _ p c m nm pt ka kn kc ks w hnm hpt hk hmay fun W hb => ?_
  obtain ⟨_, hd, hf, hbw, hlt, cs, hcs⟩ := two_box hb
  have hW := h.below hbw
  obtain ⟨a, n, cap, _, hs⟩ := hW.see
  have hn : n = Z.length := by simpa using hs.len
  refine (held_any p a n cap _ W hs (by omega) fun s hs' => ⟨(treeL_iff.1 (hI.tree s hs')).1, fun e he => ⟨(hI.ents s hs' e he).2.1, fun k hk => by have := (hI.ents s hs' e he).2.2 k hk; omega⟩⟩).mono ?_
  rintro e w2 ⟨u, K, rfl, hK, ho, hb2, _⟩
  obtain ⟨s, q, z, rfl⟩ := slice_of ho
  have hr : w2.heap[w.heap.size + 1]? = W.heap[w.heap.size + 1]? := hb2.block _ hlt
  have hc : ∀ j, w2.cell? ⟨w.heap.size + 1, j, none⟩ = W.cell? ⟨w.heap.size + 1, j, none⟩ := fun j => World.cell?_of_block (w := W) (a := ⟨w.heap.size + 1, j, none⟩) hr
  have hz : ∀ j, w2.frozen? ⟨w.heap.size + 1, j, none⟩ = W.frozen? ⟨w.heap.size + 1, j, none⟩ := fun j => World.frozen?_of_block (w := W) (a := ⟨w.heap.size + 1, j, none⟩) hr
  have hR : ResAt w2 (w.heap.size + 1) := ⟨⟨by rw [hc]; exact hd.1, by rw [hc]; exact hd.2.1, by rw [hc]; exact hd.2.2.1, by rw [hc]; exact hd.2.2.2.1, by rw [hc]; exact hd.2.2.2.2⟩, fun j => by rw [hz]; exact hf j⟩
  exact ⟨s, q, z, rfl, hR, K, _, hK, ((Next.of_below hW hb2).ahead hbw).res5 (hr.trans hcs) (Nat.le_succ _), rfl, own_any (own_far5 ho hlt) hbw.size⟩

/-- Do, as the laws call it. -/
theorem do_law {B p : Nat} {v : Value} {Z : List SZ} {c k m : Int} {nm pt : ByteArray} {ka : Option Addr} {kn kc : Nat} {ks : List ByteArray} {w : World} (h : Cat B p v Z w) (hB : B ≤ w.heap.size) (hI : Inv (Z.map snapOf)) (hl : Z.length ≤ 64) (hnm : nm.size ≤ 100000) (hpt : pt.size ≤ 100000) (hk : KeysAt w ka kn kc ks) (h9 : k ≠ 9 ∨ may ⟨c, 1, k, m, nm, pt, ks⟩ = false) :
    Calls Tryz.prog 9 #[.pointer (some ⟨p, 0, none⟩), .int .i64 c, opV k nm pt ka kn kc m] w fun e w' => ∃ (y : An) (v' : Value) (Z' : List SZ), e = .returned y.val ∧ Hid (Next B p v Z w v' Z' w') ∧ Hid (Z'.map snapOf = (step (Z.map snapOf) ⟨c, 1, k, m, nm, pt, ks⟩).2 ∧ Inv (Z'.map snapOf)) ∧ Hid (AnsV w.heap.size (step (Z.map snapOf) ⟨c, 1, k, m, nm, pt, ks⟩).1 (.returned y.val) w') := by
  refine (do_any h hB hI hl hnm hpt hk h9).mono ?_
  intro e w' hm
  obtain ⟨y, rfl⟩ := mid_an hm
  obtain ⟨v', Z', hN, hZ, hA⟩ := hm
  exact ⟨y, v', Z', rfl, hN, ⟨hZ, by rw [hZ]; exact step_inv hI⟩, hA⟩
end Go.Proofs.YtlpgdfdadkljfaaGreat.Cat
