/-
  A deed done in a law: the catalog, what is told and where it lies; what else stays.
-/
import Derived.Test.YtlpgdfdadkljfaaGreatCtLMath
import Derived.Test.YtlpgdfdadkljfaaGreatCtShort
import Derived.Test.YtlpgdfdadkljfaaGreatCtSame
namespace Go.Proofs.YtlpgdfdadkljfaaGreat.Cat
open Go.RowKit Route Tree Order

theorem req_fits {w : World} {a : Option Addr} {kn cap : Nat} {r : Rq} (h : ReqAt w a kn cap r) (hs : ShortR r) : r.nm.size ≤ 100000 ∧ r.pt.size ≤ 100000 ∧ KeysAt w a kn cap r.ks :=
  ⟨by have := hs.1; omega, by have := hs.2.1; omega, h.keys hs⟩

/-- Behind a deed: what the catalog is, and what is told. -/
structure Did (B p : Nat) (v : Value) (Z : List SZ) (r : Rq) (w : World) (y : An) (v' : Value) (Z' : List SZ) (w' : World) : Prop where
  next : Next B p v Z w v' Z' w'
  snaps : Z'.map snapOf = (full (Z.map snapOf) r).2
  inv : Inv (Z'.map snapOf)
  ans : AnsV w.heap.size (full (Z.map snapOf) r).1 (.returned y.val) w'

theorem AnsV.less {B B' : Nat} {x : Ans} {e : Ending} {w : World} (h : AnsV B x e w) (hb : B' ≤ B) : AnsV B' x e w := by
  obtain ⟨nv, kv, ev, Y, he, h1, h2, h3, h4⟩ := h
  exact ⟨nv, kv, ev, Y, he, own_any h1 hb, own_any h2 hb, h3, h4.less hb⟩

theorem Did.ahead {B p : Nat} {v v' : Value} {Z Z' : List SZ} {r : Rq} {w W w' : World} {y : An} (hb : Below w.heap.size w W) (h : Did B p v Z r W y v' Z' w') : Did B p v Z r w y v' Z' w' :=
  ⟨h.next.ahead hb, h.snaps, h.inv, h.ans.less hb.size⟩

theorem own_kind {w w' : World} {B e s n r : Nat} {v : Value} {us : List Value} {cs : Array Value} {T : TypeId} (h : w.ownsRow B e s v n us) (hr : w.heap[r]? = some (.cells cs T (0, 0))) (hT : T ≠ e) (hk : ∀ k, k < w.heap.size → k ≠ r → w'.heap[k]? = w.heap[k]?) : w'.ownsRow B e s v n us :=
  own_keep h fun g hg => by
    obtain ⟨c, hc⟩ := own_block h hg
    refine hk g (Array.getElem?_eq_some_iff.1 hc).1 fun e1 => ?_
    rw [e1, hr] at hc
    simp at hc
    exact hT hc.2

theorem put_far (y : An) (W : World) (r : Nat) : (∀ k, k ≠ r → (y.put W r).heap[k]? = W.heap[k]?) ∧ (y.put W r).heap.size = W.heap.size := by
  obtain ⟨h0, s0, _⟩ := heap_setCell (w := W) (r := r) (i := 0) (x := .int .i64 y.a)
  obtain ⟨h1, s1, _⟩ := heap_setCell (w := W.setCell ⟨r, 0, none⟩ (.int .i64 y.a)) (r := r) (i := 1) (x := .int .i64 y.b)
  obtain ⟨h2, s2, _⟩ := heap_setCell (w := (W.setCell ⟨r, 0, none⟩ (.int .i64 y.a)).setCell ⟨r, 1, none⟩ (.int .i64 y.b)) (r := r) (i := 2) (x := .slice y.s2 y.n2 y.c2)
  obtain ⟨h3, s3, _⟩ := heap_setCell (w := ((W.setCell ⟨r, 0, none⟩ (.int .i64 y.a)).setCell ⟨r, 1, none⟩ (.int .i64 y.b)).setCell ⟨r, 2, none⟩ (.slice y.s2 y.n2 y.c2)) (r := r) (i := 3) (x := .slice y.s3 y.n3 y.c3)
  obtain ⟨h4, s4, _⟩ := heap_setCell (w := (((W.setCell ⟨r, 0, none⟩ (.int .i64 y.a)).setCell ⟨r, 1, none⟩ (.int .i64 y.b)).setCell ⟨r, 2, none⟩ (.slice y.s2 y.n2 y.c2)).setCell ⟨r, 3, none⟩ (.slice y.s3 y.n3 y.c3)) (r := r) (i := 4) (x := .slice y.s4 y.n4 y.c4)
  exact ⟨fun k hk => (h4 k hk).trans ((h3 k hk).trans ((h2 k hk).trans ((h1 k hk).trans (h0 k hk)))), s4.trans (s3.trans (s2.trans (s1.trans s0)))⟩

/-- The answer's box. -/
def ABox (W : World) (r : Nat) (y : An) : Prop := W.heap[r]? = some (.cells #[.int .i64 y.a, .int .i64 y.b, .slice y.s2 y.n2 y.c2, .slice y.s3 y.n3 y.c3, .slice y.s4 y.n4 y.c4] 31 (0, 0))
theorem ABox.cells {W : World} {r : Nat} {y : An} (h : ABox W r y) : W.cell? ⟨r, 0, none⟩ = some (.int .i64 y.a) ∧ W.cell? ⟨r, 1, none⟩ = some (.int .i64 y.b) ∧ W.cell? ⟨r, 2, none⟩ = some (.slice y.s2 y.n2 y.c2) ∧ W.cell? ⟨r, 3, none⟩ = some (.slice y.s3 y.n3 y.c3) ∧ W.cell? ⟨r, 4, none⟩ = some (.slice y.s4 y.n4 y.c4) := by
  unfold ABox at h
  simp [World.cell?, h]
theorem ABox.below {W W' : World} {r : Nat} {y : An} (h : ABox W r y) (hb : Below W.heap.size W W') : ABox W' r y :=
  (hb.block r (Array.getElem?_eq_some_iff.1 h).1).trans h

theorem put_box {y : An} {W : World} {r : Nat} {x0 x1 x2 x3 x4 : Value} (h : W.heap[r]? = some (.cells #[x0, x1, x2, x3, x4] 31 (0, 0))) : ABox (y.put W r) r y := by
  unfold ABox
  simp [World.setCell, Array.getElem?_modify, h]

/-- The answer put into a box that is there. -/
theorem Did.put {B p : Nat} {v v' : Value} {Z Z' : List SZ} {q : Rq} {w W : World} {y : An} {r : Nat} {x0 x1 x2 x3 x4 : Value} (h : Did B p v Z q w y v' Z' W) (hr : W.heap[r]? = some (.cells #[x0, x1, x2, x3, x4] 31 (0, 0))) (hw : w.heap.size ≤ r) : Did B p v Z q w y v' Z' (y.put W r) ∧ ABox (y.put W r) r y := by
  refine ⟨⟨h.next.res5 hr hw, h.snaps, h.inv, ?_⟩, put_box hr⟩
  obtain ⟨nv, kv, ev, Y, he, h1, h2, h3, h4⟩ := h.ans
  have hk := fun k (_ : k < W.heap.size) => (put_far y W r).1 k
  exact ⟨nv, kv, ev, Y, he, own_kind h1 hr (by decide) hk, own_kind h2 hr (by decide) hk, h3, own_kind h4.1 hr (by decide) hk, fun z hz => own_kind (h4.2 z hz) hr (by decide) hk⟩

theorem Did.below {B p : Nat} {v v' : Value} {Z Z' : List SZ} {q : Rq} {w W W' : World} {y : An} (h : Did B p v Z q w y v' Z' W) (hb : Below W.heap.size W W') : Did B p v Z q w y v' Z' W' := by
  refine ⟨h.next.below hb, h.snaps, h.inv, ?_⟩
  obtain ⟨nv, kv, ev, Y, he, h1, h2, h3, h4⟩ := h.ans
  exact ⟨nv, kv, ev, Y, he, own30_later h1 hb, own30_later h2 hb, h3, own30_later h4.1 hb, fun z hz => own30_later (h4.2 z hz) hb⟩

/-- The answer put into a box of its own. -/
theorem Did.box {B p : Nat} {v v' : Value} {Z Z' : List SZ} {q : Rq} {w W : World} {y : An} (h : Did B p v Z q w y v' Z' W) : Did B p v Z q w y v' Z' (y.put (W.alloc zero30) W.heap.size) ∧ ABox (y.put (W.alloc zero30) W.heap.size) W.heap.size y :=
  (h.below ((Below.refl _ _).alloc (Nat.le_refl _) _)).put (heap_alloc_new W _) h.next.turn.size

/-- The answer as a whole, laid into a new box. -/
theorem Did.lay {B p : Nat} {v v' : Value} {Z Z' : List SZ} {q : Rq} {w W : World} {y : An} (h : Did B p v Z q w y v' Z' W) : Did B p v Z q w y v' Z' (W.alloc (.cells #[.int .i64 y.a, .int .i64 y.b, .slice y.s2 y.n2 y.c2, .slice y.s3 y.n3 y.c3, .slice y.s4 y.n4 y.c4] 31)) ∧ ABox (W.alloc (.cells #[.int .i64 y.a, .int .i64 y.b, .slice y.s2 y.n2 y.c2, .slice y.s3 y.n3 y.c3, .slice y.s4 y.n4 y.c4] 31)) W.heap.size y :=
  ⟨h.below ((Below.refl _ _).alloc (Nat.le_refl _) _), heap_alloc_new W _⟩

theorem box_res {W : World} {r : Nat} {x0 x1 x2 x3 x4 : Value} {T : TypeId} (h : W.heap[r]? = some (.cells #[x0, x1, x2, x3, x4] T (0, 0))) : (W.cell? ⟨r, 0, none⟩ = some x0 ∧ W.cell? ⟨r, 1, none⟩ = some x1 ∧ W.cell? ⟨r, 2, none⟩ = some x2 ∧ W.cell? ⟨r, 3, none⟩ = some x3 ∧ W.cell? ⟨r, 4, none⟩ = some x4) ∧ ∀ i, W.frozen? ⟨r, i, none⟩ = false :=
  ⟨⟨by simp [World.cell?, h], by simp [World.cell?, h], by simp [World.cell?, h], by simp [World.cell?, h], by simp [World.cell?, h]⟩, fun i => by simp [World.frozen?, h]⟩

/-- What an answer's cells are. -/
theorem AnsV.parts {B : Nat} {x : Ans} {y : An} {w : World} (h : AnsV B x (.returned y.val) w) : y.a = (x.code : Int) ∧ y.b = x.n ∧ y.n2 = x.names.length ∧ y.n3 = x.keys.length ∧ y.n4 = x.ents.length ∧ w.ownsRow B 9 1 (.slice y.s2 y.n2 y.c2) x.names.length (sv x.names) ∧ w.ownsRow B 9 1 (.slice y.s3 y.n3 y.c3) x.keys.length (sv x.keys) ∧ ∃ Y, Y.map (·.1) = x.ents ∧ EOwn B (.slice y.s4 y.n4 y.c4) Y w := by
  obtain ⟨nv, kv, ev, Y, he, h1, h2, h3, h4⟩ := h
  simp only [An.val, Ending.returned.injEq, Value.agg.injEq, Array.mk.injEq, List.cons.injEq, Value.int.injEq, true_and, and_true] at he
  obtain ⟨e1, e2, rfl, rfl, rfl⟩ := he
  have own_len : ∀ {e s m : Nat} {u : List Value} {sa : Option Addr} {sn sc : Nat}, w.ownsRow B e s (.slice sa sn sc) m u → sn = m := fun {e s m u sa sn sc} ho => by
    rcases ho.2 with ⟨e, h0⟩ | ⟨g, cap, cur, e, _⟩
    · simp only [Value.slice.injEq] at e; omega
    · simp only [Value.slice.injEq] at e; exact e.2.1
  have hY : Y.length = x.ents.length := by rw [← h3]; simp
  exact ⟨e1, e2, own_len h1, own_len h2, (own_len h4.1).trans hY, h1, h2, Y, h3, h4⟩

/-- Do of a deed that lies ahead, as a drawn region calls it. -/
theorem did_any {B p : Nat} {v : Value} {Z : List SZ} {c k m : Int} {nm pt : ByteArray} {ka : Option Addr} {kn kc : Nat} {ks : List ByteArray} {w : World} (h : Cat B p v Z w) (hB : B ≤ w.heap.size) (hI : Inv (Z.map snapOf)) (hnm : nm.size ≤ 100000) (hpt : pt.size ≤ 100000) (hk : KeysAt w ka kn kc ks) {W : World} (hb : Below w.heap.size w W) :
    Calls Tryz.prog 9 #[.pointer (some ⟨p, 0, none⟩), .int .i64 c, .agg #[.int .i64 k, .string nm, .string pt, .slice ka kn kc, .int .i64 m]] W fun e w' => ∃ (y : An) (v' : Value) (Z' : List SZ), e = .returned (.agg #[.int .i64 y.a, .int .i64 y.b, .slice y.s2 y.n2 y.c2, .slice y.s3 y.n3 y.c3, .slice y.s4 y.n4 y.c4]) ∧ Hid (Next B p v Z W v' Z' w') ∧ Hid (Did B p v Z ⟨c, 1, k, m, nm, pt, ks⟩ w y v' Z' w') := by
  refine (do_full (h.below hb) (Nat.le_trans hB hb.size) hI hnm hpt (hk.below hb)).mono ?_
  rintro e w' ⟨y, v', Z', rfl, hN, hZ, hA⟩
  exact ⟨y, v', Z', rfl, hN.out, Did.ahead hb ⟨hN.out, hZ.out.1, hZ.out.2, hA.out⟩⟩

/-- What a box of another kind reads behind an operation. -/
theorem Next.cellAt {B p : Nat} {v v' : Value} {Z Z' : List SZ} {w w' : World} (h : Cat B p v Z w) (hN : Next B p v Z w v' Z' w') {k : Nat} {c : Array Value} {T : TypeId} {f : Nat × Nat} (hk : w.heap[k]? = some (.cells c T f)) (h1 : T ≠ 56) (h2 : T ≠ 71) (h3 : T ≠ 84) : w'.heap[k]? = some (.cells c T f) := (hN.stay h hk h1 h2 h3).trans hk

/-- A catalog stays where another one's operation turns none of its blocks. -/
theorem Cat.beside {B p : Nat} {v : Value} {Z : List SZ} {w w' : World} {B2 p2 : Nat} {v2 v2' : Value} {Z2 Z2' : List SZ} (h : Cat B p v Z w) (hc : Cat B2 p2 v2 Z2 w) (hN : Next B2 p2 v2 Z2 w v2' Z2' w') (hd : ∀ k, Owns p v Z k → ¬ Owns p2 v2 Z2 k) : Cat B p v Z w' := by
  have hk : ∀ k, Owns p v Z k → w'.heap[k]? = w.heap[k]? := fun k ho => hN.turn.block k (h.owns ho).2 (hd k ho)
  exact ⟨(hk p (.inl rfl)).trans h.box, h.low, own_keep h.row fun g hg => hk g (.inr (.inl hg)), fun z hz => ⟨own_keep (h.ents z hz).1 fun g hg => hk g (.inr (.inr ⟨z, hz, hg⟩)), fun y hy => hN.keep hc ((h.ents z hz).2 y hy) (by decide) (by decide) (by decide)⟩, h.apart⟩

/-- Rows of snapshots that lie behind a catalog's blocks stay. -/
theorem SRow.beside {B0 : Nat} {v0 : Value} {Z0 : List SZ} {w w' : World} {B p : Nat} {v v' : Value} {Z Z' : List SZ} (h : SRow B0 v0 Z0 w) (hc : Cat B p v Z w) (hN : Next B p v Z w v' Z' w') (hd : ∀ k, Owns p v Z k → k < B0) : SRow B0 v0 Z0 w' := by
  have hk : ∀ {e s n : Nat} {u : Value} {us : List Value}, w.ownsRow B0 e s u n us → w'.ownsRow B0 e s u n us := fun {e s n u us} ho => own_keep ho fun g hg => hN.turn.block g (ho.lt g hg).2 fun hw => by
    have h1 := hd g hw
    have h2 := (ho.lt g hg).1
    omega
  exact ⟨hk h.own, fun z hz => ⟨hk (h.ents z hz).1, fun y hy => hN.keep hc ((h.ents z hz).2 y hy) (by decide) (by decide) (by decide)⟩, h.apart⟩

/-- What was told lies behind a catalog's blocks, and stays. -/
theorem AnsV.beside {B0 : Nat} {x : Ans} {e : Ending} {w w' : World} {B p : Nat} {v v' : Value} {Z Z' : List SZ} (h : AnsV B0 x e w) (hN : Next B p v Z w v' Z' w') (hd : ∀ k, Owns p v Z k → k < B0) : AnsV B0 x e w' := by
  obtain ⟨nv, kv, ev, Y, he, h1, h2, h3, h4⟩ := h
  have hk : ∀ {e s n : Nat} {u : Value} {us : List Value}, w.ownsRow B0 e s u n us → w'.ownsRow B0 e s u n us := fun {e s n u us} ho => own_keep ho fun g hg => hN.turn.block g (ho.lt g hg).2 fun hw => by
    have h1 := hd g hw
    have h2 := (ho.lt g hg).1
    omega
  exact ⟨nv, kv, ev, Y, he, hk h1, hk h2, h3, hk h4.1, fun y hy => hk (h4.2 y hy)⟩

theorem SRow.sees {B : Nat} {v : Value} {Z : List SZ} {w : World} (h : SRow B v Z w) : ∃ a cap, v = .slice a Z.length cap ∧ LiesN w a (Z.map snapOf) := by
  obtain ⟨a, cap, h1, _, _, _, h2⟩ := rows_see h.own h.ents
  exact ⟨a, cap, h1, h2⟩

theorem Inv.few {S : List Snap} (h : Inv S) : ∀ s ∈ S, SFew s := inv_few fun s hs => ⟨by have := (treeL_iff.1 (h.tree s hs)).1; omega, fun e he => by have := (h.ents s hs e he).2.1; omega⟩
theorem Inv.short {S : List Snap} (h : Inv S) : ∀ s ∈ S, SShort s := fun s hs => ⟨by have := part_size (h.name s hs); omega, by have := (treeL_iff.1 (h.tree s hs)).1; omega, fun e he => EOk.short (h.ents s hs e he)⟩
end Go.Proofs.YtlpgdfdadkljfaaGreat.Cat
