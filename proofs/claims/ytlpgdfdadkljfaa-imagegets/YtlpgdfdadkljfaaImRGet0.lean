/-
  The answer's reader against the plain one: alike as long as nothing is bad; a value that is being read, in a box of its own.
-/
import Derived.Test.YtlpgdfdadkljfaaImRMath
import Derived.Test.YtlpgdfdadkljfaaImRRead
import Derived.Test.YtlpgdfdadkljfaaImGet
namespace Go.Proofs.Ytlpgdfdadkljfaa.Img
open Go.RowKit Route Tree Order Cat

/-- Two readers' places, alike as long as nothing is bad. -/
def Al (s t : St) : Prop := t.2 = s.2 ∧ (s.2 = false → t.1 = s.1)
theorem Al.refl (s : St) : Al s s := ⟨rfl, fun _ => rfl⟩
theorem Al.bad (x y : Nat) : Al (x, true) (y, true) := ⟨rfl, fun h => by cases h⟩
theorem Al.nm {l : List UInt8} {m : Nat} {s t : St} (h : Al s t) : (num l m t.1 t.2).1 = (num l m s.1 s.2).1 ∧ Al (num l m s.1 s.2).2 (num l m t.1 t.2).2 := by
  obtain ⟨x, f⟩ := s
  obtain ⟨y, g⟩ := t
  obtain ⟨h1, h2⟩ := h
  simp only at h1 h2
  subst h1
  cases g with
  | false => have := h2 rfl; subst this; exact ⟨rfl, Al.refl _⟩
  | true => exact ⟨rfl, Al.bad _ _⟩
theorem Al.tx {l : List UInt8} {s t : St} (h : Al s t) : (tex2 l t.1 t.2).1 = (tex l 4096 s.1 s.2).1 ∧ Al (tex l 4096 s.1 s.2).2 (tex2 l t.1 t.2).2 := by
  obtain ⟨x, f⟩ := s
  obtain ⟨y, g⟩ := t
  obtain ⟨h1, h2⟩ := h
  simp only at h1 h2
  subst h1
  cases g with
  | true => exact ⟨rfl, Al.bad _ _⟩
  | false =>
    have := h2 rfl
    subst this
    simp only
    unfold tex2 tex px
    cases hp : pn l 4096 y with
    | none => exact ⟨rfl, Al.bad _ _⟩
    | some v =>
      obtain ⟨n, q⟩ := v
      simp only
      by_cases hc : l.length < q + n
      · rw [if_pos hc, if_pos hc]; exact ⟨rfl, Al.bad _ _⟩
      · rw [if_neg hc, if_neg hc]; exact ⟨rfl, Al.refl _⟩

theorem Rds.bad {l : List UInt8} {s s2 : St} {e : List UInt8} (h : Rds l s s2 e) (h0 : s.1 ≤ l.length) (hb : s.2 = true) : s2.2 = true := by
  cases hs : s2.2 with
  | true => rfl
  | false => have := ((h h0).2 hs).1; rw [hb] at this; cases this
theorem texsQ_bad {l : List UInt8} {m k : Nat} {s : St} (h0 : s.1 ≤ l.length) (hb : s.2 = true) : (texs l m k s.1 s.2).2.2 = true := Rds.bad (texs_rds l m k s) h0 hb
theorem entsQ_bad {l : List UInt8} {k : Nat} {s : St} (h0 : s.1 ≤ l.length) (hb : s.2 = true) : (entsQ l k s).2.2 = true := Rds.bad (entsQ_rds l k s) h0 hb
theorem snapsQ_bad {l : List UInt8} {k : Nat} {s : St} (h0 : s.1 ≤ l.length) (hb : s.2 = true) : (snapsQ l k s).2.2 = true := Rds.bad (snapsQ_rds l k s h0) h0 hb
theorem entsQ_step (l : List UInt8) (k : Nat) (s : St) : entsQ l (k + 1) s = ((entQ l s).1 :: (entsQ l k (entQ l s).2).1, (entsQ l k (entQ l s).2).2) := rfl
theorem snapsQ_step (l : List UInt8) (k : Nat) (s : St) : snapsQ l (k + 1) s = ((snapQ l s).1 :: (snapsQ l k (snapQ l s).2).1, (snapsQ l k (snapQ l s).2).2) := rfl

/-- What has been read of a row so far: R is all of it, Y what was read, r the rest, s where the plain reader stands, (x, f) where the answer's does. -/
structure Far {α : Type} (l : List UInt8) (R : List α × St) (Y : List α) (r : List α × St) (s : St) (x : Nat) (f : Bool) : Prop where
  le : s.1 ≤ l.length
  al : Al s (x, f)
  st : R.2 = r.2
  row : f = false → R.1 = Y ++ r.1

theorem Far.texs {l : List UInt8} {m K j : Nat} {q s : St} {Y : List ByteArray} {x : Nat} {f : Bool} (h : Far l (Order.texs l m K q.1 q.2) Y (Order.texs l m (K - j) s.1 s.2) s x f) (hx : f = true ∨ j = K) :
    Al (Order.texs l m K q.1 q.2).2 (x, f) ∧ (f = false → (Order.texs l m K q.1 q.2).1 = Y) := by
  have h1 := h.al
  cases f with
  | true =>
    have hb : (Order.texs l m K q.1 q.2).2.2 = true := by rw [h.st]; exact texsQ_bad h.le h1.1.symm
    exact ⟨⟨hb.symm, fun e => by rw [hb] at e; cases e⟩, fun e => by cases e⟩
  | false =>
    have hj : K - j = 0 := by rcases hx with hx | hx; cases hx; omega
    have h2 := h.st
    have h3 := h.row rfl
    rw [hj] at h2 h3
    exact ⟨by rw [h2]; exact h1, fun _ => by rw [h3]; exact List.append_nil _⟩
theorem Far.ents {l : List UInt8} {K j : Nat} {q s : St} {Y : List Ent} {x : Nat} {f : Bool} (h : Far l (entsQ l K q) Y (entsQ l (K - j) s) s x f) (hx : f = true ∨ j = K) :
    Al (entsQ l K q).2 (x, f) ∧ (f = false → (entsQ l K q).1 = Y) := by
  have h1 := h.al
  cases f with
  | true =>
    have hb : (entsQ l K q).2.2 = true := by rw [h.st]; exact entsQ_bad h.le h1.1.symm
    exact ⟨⟨hb.symm, fun e => by rw [hb] at e; cases e⟩, fun e => by cases e⟩
  | false =>
    have hj : K - j = 0 := by rcases hx with hx | hx; cases hx; omega
    have h2 := h.st
    have h3 := h.row rfl
    rw [hj] at h2 h3
    exact ⟨by rw [h2]; exact h1, fun _ => by rw [h3]; exact List.append_nil _⟩
theorem Far.snaps {l : List UInt8} {K j : Nat} {q s : St} {Y : List Snap} {x : Nat} {f : Bool} (h : Far l (snapsQ l K q) Y (snapsQ l (K - j) s) s x f) (hx : f = true ∨ j = K) :
    Al (snapsQ l K q).2 (x, f) ∧ (f = false → (snapsQ l K q).1 = Y) := by
  have h1 := h.al
  cases f with
  | true =>
    have hb : (snapsQ l K q).2.2 = true := by rw [h.st]; exact snapsQ_bad h.le h1.1.symm
    exact ⟨⟨hb.symm, fun e => by rw [hb] at e; cases e⟩, fun e => by cases e⟩
  | false =>
    have hj : K - j = 0 := by rcases hx with hx | hx; cases hx; omega
    have h2 := h.st
    have h3 := h.row rfl
    rw [hj] at h2 h3
    exact ⟨by rw [h2]; exact h1, fun _ => by rw [h3]; exact List.append_nil _⟩

theorem Far.nextT {l : List UInt8} {K j : Nat} {q s : St} {Y : List ByteArray} {x : Nat} (h : Far l (Order.texs l 4096 K q.1 q.2) Y (Order.texs l 4096 (K - j) s.1 s.2) s x false) (hj : j < K) :
    Far l (Order.texs l 4096 K q.1 q.2) (Y ++ [(tex2 l x false).1]) (Order.texs l 4096 (K - (j + 1)) (tex l 4096 s.1 s.2).2.1 (tex l 4096 s.1 s.2).2.2) (tex l 4096 s.1 s.2).2 (tex2 l x false).2.1 (tex2 l x false).2.2 := by
  have ha := Al.tx (l := l) h.al
  simp only at ha
  have e1 : K - j = (K - (j + 1)) + 1 := by omega
  have h2 := h.st
  have h3 := h.row rfl
  rw [e1, texs_step] at h2 h3
  exact ⟨(tex_rds l 4096 s h.le).1, ha.2, h2, fun _ => by rw [h3, ha.1]; simp⟩
theorem Far.nextE {l : List UInt8} {K j : Nat} {q s : St} {Y : List Ent} {x x' : Nat} {f' : Bool} {z : Ent} (h : Far l (entsQ l K q) Y (entsQ l (K - j) s) s x false) (hj : j < K) (h1 : Al (entQ l s).2 (x', f')) (hz : f' = false → (entQ l s).1 = z) :
    Far l (entsQ l K q) (Y ++ [z]) (entsQ l (K - (j + 1)) (entQ l s).2) (entQ l s).2 x' f' := by
  have e1 : K - j = (K - (j + 1)) + 1 := by omega
  have h2 := h.st
  have h3 := h.row rfl
  rw [e1, entsQ_step] at h2 h3
  exact ⟨(entQ_rds l s h.le).1, h1, h2, fun e => by rw [h3, hz e]; simp⟩
theorem Far.nextS {l : List UInt8} {K j : Nat} {q s : St} {Y : List Snap} {x x' : Nat} {f' : Bool} {z : Snap} (h : Far l (snapsQ l K q) Y (snapsQ l (K - j) s) s x false) (hj : j < K) (h1 : Al (snapQ l s).2 (x', f')) (hz : f' = false → (snapQ l s).1 = z) :
    Far l (snapsQ l K q) (Y ++ [z]) (snapsQ l (K - (j + 1)) (snapQ l s).2) (snapQ l s).2 x' f' := by
  have e1 : K - j = (K - (j + 1)) + 1 := by omega
  have h2 := h.st
  have h3 := h.row rfl
  rw [e1, snapsQ_step] at h2 h3
  exact ⟨(snapQ_rds l s h.le h.le).1, h1, h2, fun e => by rw [h3, hz e]; simp⟩

/-- An entry's head, as the answer's reader has it. -/
theorem entQ_head {l : List UInt8} {s : St} {x : Nat} {f : Bool} (h : Al s (x, f)) (hs : s.1 ≤ l.length) {A : ByteArray × Nat × Bool} {C J : Nat × Nat × Bool} (hA : tex2 l x f = A) (hC : num l 65536 A.2.1 A.2.2 = C) (hJ : num l 65536 C.2.1 C.2.2 = J) :
    ∃ q : St, q.1 ≤ l.length ∧ Al q J.2 ∧ J.1 ≤ 65536 ∧ entQ l s = ((A.1, (C.1 : Int), (Order.texs l 4096 J.1 q.1 q.2).1), (Order.texs l 4096 J.1 q.1 q.2).2) := by
  have a1 := Al.tx (l := l) h
  rw [show tex2 l (x, f).1 (x, f).2 = A from hA] at a1
  have g1 := (tex_le (m := 4096) (f := s.2) hs).2
  have a2 := Al.nm (l := l) (m := 65536) a1.2
  rw [hC] at a2
  have g2 := (num_le (m := 65536) (f := (tex l 4096 s.1 s.2).2.2) g1).2
  have a3 := Al.nm (l := l) (m := 65536) a2.2
  rw [hJ] at a3
  have g3 := num_le (m := 65536) (f := (num l 65536 (tex l 4096 s.1 s.2).2.1 (tex l 4096 s.1 s.2).2.2).2.2) g2
  refine ⟨_, g3.2, a3.2, by rw [a3.1]; exact g3.1, ?_⟩
  unfold entQ
  simp only
  rw [a1.1, a2.1, a3.1]
/-- A snapshot's head. -/
theorem snapQ_head {l : List UInt8} {s : St} {x : Nat} {f : Bool} (h : Al s (x, f)) (hs : s.1 ≤ l.length) {A D J : Nat × Nat × Bool} {C : ByteArray × Nat × Bool} (hA : num l 65536 x f = A) (hC : tex2 l A.2.1 A.2.2 = C) (hD : num l 1 C.2.1 C.2.2 = D) (hJ : num l 65536 D.2.1 D.2.2 = J) :
    ∃ q : St, q.1 ≤ l.length ∧ Al q J.2 ∧ (J.1 ≤ 65536 ∧ D.1 ≤ 1) ∧ snapQ l s = (((A.1 : Int), C.1, decide (D.1 = 1), (entsQ l J.1 q).1), (entsQ l J.1 q).2) := by
  have a1 := Al.nm (l := l) (m := 65536) h
  rw [show num l 65536 (x, f).1 (x, f).2 = A from hA] at a1
  have g1 := (num_le (m := 65536) (f := s.2) hs).2
  have a2 := Al.tx (l := l) a1.2
  rw [hC] at a2
  have g2 := (tex_le (m := 4096) (f := (num l 65536 s.1 s.2).2.2) g1).2
  have a3 := Al.nm (l := l) (m := 1) a2.2
  rw [hD] at a3
  have g3 := num_le (m := 1) (f := (tex l 4096 (num l 65536 s.1 s.2).2.1 (num l 65536 s.1 s.2).2.2).2.2) g2
  have a4 := Al.nm (l := l) (m := 65536) a3.2
  rw [hJ] at a4
  have g4 := num_le (m := 65536) (f := (num l 1 (tex l 4096 (num l 65536 s.1 s.2).2.1 (num l 65536 s.1 s.2).2.2).2.1 (tex l 4096 (num l 65536 s.1 s.2).2.1 (num l 65536 s.1 s.2).2.2).2.2).2.2) g3.2
  refine ⟨_, g4.2, a4.2, ⟨by rw [a4.1]; exact g4.1, by rw [a3.1]; exact g3.1⟩, ?_⟩
  unfold snapQ
  simp only
  rw [a1.1, a2.1, a3.1, a4.1]

/-- A value that is being read into the box qb; rows from B on. -/
structure Sv (te : TypeId) (w W : World) (p qb B : Nat) (a : Option Addr) (n cap : Nat) (l : List UInt8) (x : Nat) (f : Bool) (cs : Array Value) : Prop where
  pw : p < w.heap.size
  q1 : w.heap.size ≤ qb
  qB : qb < B
  rd : Rd 70 W p a n cap l x f
  tn : Tn p w W
  box : W.heap[qb]? = some (.cells cs te (0, 0))
  big : B ≤ W.heap.size

section
variable {te : TypeId} {w W W' : World} {p qb B : Nat} {a : Option Addr} {n cap : Nat} {l : List UInt8} {x : Nat} {f : Bool} {cs : Array Value}

theorem Sv.start (h : Rd 70 w p a n cap l x f) (cs : Array Value) (te : TypeId) : Sv te w (w.alloc (.cells cs te)) p w.heap.size (w.heap.size + 1) a n cap l x f cs := by
  have hb1 : Below w.heap.size w (w.alloc (.cells cs te)) := (Below.refl _ _).alloc (Nat.le_refl _) _
  exact ⟨h.lt, Nat.le_refl _, Nat.lt_succ_self _, h.below hb1, Tn.of hb1, heap_alloc_new w _, by simp⟩
theorem Sv.step {x' : Nat} {f' : Bool} (h : Sv te w W p qb B a n cap l x f cs) (hr : Rd 70 W' p a n cap l x' f' ∧ Tn p W W') : Sv te w W' p qb B a n cap l x' f' cs := by
  have hb := h.big
  have h1 := h.pw
  have h2 := h.q1
  have h3 := h.qB
  exact ⟨h.pw, h.q1, h.qB, hr.1, h.tn.trans hr.2, (hr.2.block qb (by omega) (by omega)).trans h.box, Nat.le_trans hb hr.2.size⟩
theorem Sv.rows (h : Sv te w W p qb B a n cap l x f cs) (ht : Tn p W W') : ∀ g, B ≤ g → g < W.heap.size → W'.heap[g]? = W.heap[g]? := fun g h1 h2 => ht.block g h2 (by have := h.pw; have := h.q1; have := h.qB; omega)
theorem Sv.set (h : Sv te w W p qb B a n cap l x f cs) (i : Nat) (u : Value) {cs' : Array Value} (hc : cs.setIfInBounds i u = cs') : Sv te w (W.setCell ⟨qb, i, none⟩ u) p qb B a n cap l x f cs' := by
  have h1 := h.pw
  have h2 := h.q1
  have ho : ∀ k, k ≠ qb → (W.setCell ⟨qb, i, none⟩ u).heap[k]? = W.heap[k]? := fun k hk => Below.heap_setCell _ _ _ _ hk
  refine ⟨h.pw, h.q1, h.qB, h.rd.keep fun k hk => ho k (by omega), ⟨h.tn.os, h.tn.tape, h.tn.output, by simpa using h.tn.size, fun k hk h1 => (ho k (by omega)).trans (h.tn.block k hk h1)⟩, ?_, by simpa using h.big⟩
  subst hc
  simp [World.setCell, Array.getElem?_modify, h.box]
theorem Sv.setRows (h : Sv te w W p qb B a n cap l x f cs) (i : Nat) (u : Value) : ∀ g, B ≤ g → (W.setCell ⟨qb, i, none⟩ u).heap[g]? = W.heap[g]? := fun g hg => Below.heap_setCell _ _ _ _ (by have := h.qB; show g ≠ qb; omega)
theorem Sv.grow (h : Sv te w W p qb B a n cap l x f cs) (o1 : W'.os = W.os) (o2 : W'.tape = W.tape) (o3 : W'.output = W.output) (hs : W.heap.size ≤ W'.heap.size) (hk : ∀ k, k < B → W'.heap[k]? = W.heap[k]?) : Sv te w W' p qb B a n cap l x f cs := by
  have h1 := h.pw
  have h3 := h.qB
  have h5 := h.q1
  exact ⟨h.pw, h.q1, h.qB, h.rd.keep fun k hk' => hk k (by omega), ⟨o1.trans h.tn.os, o2.trans h.tn.tape, o3.trans h.tn.output, Nat.le_trans h.tn.size hs, fun k h1 h2 => (hk k (by omega)).trans (h.tn.block k h1 h2)⟩, (hk qb h3).trans h.box, Nat.le_trans h.big hs⟩
theorem Sv.drew (h : Sv te w W p qb B a n cap l x f cs) : Sv te w W.drew p qb B a n cap l x f cs :=
  h.step ⟨h.rd.keep fun _ _ => rfl, ⟨rfl, rfl, rfl, Nat.le_refl _, fun _ _ _ => rfl⟩⟩
theorem Sv.drewN (h : Sv te w W p qb B a n cap l x f cs) (q : Nat) : Sv te w (W.drewN q) p qb B a n cap l x f cs :=
  h.step ⟨h.rd.keep fun _ _ => rfl, ⟨rfl, rfl, rfl, Nat.le_refl _, fun _ _ _ => rfl⟩⟩
end

theorem num_namedQ {w : World} {p : Nat} {a : Option Addr} {n cap : Nat} {l : List UInt8} {x : Nat} {f : Bool} (h : Rd 70 w p a n cap l x f) (hsm : n ≤ 1000000) (m : Nat) (hm : m ≤ 65536) (A : Nat × Nat × Bool) (e : num l m x f = A) :
    Calls Try.prog 30 #[.pointer (some ⟨p, 0, none⟩), .int .u64 (m : Int)] w fun e w' => e = .returned (.int .i64 (A.1 : Int)) ∧ Hid (Rd 70 w' p a n cap l A.2.1 A.2.2 ∧ Tn p w w') := by
  subst e; exact refNum_call h hsm m hm
theorem text_namedQ {w : World} {p : Nat} {a : Option Addr} {n cap : Nat} {l : List UInt8} {x : Nat} {f : Bool} (h : Rd 70 w p a n cap l x f) (hsm : n ≤ 1000000) (A : ByteArray × Nat × Bool) (e : tex2 l x f = A) :
    Calls Try.prog 31 #[.pointer (some ⟨p, 0, none⟩)] w fun e w' => e = .returned (.string A.1) ∧ Hid (Rd 70 w' p a n cap l A.2.1 A.2.2 ∧ Tn p w w') := by
  subst e; exact refText_call h hsm
end Go.Proofs.Ytlpgdfdadkljfaa.Img
