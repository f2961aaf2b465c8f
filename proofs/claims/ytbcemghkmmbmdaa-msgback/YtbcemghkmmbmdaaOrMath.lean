/-
  Requests as bytes, in plain mathematics: their bytes, what reads them, and that this gives them back.
-/
import Derived.Test.YtbcemghkmmbmdaaMath
import Derived.Test.YtbcemghkmmbmdaaRtStrs

namespace Go.Proofs.Ytbcemghkmmbmdaa.Order
open Route

/-- A request. -/
structure Rq where
  c : Int
  t : Int
  k : Int
  n : Int
  nm : ByteArray
  pt : ByteArray
  ks : List ByteArray

def txt (s : ByteArray) : List UInt8 := digs s.size ++ s.data.toList
def txts : List ByteArray → List UInt8
  | [] => []
  | s :: r => txt s ++ txts r
/-- A request's bytes. -/
def enc (r : Rq) : List UInt8 := digs r.c.toNat ++ (digs r.t.toNat ++ (digs r.k.toNat ++ (digs r.n.toNat ++ (txt r.nm ++ (txt r.pt ++ (digs r.ks.length ++ txts r.ks))))))

theorem txts_snoc (l : List ByteArray) (s : ByteArray) : txts (l ++ [s]) = txts l ++ txt s := by
  induction l with
  | nil => simp [txts]
  | cons a r ih => simp [txts, ih]

/-- A number, read at a place: it, and where it ends. -/
def pn (l : List UInt8) (m p : Nat) : Option (Nat × Nat) :=
  if (rd 0 0 (l.drop p)).2 = 0 ∨ m < (rd 0 0 (l.drop p)).1 then none else some ((rd 0 0 (l.drop p)).1, p + (rd 0 0 (l.drop p)).2)
/-- A text, read at a place. -/
def px (l : List UInt8) (m p : Nat) : Option (ByteArray × Nat) :=
  match pn l m p with
  | none => none
  | some (n, q) => if l.length < q + n then none else some (⟨((l.drop q).take n).toArray⟩, q + n)

/-- What a reader that stands at p, and has failed or not, tells of a number; and where it stands then. -/
def num (l : List UInt8) (m p : Nat) (f : Bool) : Nat × Nat × Bool :=
  match f, pn l m p with
  | true, _ => (0, p, true)
  | false, none => (0, p, true)
  | false, some (n, q) => (n, q, false)
def tex (l : List UInt8) (m p : Nat) (f : Bool) : ByteArray × Nat × Bool :=
  match f, px l m p with
  | true, _ => (ByteArray.empty, p, true)
  | false, none => (ByteArray.empty, p, true)
  | false, some (n, q) => (n, q, false)
def texs (l : List UInt8) (m : Nat) : Nat → Nat → Bool → List ByteArray × Nat × Bool
  | 0, p, f => ([], p, f)
  | k + 1, p, f => ((tex l m p f).1 :: (texs l m k (tex l m p f).2.1 (tex l m p f).2.2).1, (texs l m k (tex l m p f).2.1 (tex l m p f).2.2).2)

theorem pn_le {l : List UInt8} {m p n q : Nat} (hp : p ≤ l.length) (h : pn l m p = some (n, q)) :
    n ≤ m ∧ n < 18446744073709551616 ∧ q = p + (digs n).length ∧ l.drop p = digs n ++ l.drop q ∧ q ≤ l.length := by
  unfold pn at h
  split at h
  · cases h
  · rename_i hc
    have hz : (rd 0 0 (l.drop p)).2 ≠ 0 := fun e => hc (.inl e)
    obtain ⟨h1, h2, h3⟩ := rd_written (l.drop p) hz
    simp only [Option.some.injEq, Prod.mk.injEq] at h
    obtain ⟨rfl, rfl⟩ := h
    have h4 : l.drop p = digs (rd 0 0 (l.drop p)).1 ++ l.drop (p + (rd 0 0 (l.drop p)).2) := by
      rw [h3, ← List.drop_drop, List.take_append_drop]
    have h5 := congrArg List.length h3
    rw [← h2, List.length_take, List.length_drop] at h5
    exact ⟨by omega, h1, by rw [h2], h4, by omega⟩

theorem pn_read {l : List UInt8} {m p n : Nat} {r : List UInt8} (hn : n ≤ m) (h64 : n < 18446744073709551616) (h : l.drop p = digs n ++ r) : pn l m p = some (n, p + (digs n).length) := by
  have hb := rd_back h64 r
  rw [← h] at hb
  unfold pn
  rw [hb]
  have := digs_pos n
  rw [if_neg (by simp only; omega)]

theorem drop_app {l : List UInt8} {p : Nat} {e r : List UInt8} (h : l.drop p = e ++ r) : l.drop (p + e.length) = r := by
  rw [← List.drop_drop, h]; simp

theorem px_le {l : List UInt8} {m p q : Nat} {s : ByteArray} (hp : p ≤ l.length) (h : px l m p = some (s, q)) :
    s.size ≤ m ∧ q = p + (txt s).length ∧ l.drop p = txt s ++ l.drop q ∧ q ≤ l.length := by
  unfold px at h
  split at h
  · cases h
  · rename_i n q0 e
    obtain ⟨h1, h2, h3, h4, h5⟩ := pn_le hp e
    split at h
    · cases h
    · rename_i hc
      simp only [Option.some.injEq, Prod.mk.injEq] at h
      obtain ⟨rfl, rfl⟩ := h
      have hs : (ByteArray.mk ((l.drop q0).take n).toArray).size = n := by
        show ((l.drop q0).take n).toArray.size = n
        simp only [List.size_toArray, List.length_take, List.length_drop]; omega
      have hd : (ByteArray.mk ((l.drop q0).take n).toArray).data.toList = (l.drop q0).take n := by simp
      refine ⟨by rw [hs]; exact h1, ?_, ?_, by omega⟩
      · unfold txt
        rw [List.length_append, hs, hd, List.length_take, List.length_drop]; omega
      · unfold txt
        rw [hs, hd, List.append_assoc, ← List.drop_drop, List.take_append_drop]; exact h4

theorem mk_text (s : ByteArray) : (⟨s.data.toList.toArray⟩ : ByteArray) = s := by cases s; simp

theorem px_read {l : List UInt8} {m p : Nat} {s : ByteArray} {r : List UInt8} (hs : s.size ≤ m) (h64 : s.size < 18446744073709551616) (h : l.drop p = txt s ++ r) : px l m p = some (s, p + (txt s).length) := by
  have h' : l.drop p = digs s.size ++ (s.data.toList ++ r) := by rw [h, txt, List.append_assoc]
  have e := pn_read hs h64 h'
  have hd := drop_app h'
  have hz : s.data.toList.length = s.size := by simp
  unfold px
  rw [e]
  show (if l.length < p + (digs s.size).length + s.size then none else some ((⟨((l.drop (p + (digs s.size).length)).take s.size).toArray⟩ : ByteArray), p + (digs s.size).length + s.size)) = _
  have hl := congrArg List.length hd
  rw [List.length_append, List.length_drop, hz] at hl
  have hl2 := congrArg List.length h
  have hpos := digs_pos s.size
  rw [List.length_drop, txt, List.length_append, List.length_append] at hl2
  rw [if_neg (by omega), hd, ← hz, List.take_left', mk_text, hz]
  · unfold txt; rw [List.length_append, hz, Nat.add_assoc]
  · rfl

theorem num_ok {l : List UInt8} {m p : Nat} {f : Bool} (h : (num l m p f).2.2 = false) : f = false ∧ pn l m p = some ((num l m p f).1, (num l m p f).2.1) := by
  unfold num at h ⊢
  split at h
  · cases h
  · cases h
  · rename_i n q e; rw [e]; exact ⟨rfl, rfl⟩
theorem tex_ok {l : List UInt8} {m p : Nat} {f : Bool} (h : (tex l m p f).2.2 = false) : f = false ∧ px l m p = some ((tex l m p f).1, (tex l m p f).2.1) := by
  unfold tex at h ⊢
  split at h
  · cases h
  · cases h
  · rename_i n q e; rw [e]; exact ⟨rfl, rfl⟩
theorem num_le {l : List UInt8} {m p : Nat} {f : Bool} (hp : p ≤ l.length) : (num l m p f).1 ≤ m ∧ (num l m p f).2.1 ≤ l.length := by
  unfold num
  split
  · exact ⟨Nat.zero_le _, hp⟩
  · exact ⟨Nat.zero_le _, hp⟩
  · rename_i n q e
    have := pn_le hp e
    exact ⟨this.1, this.2.2.2.2⟩
theorem tex_le {l : List UInt8} {m p : Nat} {f : Bool} (hp : p ≤ l.length) : (tex l m p f).1.size ≤ m ∧ (tex l m p f).2.1 ≤ l.length := by
  unfold tex
  split
  · exact ⟨Nat.zero_le _, hp⟩
  · exact ⟨Nat.zero_le _, hp⟩
  · rename_i n q e
    have := px_le hp e
    exact ⟨this.1, this.2.2.2⟩
theorem num_read {l : List UInt8} {m p n : Nat} {r : List UInt8} (hn : n ≤ m) (h64 : n < 18446744073709551616) (h : l.drop p = digs n ++ r) : num l m p false = (n, p + (digs n).length, false) := by
  unfold num; rw [pn_read hn h64 h]
theorem tex_read {l : List UInt8} {m p : Nat} {s : ByteArray} {r : List UInt8} (hs : s.size ≤ m) (h64 : s.size < 18446744073709551616) (h : l.drop p = txt s ++ r) : tex l m p false = (s, p + (txt s).length, false) := by
  unfold tex; rw [px_read hs h64 h]

theorem texs_ok {l : List UInt8} {m : Nat} : ∀ (k p : Nat) (f : Bool), p ≤ l.length → (texs l m k p f).2.2 = false →
    f = false ∧ l.drop p = txts (texs l m k p f).1 ++ l.drop (texs l m k p f).2.1 ∧ (texs l m k p f).2.1 ≤ l.length ∧ (texs l m k p f).1.length = k
  | 0, p, f, hp, h => ⟨h, by simp [texs, txts], hp, rfl⟩
  | k + 1, p, f, hp, h => by
    have hp2 := (tex_le (m := m) (f := f) hp).2
    obtain ⟨h1, h2, h3, h4⟩ := texs_ok k (tex l m p f).2.1 (tex l m p f).2.2 hp2 h
    obtain ⟨g1, g2⟩ := tex_ok h1
    obtain ⟨_, _, g3, _⟩ := px_le hp g2
    refine ⟨g1, ?_, h3, ?_⟩
    · show l.drop p = txt (tex l m p f).1 ++ txts _ ++ _
      rw [List.append_assoc]
      exact g3.trans (congrArg _ h2)
    · show (texs l m k (tex l m p f).2.1 (tex l m p f).2.2).1.length + 1 = k + 1
      rw [h4]
theorem texs_le {l : List UInt8} {m : Nat} : ∀ (k p : Nat) (f : Bool), p ≤ l.length → (texs l m k p f).2.1 ≤ l.length ∧ (texs l m k p f).1.length = k
  | 0, p, f, hp => ⟨hp, rfl⟩
  | k + 1, p, f, hp => by
    have hp2 := (tex_le (m := m) (f := f) hp).2
    obtain ⟨h1, h2⟩ := texs_le k (tex l m p f).2.1 (tex l m p f).2.2 hp2
    exact ⟨h1, by show _ + 1 = k + 1; rw [h2]⟩
theorem texs_bad {l : List UInt8} {m : Nat} : ∀ (k p : Nat), (texs l m k p true).2.2 = true
  | 0, _ => rfl
  | k + 1, p => by
    show (texs l m k (tex l m p true).2.1 (tex l m p true).2.2).2.2 = true
    exact texs_bad k _
theorem texs_read {l : List UInt8} {m : Nat} : ∀ (ks : List ByteArray) (p : Nat) (r : List UInt8), (∀ s ∈ ks, s.size ≤ m) → m < 18446744073709551616 → l.drop p = txts ks ++ r →
    texs l m ks.length p false = (ks, p + (txts ks).length, false)
  | [], p, r, _, _, _ => by simp [texs, txts]
  | s :: ks, p, r, hs, hm, h => by
    have h' : l.drop p = txt s ++ (txts ks ++ r) := by rw [h, txts, List.append_assoc]
    have hsz := hs s (List.mem_cons_self)
    have e := tex_read hsz (by omega) h'
    have ih := texs_read ks (p + (txt s).length) r (fun x hx => hs x (List.mem_cons_of_mem _ hx)) hm (drop_app h')
    show texs l m (ks.length + 1) p false = _
    unfold texs
    rw [e]
    simp only
    rw [ih]
    simp only [txts, List.length_append, Nat.add_assoc]
/-- One text more at the loop's end. -/
theorem texs_step (l : List UInt8) (m k p : Nat) (f : Bool) : texs l m (k + 1) p f = ((tex l m p f).1 :: (texs l m k (tex l m p f).2.1 (tex l m p f).2.2).1, (texs l m k (tex l m p f).2.1 (tex l m p f).2.2).2) := rfl

/-- What a reader's seven readings, and those of the keys, come to: with the greatest numbers and texts that it takes. -/
def reqOf (l : List UInt8) (m1 m2 m3 m4 m7 m8 : Nat) : Rq × Nat × Bool :=
  let a := num l m1 0 false
  let b := num l m2 a.2.1 a.2.2
  let c := num l m3 b.2.1 b.2.2
  let d := num l m4 c.2.1 c.2.2
  let e := tex l 4096 d.2.1 d.2.2
  let g := tex l 4096 e.2.1 e.2.2
  let h := num l m7 g.2.1 g.2.2
  let i := texs l m8 h.1 h.2.1 h.2.2
  (⟨a.1, b.1, c.1, d.1, e.1, g.1, i.1⟩, i.2)

theorem reqOf_sound {l : List UInt8} {m1 m2 m3 m4 m7 m8 : Nat} (h : (reqOf l m1 m2 m3 m4 m7 m8).2.2 = false) :
    l = enc (reqOf l m1 m2 m3 m4 m7 m8).1 ++ l.drop (reqOf l m1 m2 m3 m4 m7 m8).2.1 := by
  unfold reqOf at h ⊢
  simp only at h ⊢
  generalize ea : num l m1 0 false = a at h ⊢
  generalize eb : num l m2 a.2.1 a.2.2 = b at h ⊢
  generalize ec : num l m3 b.2.1 b.2.2 = c at h ⊢
  generalize ed : num l m4 c.2.1 c.2.2 = d at h ⊢
  generalize ee : tex l 4096 d.2.1 d.2.2 = e at h ⊢
  generalize eg : tex l 4096 e.2.1 e.2.2 = g at h ⊢
  generalize eh : num l m7 g.2.1 g.2.2 = j at h ⊢
  have pa := (num_le (l := l) (m := m1) (p := 0) (f := false) (Nat.zero_le _)).2
  rw [ea] at pa
  have pb := (num_le (l := l) (m := m2) (f := a.2.2) pa).2
  rw [eb] at pb
  have pc := (num_le (l := l) (m := m3) (f := b.2.2) pb).2
  rw [ec] at pc
  have pd := (num_le (l := l) (m := m4) (f := c.2.2) pc).2
  rw [ed] at pd
  have pe := (tex_le (l := l) (m := 4096) (f := d.2.2) pd).2
  rw [ee] at pe
  have pg := (tex_le (l := l) (m := 4096) (f := e.2.2) pe).2
  rw [eg] at pg
  have pj := (num_le (l := l) (m := m7) (f := g.2.2) pg).2
  rw [eh] at pj
  obtain ⟨fj, xj, _, xl⟩ := texs_ok _ _ _ pj h
  have oj := num_ok (l := l) (m := m7) (p := g.2.1) (f := g.2.2) (by rw [eh]; exact fj)
  rw [eh] at oj
  have og := tex_ok (l := l) (m := 4096) (p := e.2.1) (f := e.2.2) (by rw [eg]; exact oj.1)
  rw [eg] at og
  have oe := tex_ok (l := l) (m := 4096) (p := d.2.1) (f := d.2.2) (by rw [ee]; exact og.1)
  rw [ee] at oe
  have od := num_ok (l := l) (m := m4) (p := c.2.1) (f := c.2.2) (by rw [ed]; exact oe.1)
  rw [ed] at od
  have oc := num_ok (l := l) (m := m3) (p := b.2.1) (f := b.2.2) (by rw [ec]; exact od.1)
  rw [ec] at oc
  have ob := num_ok (l := l) (m := m2) (p := a.2.1) (f := a.2.2) (by rw [eb]; exact oc.1)
  rw [eb] at ob
  have oa := num_ok (l := l) (m := m1) (p := 0) (f := false) (by rw [ea]; exact ob.1)
  rw [ea] at oa
  have da := (pn_le (Nat.zero_le _) oa.2).2.2.2.1
  have db := (pn_le pa ob.2).2.2.2.1
  have dc := (pn_le pb oc.2).2.2.2.1
  have dd := (pn_le pc od.2).2.2.2.1
  have de := (px_le pd oe.2).2.2.1
  have dg := (px_le pe og.2).2.2.1
  have dj := (pn_le pg oj.2).2.2.2.1
  have d0 : l = digs a.1 ++ l.drop a.2.1 := da
  unfold enc
  simp only [Int.toNat_natCast, List.append_assoc]
  rw [xl, ← xj, ← dj, ← dg, ← de, ← dd, ← dc, ← db]
  exact d0

/-- What is within the limits. -/
structure Fits (r : Rq) (m1 m2 m3 m4 m7 m8 : Nat) : Prop where
  c : 0 ≤ r.c ∧ r.c ≤ m1
  t : 0 ≤ r.t ∧ r.t ≤ m2
  k : 0 ≤ r.k ∧ r.k ≤ m3
  n : 0 ≤ r.n ∧ r.n ≤ m4
  nm : r.nm.size ≤ 4096
  pt : r.pt.size ≤ 4096
  kl : r.ks.length ≤ m7
  ks : ∀ s ∈ r.ks, s.size ≤ m8
  m : m1 ≤ 65536 ∧ m2 ≤ 65536 ∧ m3 ≤ 65536 ∧ m4 ≤ 65536 ∧ m7 ≤ 65536 ∧ m8 ≤ 65536

theorem reqOf_read {l rest : List UInt8} {r : Rq} {m1 m2 m3 m4 m7 m8 : Nat} (F : Fits r m1 m2 m3 m4 m7 m8) (h : l = enc r ++ rest) :
    reqOf l m1 m2 m3 m4 m7 m8 = (r, (enc r).length, false) := by
  obtain ⟨fc, ft, fk, fn, f5, f6, f7, f8, fm⟩ := F
  have h0 : l.drop 0 = digs r.c.toNat ++ (digs r.t.toNat ++ (digs r.k.toNat ++ (digs r.n.toNat ++ (txt r.nm ++ (txt r.pt ++ (digs r.ks.length ++ (txts r.ks ++ rest))))))) := by
    rw [List.drop_zero, h]; simp [enc]
  have e1 := num_read (m := m1) (by omega) (by omega) h0
  have h1 := drop_app h0
  have e2 := num_read (m := m2) (by omega) (by omega) h1
  have h2 := drop_app h1
  have e3 := num_read (m := m3) (by omega) (by omega) h2
  have h3 := drop_app h2
  have e4 := num_read (m := m4) (by omega) (by omega) h3
  have h4 := drop_app h3
  have e5 := tex_read f5 (by omega) h4
  have h5 := drop_app h4
  have e6 := tex_read f6 (by omega) h5
  have h6 := drop_app h5
  have e7 := num_read f7 (by omega) h6
  have h7 := drop_app h6
  have e8 := texs_read r.ks _ rest f8 (by omega) h7
  unfold reqOf
  simp only [e1, e2, e3, e4, e5, e6, e7, e8]
  have z1 : ((r.c.toNat : Nat) : Int) = r.c := by omega
  have z2 : ((r.t.toNat : Nat) : Int) = r.t := by omega
  have z3 : ((r.k.toNat : Nat) : Int) = r.k := by omega
  have z4 : ((r.n.toNat : Nat) : Int) = r.n := by omega
  rw [z1, z2, z3, z4]
  refine Prod.ext rfl (Prod.ext ?_ rfl)
  simp only [enc, List.length_append]
  omega
end Go.Proofs.Ytbcemghkmmbmdaa.Order
