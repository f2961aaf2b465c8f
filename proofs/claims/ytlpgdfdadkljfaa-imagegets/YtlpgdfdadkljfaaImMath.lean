/-
  A catalog's bytes in plain mathematics: what is written, what reads it, and that this gives it back.
-/
import Derived.Test.YtlpgdfdadkljfaaImPl
namespace Go.Proofs.Ytlpgdfdadkljfaa.Img
open Route Tree Order Cat

def encE (e : Ent) : List UInt8 := txt e.1 ++ (digs e.2.1.toNat ++ (digs e.2.2.length ++ txts e.2.2))
def encEs : List Ent → List UInt8
  | [] => []
  | e :: r => encE e ++ encEs r
def flagN (d : Bool) : Nat := if d then 1 else 0
def encN (s : Snap) : List UInt8 := digs s.1.toNat ++ (txt s.2.1 ++ (digs (flagN s.2.2.1) ++ (digs s.2.2.2.length ++ encEs s.2.2.2)))
def encNs : List Snap → List UInt8
  | [] => []
  | s :: r => encN s ++ encNs r
/-- Snapshots' bytes. -/
def encI (S : List Snap) : List UInt8 := digs S.length ++ encNs S

theorem encEs_app : ∀ (a b : List Ent), encEs (a ++ b) = encEs a ++ encEs b
  | [], b => rfl
  | e :: a, b => by simp [encEs, encEs_app a b]
theorem encNs_app : ∀ (a b : List Snap), encNs (a ++ b) = encNs a ++ encNs b
  | [], b => rfl
  | e :: a, b => by simp [encNs, encNs_app a b]

/-- Where a reader stands, and whether it has failed. -/
abbrev St := Nat × Bool
def entR (l : List UInt8) (s : St) : Ent × St :=
  let a := tex l 4096 s.1 s.2
  let b := num l 1024 a.2.1 a.2.2
  let c := num l 16 b.2.1 b.2.2
  let d := texs l 64 c.1 c.2.1 c.2.2
  ((a.1, (b.1 : Int), d.1), d.2)
def entsR (l : List UInt8) : Nat → St → List Ent × St
  | 0, s => ([], s)
  | k + 1, s => ((entR l s).1 :: (entsR l k (entR l s).2).1, (entsR l k (entR l s).2).2)
def snapR (l : List UInt8) (s : St) : Snap × St :=
  let a := num l 7 s.1 s.2
  let b := tex l 4096 a.2.1 a.2.2
  let c := num l 1 b.2.1 b.2.2
  let d := num l 32 c.2.1 c.2.2
  let e := entsR l d.1 d.2
  (((a.1 : Int), b.1, decide (c.1 = 1), e.1), e.2)
def snapsR (l : List UInt8) : Nat → St → List Snap × St
  | 0, s => ([], s)
  | k + 1, s => ((snapR l s).1 :: (snapsR l k (snapR l s).2).1, (snapsR l k (snapR l s).2).2)
def decR (l : List UInt8) : List Snap × St := snapsR l (num l 64 0 false).1 (num l 64 0 false).2

/-- What reading l from s on gives: s2, with the bytes e, if it has not failed. -/
def Rds (l : List UInt8) (s s2 : St) (e : List UInt8) : Prop := s.1 ≤ l.length → s2.1 ≤ l.length ∧ (s2.2 = false → s.2 = false ∧ l.drop s.1 = e ++ l.drop s2.1)
theorem Rds.refl (l : List UInt8) (s : St) : Rds l s s [] := fun h => ⟨h, fun h2 => ⟨h2, rfl⟩⟩
theorem Rds.trans {l : List UInt8} {a b c : St} {e f : List UInt8} (h : Rds l a b e) (k : Rds l b c f) : Rds l a c (e ++ f) := fun h0 => by
  obtain ⟨h1, h2⟩ := h h0
  obtain ⟨k1, k2⟩ := k h1
  refine ⟨k1, fun hc => ?_⟩
  obtain ⟨k3, k4⟩ := k2 hc
  obtain ⟨h3, h4⟩ := h2 k3
  exact ⟨h3, by rw [h4, k4, List.append_assoc]⟩
theorem num_rds (l : List UInt8) (m : Nat) (s : St) : Rds l s (num l m s.1 s.2).2 (digs (num l m s.1 s.2).1) := fun h => by
  refine ⟨(num_le h).2, fun hf => ?_⟩
  obtain ⟨h1, h2⟩ := num_ok hf
  exact ⟨h1, (pn_le h h2).2.2.2.1⟩
theorem tex_rds (l : List UInt8) (m : Nat) (s : St) : Rds l s (tex l m s.1 s.2).2 (txt (tex l m s.1 s.2).1) := fun h => by
  refine ⟨(tex_le h).2, fun hf => ?_⟩
  obtain ⟨h1, h2⟩ := tex_ok hf
  exact ⟨h1, (px_le h h2).2.2.1⟩
theorem texs_rds (l : List UInt8) (m k : Nat) (s : St) : Rds l s (texs l m k s.1 s.2).2 (txts (texs l m k s.1 s.2).1) := fun h => by
  refine ⟨(texs_le k s.1 s.2 h).1, fun hf => ?_⟩
  obtain ⟨h1, h2, _, _⟩ := texs_ok k s.1 s.2 h hf
  exact ⟨h1, h2⟩
theorem texs_cnt (l : List UInt8) (m : Nat) : ∀ (k p : Nat) (f : Bool), (texs l m k p f).1.length = k
  | 0, p, f => rfl
  | k + 1, p, f => by show (texs l m k _ _).1.length + 1 = k + 1; rw [texs_cnt l m k]

theorem entR_rds (l : List UInt8) (s : St) : Rds l s (entR l s).2 (encE (entR l s).1) := by
  have h1 := tex_rds l 4096 s
  have h2 := num_rds l 1024 (tex l 4096 s.1 s.2).2
  have h3 := num_rds l 16 (num l 1024 (tex l 4096 s.1 s.2).2.1 (tex l 4096 s.1 s.2).2.2).2
  unfold entR
  simp only
  generalize tex l 4096 s.1 s.2 = a at *
  generalize num l 1024 a.2.1 a.2.2 = b at *
  generalize num l 16 b.2.1 b.2.2 = c at *
  have h4 := texs_rds l 64 c.1 c.2
  have h5 := texs_cnt l 64 c.1 c.2.1 c.2.2
  generalize texs l 64 c.1 c.2.1 c.2.2 = d at *
  unfold encE
  simp only [Int.toNat_natCast, h5]
  exact h1.trans (h2.trans (h3.trans h4))
theorem entsR_rds (l : List UInt8) : ∀ (k : Nat) (s : St), Rds l s (entsR l k s).2 (encEs (entsR l k s).1)
  | 0, s => Rds.refl l s
  | k + 1, s => (entR_rds l s).trans (entsR_rds l k (entR l s).2)
theorem entsR_cnt (l : List UInt8) : ∀ (k : Nat) (s : St), (entsR l k s).1.length = k
  | 0, s => rfl
  | k + 1, s => by show (entsR l k _).1.length + 1 = k + 1; rw [entsR_cnt l k]
theorem flag_of {n : Nat} (h : n ≤ 1) : flagN (decide (n = 1)) = n := by
  rcases (by omega : n = 0 ∨ n = 1) with rfl | rfl <;> rfl
theorem snapR_rds (l : List UInt8) (s : St) (hs : s.1 ≤ l.length) : Rds l s (snapR l s).2 (encN (snapR l s).1) := by
  have h1 := num_rds l 7 s
  have h2 := tex_rds l 4096 (num l 7 s.1 s.2).2
  have h3 := num_rds l 1 (tex l 4096 (num l 7 s.1 s.2).2.1 (num l 7 s.1 s.2).2.2).2
  have h4 := num_rds l 32 (num l 1 (tex l 4096 (num l 7 s.1 s.2).2.1 (num l 7 s.1 s.2).2.2).2.1 (tex l 4096 (num l 7 s.1 s.2).2.1 (num l 7 s.1 s.2).2.2).2.2).2
  have g := (num_le (l := l) (m := 1) (f := (tex l 4096 (num l 7 s.1 s.2).2.1 (num l 7 s.1 s.2).2.2).2.2) (h2 (h1 hs).1).1).1
  unfold snapR
  simp only
  generalize num l 7 s.1 s.2 = a at *
  generalize tex l 4096 a.2.1 a.2.2 = b at *
  generalize num l 1 b.2.1 b.2.2 = c at *
  generalize num l 32 c.2.1 c.2.2 = d at *
  have h5 := entsR_rds l d.1 d.2
  have h6 := entsR_cnt l d.1 d.2
  generalize entsR l d.1 d.2 = e at *
  unfold encN
  simp only [Int.toNat_natCast, h6, flag_of g]
  exact h1.trans (h2.trans (h3.trans (h4.trans h5)))
theorem snapsR_rds (l : List UInt8) : ∀ (k : Nat) (s : St), s.1 ≤ l.length → Rds l s (snapsR l k s).2 (encNs (snapsR l k s).1)
  | 0, s, _ => Rds.refl l s
  | k + 1, s, h => (snapR_rds l s h).trans (snapsR_rds l k (snapR l s).2 (snapR_rds l s h h).1)
theorem snapsR_cnt (l : List UInt8) : ∀ (k : Nat) (s : St), (snapsR l k s).1.length = k
  | 0, s => rfl
  | k + 1, s => by show (snapsR l k _).1.length + 1 = k + 1; rw [snapsR_cnt l k]

/-- What was got is put as those bytes. -/
theorem dec_sound {l : List UInt8} (h1 : (decR l).2.2 = false) (h2 : l.length ≤ (decR l).2.1) : encI (decR l).1 = l := by
  have hn := num_rds l 64 (0, false)
  have hs := snapsR_rds l (num l 64 0 false).1 (num l 64 0 false).2 (hn (Nat.zero_le _)).1
  have hc := snapsR_cnt l (num l 64 0 false).1 (num l 64 0 false).2
  have h3 := ((hn.trans hs) (Nat.zero_le _)).2 h1
  unfold encI decR
  rw [hc]
  have h4 := h3.2
  rw [List.drop_zero] at h4
  have h5 : l.drop (snapsR l (num l 64 0 false).1 (num l 64 0 false).2).2.1 = [] := List.drop_eq_nil_of_le h2
  rw [h5, List.append_nil] at h4
  exact h4.symm

/-- What fits a reader's limits. -/
structure EFit (e : Ent) : Prop where
  path : e.1.size ≤ 4096
  size : 0 ≤ e.2.1 ∧ e.2.1 ≤ 1024
  keys : e.2.2.length ≤ 16
  key : ∀ s ∈ e.2.2, s.size ≤ 64
structure NFit (s : Snap) : Prop where
  client : 0 ≤ s.1 ∧ s.1 ≤ 7
  name : s.2.1.size ≤ 4096
  len : s.2.2.2.length ≤ 32
  ents : ∀ e ∈ s.2.2.2, EFit e

theorem entR_read {l r : List UInt8} {e : Ent} {p : Nat} (F : EFit e) (h : l.drop p = encE e ++ r) : entR l (p, false) = (e, p + (encE e).length, false) := by
  have h0 : l.drop p = txt e.1 ++ (digs e.2.1.toNat ++ (digs e.2.2.length ++ (txts e.2.2 ++ r))) := by rw [h]; simp [encE]
  have e1 := tex_read (m := 4096) F.path (by have := F.path; omega) h0
  have h1 := drop_app h0
  have e2 := num_read (m := 1024) (by have := F.size; omega) (by have := F.size; omega) h1
  have h2 := drop_app h1
  have e3 := num_read (m := 16) F.keys (by have := F.keys; omega) h2
  have h3 := drop_app h2
  have e4 := texs_read e.2.2 _ r F.key (by omega) h3
  unfold entR
  simp only [e1, e2, e3, e4]
  have z : ((e.2.1.toNat : Nat) : Int) = e.2.1 := by have := F.size; omega
  rw [z]
  refine Prod.ext rfl (Prod.ext ?_ rfl)
  simp only [encE, List.length_append]
  omega
theorem entsR_read {l : List UInt8} : ∀ (E : List Ent) (r : List UInt8) (p : Nat), (∀ e ∈ E, EFit e) → l.drop p = encEs E ++ r → entsR l E.length (p, false) = (E, p + (encEs E).length, false)
  | [], r, p, _, _ => by simp [entsR, encEs]
  | e :: E, r, p, hE, h => by
    have h0 : l.drop p = encE e ++ (encEs E ++ r) := by rw [h]; simp [encEs]
    have e1 := entR_read (hE e (List.mem_cons_self ..)) h0
    have e2 := entsR_read E r (p + (encE e).length) (fun x hx => hE x (List.mem_cons_of_mem _ hx)) (drop_app h0)
    show entsR l (E.length + 1) (p, false) = _
    unfold entsR
    rw [e1, e2]
    simp [encEs, Nat.add_assoc]
theorem snapR_read {l r : List UInt8} {s : Snap} {p : Nat} (F : NFit s) (h : l.drop p = encN s ++ r) : snapR l (p, false) = (s, p + (encN s).length, false) := by
  have h0 : l.drop p = digs s.1.toNat ++ (txt s.2.1 ++ (digs (flagN s.2.2.1) ++ (digs s.2.2.2.length ++ (encEs s.2.2.2 ++ r)))) := by rw [h]; simp [encN]
  have hf : flagN s.2.2.1 ≤ 1 := by unfold flagN; split <;> omega
  have e1 := num_read (m := 7) (by have := F.client; omega) (by have := F.client; omega) h0
  have h1 := drop_app h0
  have e2 := tex_read (m := 4096) F.name (by have := F.name; omega) h1
  have h2 := drop_app h1
  have e3 := num_read (m := 1) hf (by omega) h2
  have h3 := drop_app h2
  have e4 := num_read (m := 32) F.len (by have := F.len; omega) h3
  have h4 := drop_app h3
  have e5 := entsR_read s.2.2.2 r _ F.ents h4
  unfold snapR
  simp only [e1, e2, e3, e4, e5]
  have z : ((s.1.toNat : Nat) : Int) = s.1 := by have := F.client; omega
  have zf : decide (flagN s.2.2.1 = 1) = s.2.2.1 := by cases s.2.2.1 <;> rfl
  rw [z, zf]
  refine Prod.ext rfl (Prod.ext ?_ rfl)
  simp only [encN, List.length_append]
  omega
theorem snapsR_read {l : List UInt8} : ∀ (S : List Snap) (r : List UInt8) (p : Nat), (∀ s ∈ S, NFit s) → l.drop p = encNs S ++ r → snapsR l S.length (p, false) = (S, p + (encNs S).length, false)
  | [], r, p, _, _ => by simp [snapsR, encNs]
  | s :: S, r, p, hS, h => by
    have h0 : l.drop p = encN s ++ (encNs S ++ r) := by rw [h]; simp [encNs]
    have e1 := snapR_read (hS s (List.mem_cons_self ..)) h0
    have e2 := snapsR_read S r (p + (encN s).length) (fun x hx => hS x (List.mem_cons_of_mem _ hx)) (drop_app h0)
    show snapsR l (S.length + 1) (p, false) = _
    unfold snapsR
    rw [e1, e2]
    simp [encNs, Nat.add_assoc]
/-- What was put is got. -/
theorem dec_read {S : List Snap} (hl : S.length ≤ 64) (hS : ∀ s ∈ S, NFit s) : decR (encI S) = (S, (encI S).length, false) := by
  have h0 : (encI S).drop 0 = digs S.length ++ (encNs S ++ []) := by simp [encI]
  have e1 := num_read (m := 64) hl (by omega) h0
  have e2 := snapsR_read S [] _ hS (drop_app h0)
  unfold decR
  rw [e1]
  simp only
  rw [e2]
  refine Prod.ext rfl (Prod.ext ?_ rfl)
  simp [encI]

/-- What a catalog has fits. -/
theorem rest_size {z : Int} : ∀ {ks : List ByteArray} {s : Nat}, restB z s ks = true → 0 ≤ z ∧ z ≤ 1024
  | [], s, h => by
    have hs : s ≤ 1024 := by
      by_cases hs : s ≤ 1024
      · exact hs
      · rw [restB_far z [] s (by omega)] at h; cases h
    simp [restB] at h
    omega
  | k :: ks, s, h => by
    rw [restB, Bool.and_eq_true] at h
    exact rest_size h.2
theorem Inv.nfit {S : List Snap} (h : Inv S) : ∀ s ∈ S, NFit s := fun s hs => by
  have ht := treeL_iff.1 (h.tree s hs)
  refine ⟨h.client s hs, by have := part_size (h.name s hs); omega, ht.1, fun e he => ?_⟩
  have he2 := h.ents s hs e he
  exact ⟨by have := he2.1; omega, rest_size (ht.2.1 e he).2, he2.2.1, he2.2.2⟩
theorem dec_inv {S : List Snap} (h : Inv S) : decR (encI S) = (S, (encI S).length, false) := dec_read (inv_len h) (Inv.nfit h)

theorem txt_len {s : ByteArray} {m : Nat} (h : s.size ≤ m) (hm : m ≤ 100000) : (txt s).length ≤ m + 10 := by
  have := digs_len10 (n := s.size) (by omega)
  have hz : s.data.toList.length = s.size := by simp
  unfold txt
  rw [List.length_append, hz]
  omega
theorem txts_len {m : Nat} (hm : m ≤ 100000) : ∀ {l : List ByteArray}, (∀ s ∈ l, s.size ≤ m) → (txts l).length ≤ l.length * (m + 10)
  | [], _ => by simp [txts]
  | s :: l, h => by
    have h1 := txt_len (h s (List.mem_cons_self ..)) hm
    have h2 := txts_len hm (l := l) fun x hx => h x (List.mem_cons_of_mem _ hx)
    rw [txts, List.length_append, List.length_cons, Nat.succ_mul]
    omega
theorem encE_len {e : Ent} (h : EFit e) : (encE e).length ≤ 6000 := by
  have h1 := txt_len h.path (by omega)
  have h2 := digs_len10 (n := e.2.1.toNat) (by have := h.size; omega)
  have h3 := digs_len10 (n := e.2.2.length) (by have := h.keys; omega)
  have h4 := txts_len (by omega) h.key
  have h5 := h.keys
  have h6 := Nat.mul_le_mul_right (64 + 10) h5
  unfold encE
  simp only [List.length_append]
  omega
theorem encEs_len : ∀ {E : List Ent}, (∀ e ∈ E, EFit e) → (encEs E).length ≤ E.length * 6000
  | [], _ => by simp [encEs]
  | e :: E, h => by
    have h1 := encE_len (h e (List.mem_cons_self ..))
    have h2 := encEs_len (E := E) fun x hx => h x (List.mem_cons_of_mem _ hx)
    rw [encEs, List.length_append, List.length_cons, Nat.succ_mul]
    omega
theorem encN_len {s : Snap} (h : NFit s) : (encN s).length ≤ 200000 := by
  have h1 := digs_len10 (n := s.1.toNat) (by have := h.client; omega)
  have h2 := txt_len h.name (by omega)
  have h3 := digs_len10 (n := flagN s.2.2.1) (by unfold flagN; split <;> omega)
  have h4 := digs_len10 (n := s.2.2.2.length) (by have := h.len; omega)
  have h5 := encEs_len h.ents
  have h6 := h.len
  have h7 := Nat.mul_le_mul_right 6000 h6
  unfold encN
  simp only [List.length_append]
  omega
theorem encNs_len : ∀ {S : List Snap}, (∀ s ∈ S, NFit s) → (encNs S).length ≤ S.length * 200000
  | [], _ => by simp [encNs]
  | s :: S, h => by
    have h1 := encN_len (h s (List.mem_cons_self ..))
    have h2 := encNs_len (S := S) fun x hx => h x (List.mem_cons_of_mem _ hx)
    rw [encNs, List.length_append, List.length_cons, Nat.succ_mul]
    omega
theorem encI_len {S : List Snap} (hl : S.length ≤ 64) (h : ∀ s ∈ S, NFit s) : (encI S).length ≤ 20000000 := by
  have h1 := digs_len10 (n := S.length) (by omega)
  have h2 := encNs_len h
  have h3 := Nat.mul_le_mul_right 200000 hl
  unfold encI
  rw [List.length_append]
  omega
end Go.Proofs.Ytlpgdfdadkljfaa.Img
