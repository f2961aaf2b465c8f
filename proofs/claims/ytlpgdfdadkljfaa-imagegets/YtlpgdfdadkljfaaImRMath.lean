/-
  The answer's reader of snapshots, as a plain function: with limits of its own; it reads what may be a catalog's as the program's does.
-/
import Derived.Test.YtlpgdfdadkljfaaImPut
namespace Go.Proofs.Ytlpgdfdadkljfaa.Img
open Go.RowKit Route Tree Order Cat

def entQ (l : List UInt8) (s : St) : Ent × St :=
  let a := tex l 4096 s.1 s.2
  let b := num l 65536 a.2.1 a.2.2
  let c := num l 65536 b.2.1 b.2.2
  let d := texs l 4096 c.1 c.2.1 c.2.2
  ((a.1, (b.1 : Int), d.1), d.2)
def entsQ (l : List UInt8) : Nat → St → List Ent × St
  | 0, s => ([], s)
  | k + 1, s => ((entQ l s).1 :: (entsQ l k (entQ l s).2).1, (entsQ l k (entQ l s).2).2)
def snapQ (l : List UInt8) (s : St) : Snap × St :=
  let a := num l 65536 s.1 s.2
  let b := tex l 4096 a.2.1 a.2.2
  let c := num l 1 b.2.1 b.2.2
  let d := num l 65536 c.2.1 c.2.2
  let e := entsQ l d.1 d.2
  (((a.1 : Int), b.1, decide (c.1 = 1), e.1), e.2)
def snapsQ (l : List UInt8) : Nat → St → List Snap × St
  | 0, s => ([], s)
  | k + 1, s => ((snapQ l s).1 :: (snapsQ l k (snapQ l s).2).1, (snapsQ l k (snapQ l s).2).2)
def decQ (l : List UInt8) : List Snap × St := snapsQ l (num l 65536 0 false).1 (num l 65536 0 false).2

theorem entQ_rds (l : List UInt8) (s : St) : Rds l s (entQ l s).2 (encE (entQ l s).1) := by
  have h1 := tex_rds l 4096 s
  have h2 := num_rds l 65536 (tex l 4096 s.1 s.2).2
  have h3 := num_rds l 65536 (num l 65536 (tex l 4096 s.1 s.2).2.1 (tex l 4096 s.1 s.2).2.2).2
  unfold entQ
  simp only
  generalize tex l 4096 s.1 s.2 = a at *
  generalize num l 65536 a.2.1 a.2.2 = b at *
  generalize num l 65536 b.2.1 b.2.2 = c at *
  have h4 := texs_rds l 4096 c.1 c.2
  have h5 := texs_cnt l 4096 c.1 c.2.1 c.2.2
  generalize texs l 4096 c.1 c.2.1 c.2.2 = d at *
  unfold encE
  simp only [Int.toNat_natCast, h5]
  exact h1.trans (h2.trans (h3.trans h4))
theorem entsQ_rds (l : List UInt8) : ∀ (k : Nat) (s : St), Rds l s (entsQ l k s).2 (encEs (entsQ l k s).1)
  | 0, s => Rds.refl l s
  | k + 1, s => (entQ_rds l s).trans (entsQ_rds l k (entQ l s).2)
theorem entsQ_cnt (l : List UInt8) : ∀ (k : Nat) (s : St), (entsQ l k s).1.length = k
  | 0, s => rfl
  | k + 1, s => by show (entsQ l k _).1.length + 1 = k + 1; rw [entsQ_cnt l k]
theorem snapQ_rds (l : List UInt8) (s : St) (hs : s.1 ≤ l.length) : Rds l s (snapQ l s).2 (encN (snapQ l s).1) := by
  have h1 := num_rds l 65536 s
  have h2 := tex_rds l 4096 (num l 65536 s.1 s.2).2
  have h3 := num_rds l 1 (tex l 4096 (num l 65536 s.1 s.2).2.1 (num l 65536 s.1 s.2).2.2).2
  have h4 := num_rds l 65536 (num l 1 (tex l 4096 (num l 65536 s.1 s.2).2.1 (num l 65536 s.1 s.2).2.2).2.1 (tex l 4096 (num l 65536 s.1 s.2).2.1 (num l 65536 s.1 s.2).2.2).2.2).2
  have g := (num_le (l := l) (m := 1) (f := (tex l 4096 (num l 65536 s.1 s.2).2.1 (num l 65536 s.1 s.2).2.2).2.2) (h2 (h1 hs).1).1).1
  unfold snapQ
  simp only
  generalize num l 65536 s.1 s.2 = a at *
  generalize tex l 4096 a.2.1 a.2.2 = b at *
  generalize num l 1 b.2.1 b.2.2 = c at *
  generalize num l 65536 c.2.1 c.2.2 = d at *
  have h5 := entsQ_rds l d.1 d.2
  have h6 := entsQ_cnt l d.1 d.2
  generalize entsQ l d.1 d.2 = e at *
  unfold encN
  simp only [Int.toNat_natCast, h6, flag_of g]
  exact h1.trans (h2.trans (h3.trans (h4.trans h5)))
theorem snapsQ_rds (l : List UInt8) : ∀ (k : Nat) (s : St), s.1 ≤ l.length → Rds l s (snapsQ l k s).2 (encNs (snapsQ l k s).1)
  | 0, s, _ => Rds.refl l s
  | k + 1, s, h => (snapQ_rds l s h).trans (snapsQ_rds l k (snapQ l s).2 (snapQ_rds l s h h).1)
theorem snapsQ_cnt (l : List UInt8) : ∀ (k : Nat) (s : St), (snapsQ l k s).1.length = k
  | 0, s => rfl
  | k + 1, s => by show (snapsQ l k _).1.length + 1 = k + 1; rw [snapsQ_cnt l k]

/-- What was got is put as those bytes. -/
theorem decQ_sound {l : List UInt8} (h1 : (decQ l).2.2 = false) (h2 : l.length ≤ (decQ l).2.1) : encI (decQ l).1 = l := by
  have hn := num_rds l 65536 (0, false)
  have hs := snapsQ_rds l (num l 65536 0 false).1 (num l 65536 0 false).2 (hn (Nat.zero_le _)).1
  have hc := snapsQ_cnt l (num l 65536 0 false).1 (num l 65536 0 false).2
  have h3 := ((hn.trans hs) (Nat.zero_le _)).2 h1
  unfold encI decQ
  rw [hc]
  have h4 := h3.2
  rw [List.drop_zero] at h4
  have h5 : l.drop (snapsQ l (num l 65536 0 false).1 (num l 65536 0 false).2).2.1 = [] := List.drop_eq_nil_of_le h2
  rw [h5, List.append_nil] at h4
  exact h4.symm

theorem entQ_read {l r : List UInt8} {e : Ent} {p : Nat} (F : EFit e) (h : l.drop p = encE e ++ r) : entQ l (p, false) = (e, p + (encE e).length, false) := by
  have h0 : l.drop p = txt e.1 ++ (digs e.2.1.toNat ++ (digs e.2.2.length ++ (txts e.2.2 ++ r))) := by rw [h]; simp [encE]
  have e1 := tex_read (m := 4096) F.path (by have := F.path; omega) h0
  have h1 := drop_app h0
  have e2 := num_read (m := 65536) (by have := F.size; omega) (by have := F.size; omega) h1
  have h2 := drop_app h1
  have e3 := num_read (m := 65536) (by have := F.keys; omega) (by have := F.keys; omega) h2
  have h3 := drop_app h2
  have e4 := texs_read e.2.2 _ r (m := 4096) (fun s hs => by have := F.key s hs; omega) (by omega) h3
  unfold entQ
  simp only [e1, e2, e3, e4]
  have z : ((e.2.1.toNat : Nat) : Int) = e.2.1 := by have := F.size; omega
  rw [z]
  refine Prod.ext rfl (Prod.ext ?_ rfl)
  simp only [encE, List.length_append]
  omega
theorem entsQ_read {l : List UInt8} : ∀ (E : List Ent) (r : List UInt8) (p : Nat), (∀ e ∈ E, EFit e) → l.drop p = encEs E ++ r → entsQ l E.length (p, false) = (E, p + (encEs E).length, false)
  | [], r, p, _, _ => by simp [entsQ, encEs]
  | e :: E, r, p, hE, h => by
    have h0 : l.drop p = encE e ++ (encEs E ++ r) := by rw [h]; simp [encEs]
    have e1 := entQ_read (hE e (List.mem_cons_self ..)) h0
    have e2 := entsQ_read E r (p + (encE e).length) (fun x hx => hE x (List.mem_cons_of_mem _ hx)) (drop_app h0)
    show entsQ l (E.length + 1) (p, false) = _
    unfold entsQ
    rw [e1, e2]
    simp [encEs, Nat.add_assoc]
theorem snapQ_read {l r : List UInt8} {s : Snap} {p : Nat} (F : NFit s) (h : l.drop p = encN s ++ r) : snapQ l (p, false) = (s, p + (encN s).length, false) := by
  have h0 : l.drop p = digs s.1.toNat ++ (txt s.2.1 ++ (digs (flagN s.2.2.1) ++ (digs s.2.2.2.length ++ (encEs s.2.2.2 ++ r)))) := by rw [h]; simp [encN]
  have hf : flagN s.2.2.1 ≤ 1 := by unfold flagN; split <;> omega
  have e1 := num_read (m := 65536) (by have := F.client; omega) (by have := F.client; omega) h0
  have h1 := drop_app h0
  have e2 := tex_read (m := 4096) F.name (by have := F.name; omega) h1
  have h2 := drop_app h1
  have e3 := num_read (m := 1) hf (by omega) h2
  have h3 := drop_app h2
  have e4 := num_read (m := 65536) (by have := F.len; omega) (by have := F.len; omega) h3
  have h4 := drop_app h3
  have e5 := entsQ_read s.2.2.2 r _ F.ents h4
  unfold snapQ
  simp only [e1, e2, e3, e4, e5]
  have z : ((s.1.toNat : Nat) : Int) = s.1 := by have := F.client; omega
  have zf : decide (flagN s.2.2.1 = 1) = s.2.2.1 := by cases s.2.2.1 <;> rfl
  rw [z, zf]
  refine Prod.ext rfl (Prod.ext ?_ rfl)
  simp only [encN, List.length_append]
  omega
theorem snapsQ_read {l : List UInt8} : ∀ (S : List Snap) (r : List UInt8) (p : Nat), (∀ s ∈ S, NFit s) → l.drop p = encNs S ++ r → snapsQ l S.length (p, false) = (S, p + (encNs S).length, false)
  | [], r, p, _, _ => by simp [snapsQ, encNs]
  | s :: S, r, p, hS, h => by
    have h0 : l.drop p = encN s ++ (encNs S ++ r) := by rw [h]; simp [encNs]
    have e1 := snapQ_read (hS s (List.mem_cons_self ..)) h0
    have e2 := snapsQ_read S r (p + (encN s).length) (fun x hx => hS x (List.mem_cons_of_mem _ hx)) (drop_app h0)
    show snapsQ l (S.length + 1) (p, false) = _
    unfold snapsQ
    rw [e1, e2]
    simp [encNs, Nat.add_assoc]
/-- What was put is got. -/
theorem decQ_read {S : List Snap} (hl : S.length ≤ 64) (hS : ∀ s ∈ S, NFit s) : decQ (encI S) = (S, (encI S).length, false) := by
  have h0 : (encI S).drop 0 = digs S.length ++ (encNs S ++ []) := by simp [encI]
  have e1 := num_read (m := 65536) (by omega) (by omega) h0
  have e2 := snapsQ_read S [] _ hS (drop_app h0)
  unfold decQ
  rw [e1]
  simp only
  rw [e2]
  refine Prod.ext rfl (Prod.ext ?_ rfl)
  simp [encI]


theorem decQ_inv {S : List Snap} (h : Inv S) : decQ (encI S) = (S, (encI S).length, false) := decQ_read (inv_len h) (Img.Inv.nfit h)

/-- The bytes of a catalog: both readers agree on what they are. -/
theorem both_read {l : List UInt8} : ((decR l).2.2 = false ∧ l.length ≤ (decR l).2.1 ∧ May (decR l).1) ↔ ((decQ l).2.2 = false ∧ l.length ≤ (decQ l).2.1 ∧ May (decQ l).1) := by
  constructor
  · rintro ⟨h1, h2, h3⟩
    have h4 := dec_sound h1 h2
    have h5 := decQ_inv (May.inv h3)
    rw [h4] at h5
    rw [h5]
    exact ⟨rfl, Nat.le_refl _, h3⟩
  · rintro ⟨h1, h2, h3⟩
    have h4 := decQ_sound h1 h2
    have h5 := dec_inv (May.inv h3)
    rw [h4] at h5
    rw [h5]
    exact ⟨rfl, Nat.le_refl _, h3⟩
theorem both_same {l : List UInt8} (h : (decR l).2.2 = false ∧ l.length ≤ (decR l).2.1 ∧ May (decR l).1) : (decQ l).1 = (decR l).1 := by
  obtain ⟨h1, h2, h3⟩ := h
  have h4 := dec_sound h1 h2
  have h5 := decQ_inv (May.inv h3)
  rw [h4] at h5
  rw [h5]
end Go.Proofs.Ytlpgdfdadkljfaa.Img
