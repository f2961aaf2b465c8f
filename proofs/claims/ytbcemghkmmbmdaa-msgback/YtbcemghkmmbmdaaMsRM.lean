/-
  What reads a message's bytes, in plain mathematics; that this gives the message back, and the bytes.
-/
import Derived.Test.YtbcemghkmmbmdaaMsInj
namespace Go.Proofs.Ytbcemghkmmbmdaa.Msg
open Go.RowKit Route Order

/-- Where a reader stands, and whether it has failed. -/
abbrev St := Nat × Bool
def numsR (l : List UInt8) : Nat → St → List Int × St
  | 0, s => ([], s)
  | k + 1, s => (((num l 12 s.1 s.2).1 : Int) :: (numsR l k (num l 12 s.1 s.2).2).1, (numsR l k (num l 12 s.1 s.2).2).2)
def proofR (l : List UInt8) (s : St) : Pf × St :=
  let a := num l 64 s.1 s.2
  let b := num l 64 a.2.1 a.2.2
  let c := tex l 4096 b.2.1 b.2.2
  let d := num l 13 c.2.1 c.2.2
  let e := numsR l d.1 d.2
  (((a.1 : Int), (b.1 : Int), c.1, e.1), e.2)
def proofsR (l : List UInt8) : Nat → St → List Pf × St
  | 0, s => ([], s)
  | k + 1, s => ((proofR l s).1 :: (proofsR l k (proofR l s).2).1, (proofsR l k (proofR l s).2).2)
def listP (l : List UInt8) (s : St) : List Pf × St := proofsR l (num l 64 s.1 s.2).1 (num l 64 s.1 s.2).2
def changeR (l : List UInt8) (s : St) : Ch × St :=
  let a := num l 12 s.1 s.2
  let b := num l 64 a.2.1 a.2.2
  let e := listP l b.2
  (((a.1 : Int), (b.1 : Int), e.1), e.2)
def changesR (l : List UInt8) : Nat → St → List Ch × St
  | 0, s => ([], s)
  | k + 1, s => ((changeR l s).1 :: (changesR l k (changeR l s).2).1, (changesR l k (changeR l s).2).2)
def listC (l : List UInt8) (s : St) : List Ch × St := changesR l (num l 13 s.1 s.2).1 (num l 13 s.1 s.2).2
def msgR (l : List UInt8) : Ms × St :=
  let k := num l 7 0 false
  let f := num l 12 k.2.1 k.2.2
  let v := num l 64 f.2.1 f.2.2
  let s := num l 1000 v.2.1 v.2.2
  let b := tex l 4096 s.2.1 s.2.2
  let p := listP l b.2
  let c := listC l p.2
  (⟨(k.1 : Int), (f.1 : Int), (v.1 : Int), (s.1 : Int), b.1, p.1, c.1⟩, c.2)

/-- What reading l from s on gives: s2, with the bytes e, if it has not failed. -/
def Rds (l : List UInt8) (s s2 : St) (e : List UInt8) : Prop := s.1 ≤ l.length → s2.1 ≤ l.length ∧ (s2.2 = false → s.2 = false ∧ l.drop s.1 = e ++ l.drop s2.1)
theorem Rds.refl (l : List UInt8) (s : St) : Rds l s s [] := fun h => ⟨h, fun h2 => ⟨h2, rfl⟩⟩
theorem Rds.trans {l : List UInt8} {a b c : St} {e f : List UInt8} (h : Rds l a b e) (k : Rds l b c f) : Rds l a c (e ++ f) := fun h0 => by
  obtain ⟨h1, h2⟩ := h h0
  obtain ⟨k1, k2⟩ := k h1
  refine ⟨k1, fun hc => ?_⟩
  obtain ⟨k3, k4⟩ := k2 hc
  obtain ⟨h3, h4⟩ := h2 k3
  exact ⟨h3, by rw [h4, k4, List.append_assoc]⟩
theorem Rds.bad {l : List UInt8} {s s2 : St} {e : List UInt8} (h : Rds l s s2 e) (h0 : s.1 ≤ l.length) (hb : s.2 = true) : s2.2 = true := by
  cases hs : s2.2 with
  | true => rfl
  | false => have := ((h h0).2 hs).1; rw [hb] at this; cases this
theorem num_rds (l : List UInt8) (m : Nat) (s : St) : Rds l s (num l m s.1 s.2).2 (digs (num l m s.1 s.2).1) := fun h => by
  refine ⟨(num_le h).2, fun hf => ?_⟩
  obtain ⟨h1, h2⟩ := num_ok hf
  exact ⟨h1, (pn_le h h2).2.2.2.1⟩
theorem tex_rds (l : List UInt8) (m : Nat) (s : St) : Rds l s (tex l m s.1 s.2).2 (txt (tex l m s.1 s.2).1) := fun h => by
  refine ⟨(tex_le h).2, fun hf => ?_⟩
  obtain ⟨h1, h2⟩ := tex_ok hf
  exact ⟨h1, (px_le h h2).2.2.1⟩
theorem numsR_rds (l : List UInt8) : ∀ (k : Nat) (s : St), Rds l s (numsR l k s).2 (nums (numsR l k s).1)
  | 0, s => Rds.refl l s
  | k + 1, s => by
    have h := (num_rds l 12 s).trans (numsR_rds l k (num l 12 s.1 s.2).2)
    show Rds l s (numsR l k (num l 12 s.1 s.2).2).2 (digs ((num l 12 s.1 s.2).1 : Int).toNat ++ nums (numsR l k (num l 12 s.1 s.2).2).1)
    rw [Int.toNat_natCast]
    exact h
theorem numsR_cnt (l : List UInt8) : ∀ (k : Nat) (s : St), (numsR l k s).1.length = k
  | 0, s => rfl
  | k + 1, s => by show (numsR l k _).1.length + 1 = k + 1; rw [numsR_cnt l k]
theorem proofR_rds (l : List UInt8) (s : St) : Rds l s (proofR l s).2 (encP (proofR l s).1) := by
  have h1 := num_rds l 64 s
  have h2 := num_rds l 64 (num l 64 s.1 s.2).2
  have h3 := tex_rds l 4096 (num l 64 (num l 64 s.1 s.2).2.1 (num l 64 s.1 s.2).2.2).2
  have h4 := num_rds l 13 (tex l 4096 (num l 64 (num l 64 s.1 s.2).2.1 (num l 64 s.1 s.2).2.2).2.1 (num l 64 (num l 64 s.1 s.2).2.1 (num l 64 s.1 s.2).2.2).2.2).2
  unfold proofR
  simp only
  generalize num l 64 s.1 s.2 = a at *
  generalize num l 64 a.2.1 a.2.2 = b at *
  generalize tex l 4096 b.2.1 b.2.2 = c at *
  generalize num l 13 c.2.1 c.2.2 = d at *
  have h5 := numsR_rds l d.1 d.2
  have h6 := numsR_cnt l d.1 d.2
  generalize numsR l d.1 d.2 = e at *
  unfold encP
  simp only [Int.toNat_natCast, h6]
  exact h1.trans (h2.trans (h3.trans (h4.trans h5)))
theorem proofsR_rds (l : List UInt8) : ∀ (k : Nat) (s : St), Rds l s (proofsR l k s).2 (flatP (proofsR l k s).1)
  | 0, s => Rds.refl l s
  | k + 1, s => (proofR_rds l s).trans (proofsR_rds l k (proofR l s).2)
theorem proofsR_cnt (l : List UInt8) : ∀ (k : Nat) (s : St), (proofsR l k s).1.length = k
  | 0, s => rfl
  | k + 1, s => by show (proofsR l k _).1.length + 1 = k + 1; rw [proofsR_cnt l k]
theorem listP_rds (l : List UInt8) (s : St) : Rds l s (listP l s).2 (encPs (listP l s).1) := by
  unfold listP encPs
  rw [proofsR_cnt]
  exact (num_rds l 64 s).trans (proofsR_rds l _ _)
theorem changeR_rds (l : List UInt8) (s : St) : Rds l s (changeR l s).2 (encC (changeR l s).1) := by
  have h1 := num_rds l 12 s
  have h2 := num_rds l 64 (num l 12 s.1 s.2).2
  unfold changeR
  simp only
  generalize num l 12 s.1 s.2 = a at *
  generalize num l 64 a.2.1 a.2.2 = b at *
  have h5 := listP_rds l b.2
  unfold encC
  simp only [Int.toNat_natCast]
  exact h1.trans (h2.trans h5)
theorem changesR_rds (l : List UInt8) : ∀ (k : Nat) (s : St), Rds l s (changesR l k s).2 (flatC (changesR l k s).1)
  | 0, s => Rds.refl l s
  | k + 1, s => (changeR_rds l s).trans (changesR_rds l k (changeR l s).2)
theorem changesR_cnt (l : List UInt8) : ∀ (k : Nat) (s : St), (changesR l k s).1.length = k
  | 0, s => rfl
  | k + 1, s => by show (changesR l k _).1.length + 1 = k + 1; rw [changesR_cnt l k]
theorem listC_rds (l : List UInt8) (s : St) : Rds l s (listC l s).2 (digs (listC l s).1.length ++ flatC (listC l s).1) := by
  unfold listC
  rw [changesR_cnt]
  exact (num_rds l 13 s).trans (changesR_rds l _ _)
theorem msgR_rds (l : List UInt8) : Rds l (0, false) (msgR l).2 (encM (msgR l).1) := by
  have h1 := num_rds l 7 (0, false)
  simp only at h1
  unfold msgR
  simp only
  generalize num l 7 0 false = k at *
  have h2 := num_rds l 12 k.2
  generalize num l 12 k.2.1 k.2.2 = f at *
  have h3 := num_rds l 64 f.2
  generalize num l 64 f.2.1 f.2.2 = v at *
  have h4 := num_rds l 1000 v.2
  generalize num l 1000 v.2.1 v.2.2 = s at *
  have h5 := tex_rds l 4096 s.2
  generalize tex l 4096 s.2.1 s.2.2 = b at *
  have h6 := listP_rds l b.2
  generalize listP l b.2 = p at *
  have h7 := listC_rds l p.2
  unfold encM
  simp only [Int.toNat_natCast]
  exact h1.trans (h2.trans (h3.trans (h4.trans (h5.trans (h6.trans h7)))))
theorem msgR_le (l : List UInt8) : (msgR l).2.1 ≤ l.length := (msgR_rds l (Nat.zero_le _)).1
/-- What was got is put as those bytes. -/
theorem msgR_sound {l : List UInt8} (h1 : (msgR l).2.2 = false) (h2 : l.length ≤ (msgR l).2.1) : encM (msgR l).1 = l := by
  have h := ((msgR_rds l) (Nat.zero_le _)).2 h1
  have h3 := h.2
  rw [List.drop_zero, List.drop_eq_nil_of_le h2, List.append_nil] at h3
  exact h3.symm

theorem int_read {l r : List UInt8} {m p : Nat} {n : Int} (hn : 0 ≤ n ∧ n ≤ (m : Int)) (hm : m ≤ 1000000) (h : l.drop p = digs n.toNat ++ r) : num l m p false = (n.toNat, p + (digs n.toNat).length, false) := num_read (by omega) (by omega) h
theorem numsR_read {l : List UInt8} : ∀ (L : List Int) (r : List UInt8) (p : Nat), (∀ n ∈ L, 0 ≤ n ∧ n ≤ 12) → l.drop p = nums L ++ r → numsR l L.length (p, false) = (L, p + (nums L).length, false)
  | [], r, p, _, _ => by simp [numsR, nums]
  | n :: L, r, p, hL, h => by
    have h0 : l.drop p = digs n.toNat ++ (nums L ++ r) := by rw [h]; simp [nums]
    have hn := hL n (List.mem_cons_self ..)
    have e1 := int_read (m := 12) ⟨hn.1, by omega⟩ (by omega) h0
    have e2 := numsR_read L r _ (fun x hx => hL x (List.mem_cons_of_mem _ hx)) (drop_app h0)
    show numsR l (L.length + 1) (p, false) = _
    unfold numsR
    rw [e1]
    simp only
    rw [e2]
    have z : ((n.toNat : Nat) : Int) = n := by omega
    rw [z]
    simp [nums, Nat.add_assoc]
theorem proofR_read {l r : List UInt8} {e : Pf} {p : Nat} (F : PfOk e) (h : l.drop p = encP e ++ r) : proofR l (p, false) = (e, p + (encP e).length, false) := by
  obtain ⟨v, s, bd, fr⟩ := e
  have a1 := F.v; have a2 := F.s; have a3 := F.b; have a4 := F.n; have a5 := F.f
  simp only at a1 a2 a3 a4 a5
  have h0 : l.drop p = digs v.toNat ++ (digs s.toNat ++ (txt bd ++ (digs fr.length ++ (nums fr ++ r)))) := by rw [h]; simp [encP]
  have e1 := int_read (m := 64) ⟨a1.1, by omega⟩ (by omega) h0
  have h1 := drop_app h0
  have e2 := int_read (m := 64) ⟨a2.1, by omega⟩ (by omega) h1
  have h2 := drop_app h1
  have e3 := tex_read (m := 4096) a3 (by omega) h2
  have h3 := drop_app h2
  have e4 := num_read (m := 13) a4 (by omega) h3
  have h4 := drop_app h3
  have e5 := numsR_read fr r _ a5 h4
  unfold proofR
  simp only [e1, e2, e3, e4, e5]
  have z1 : ((v.toNat : Nat) : Int) = v := by omega
  have z2 : ((s.toNat : Nat) : Int) = s := by omega
  rw [z1, z2]
  refine Prod.ext rfl (Prod.ext ?_ rfl)
  simp only [encP, List.length_append]
  omega
theorem proofsR_read {l : List UInt8} : ∀ (L : List Pf) (r : List UInt8) (p : Nat), (∀ e ∈ L, PfOk e) → l.drop p = flatP L ++ r → proofsR l L.length (p, false) = (L, p + (flatP L).length, false)
  | [], r, p, _, _ => by simp [proofsR, flatP]
  | e :: L, r, p, hL, h => by
    have h0 : l.drop p = encP e ++ (flatP L ++ r) := by rw [h]; simp [flatP]
    have e1 := proofR_read (hL e (List.mem_cons_self ..)) h0
    have e2 := proofsR_read L r (p + (encP e).length) (fun x hx => hL x (List.mem_cons_of_mem _ hx)) (drop_app h0)
    show proofsR l (L.length + 1) (p, false) = _
    unfold proofsR
    rw [e1, e2]
    simp [flatP, Nat.add_assoc]
theorem listP_read {l r : List UInt8} {L : List Pf} {p : Nat} (hl : L.length ≤ 64) (hL : ∀ e ∈ L, PfOk e) (h : l.drop p = encPs L ++ r) : listP l (p, false) = (L, p + (encPs L).length, false) := by
  have h0 : l.drop p = digs L.length ++ (flatP L ++ r) := by rw [h]; simp [encPs]
  have e1 := num_read (m := 64) hl (by omega) h0
  have e2 := proofsR_read L r _ hL (drop_app h0)
  unfold listP
  simp only [e1, e2]
  refine Prod.ext rfl (Prod.ext ?_ rfl)
  simp only [encPs, List.length_append]
  omega
theorem changeR_read {l r : List UInt8} {e : Ch} {p : Nat} (F : ChOk e) (h : l.drop p = encC e ++ r) : changeR l (p, false) = (e, p + (encC e).length, false) := by
  obtain ⟨v, s, fr⟩ := e
  have a1 := F.f; have a2 := F.v; have a4 := F.n; have a5 := F.p
  simp only at a1 a2 a4 a5
  have h0 : l.drop p = digs v.toNat ++ (digs s.toNat ++ (encPs fr ++ r)) := by rw [h]; simp [encC]
  have e1 := int_read (m := 12) ⟨a1.1, by omega⟩ (by omega) h0
  have h1 := drop_app h0
  have e2 := int_read (m := 64) ⟨a2.1, by omega⟩ (by omega) h1
  have h2 := drop_app h1
  have e5 := listP_read a4 a5 h2
  unfold changeR
  simp only [e1, e2, e5]
  have z1 : ((v.toNat : Nat) : Int) = v := by omega
  have z2 : ((s.toNat : Nat) : Int) = s := by omega
  rw [z1, z2]
  refine Prod.ext rfl (Prod.ext ?_ rfl)
  simp only [encC, List.length_append]
  omega
theorem changesR_read {l : List UInt8} : ∀ (L : List Ch) (r : List UInt8) (p : Nat), (∀ e ∈ L, ChOk e) → l.drop p = flatC L ++ r → changesR l L.length (p, false) = (L, p + (flatC L).length, false)
  | [], r, p, _, _ => by simp [changesR, flatC]
  | e :: L, r, p, hL, h => by
    have h0 : l.drop p = encC e ++ (flatC L ++ r) := by rw [h]; simp [flatC]
    have e1 := changeR_read (hL e (List.mem_cons_self ..)) h0
    have e2 := changesR_read L r (p + (encC e).length) (fun x hx => hL x (List.mem_cons_of_mem _ hx)) (drop_app h0)
    show changesR l (L.length + 1) (p, false) = _
    unfold changesR
    rw [e1, e2]
    simp [flatC, Nat.add_assoc]
theorem listC_read {l r : List UInt8} {L : List Ch} {p : Nat} (hl : L.length ≤ 13) (hL : ∀ e ∈ L, ChOk e) (h : l.drop p = digs L.length ++ (flatC L ++ r)) : listC l (p, false) = (L, p + (digs L.length ++ flatC L).length, false) := by
  have e1 := num_read (m := 13) hl (by omega) h
  have e2 := changesR_read L r _ hL (drop_app h)
  unfold listC
  simp only [e1, e2]
  refine Prod.ext rfl (Prod.ext ?_ rfl)
  simp only [List.length_append]
  omega
/-- What was put is got, whatever stands behind. -/
theorem msgR_read {m : Ms} {r : List UInt8} (F : MsOk m) : msgR (encM m ++ r) = (m, (encM m).length, false) := by
  obtain ⟨k, f, v, s, bd, pl, cl⟩ := m
  have a1 := F.k; have a2 := F.f; have a3 := F.v; have a4 := F.s; have a5 := F.b; have a6 := F.pn; have a7 := F.p; have a8 := F.cn; have a9 := F.c
  simp only at a1 a2 a3 a4 a5 a6 a7 a8 a9
  have a4' : s ≤ 1000 := by split at a4 <;> omega
  generalize hl : encM ⟨k, f, v, s, bd, pl, cl⟩ ++ r = l
  have h0 : l.drop 0 = digs k.toNat ++ (digs f.toNat ++ (digs v.toNat ++ (digs s.toNat ++ (txt bd ++ (encPs pl ++ (digs cl.length ++ (flatC cl ++ r))))))) := by rw [← hl]; simp [encM]
  have e1 := int_read (m := 7) ⟨by omega, by omega⟩ (by omega) h0
  have h1 := drop_app h0
  have e2 := int_read (m := 12) ⟨a2.1, by omega⟩ (by omega) h1
  have h2 := drop_app h1
  have e3 := int_read (m := 64) ⟨a3.1, by omega⟩ (by omega) h2
  have h3 := drop_app h2
  have e4 := int_read (m := 1000) ⟨a4.1, by omega⟩ (by omega) h3
  have h4 := drop_app h3
  have e5 := tex_read (m := 4096) a5 (by omega) h4
  have h5 := drop_app h4
  have e6 := listP_read a6 a7 h5
  have h6 := drop_app h5
  have e7 := listC_read a8 a9 h6
  unfold msgR
  simp only [e1, e2, e3, e4, e5, e6, e7]
  have z1 : ((k.toNat : Nat) : Int) = k := by omega
  have z2 : ((f.toNat : Nat) : Int) = f := by omega
  have z3 : ((v.toNat : Nat) : Int) = v := by omega
  have z4 : ((s.toNat : Nat) : Int) = s := by omega
  rw [z1, z2, z3, z4]
  refine Prod.ext rfl (Prod.ext ?_ rfl)
  simp only [encM, List.length_append]
  omega
end Go.Proofs.Ytbcemghkmmbmdaa.Msg
