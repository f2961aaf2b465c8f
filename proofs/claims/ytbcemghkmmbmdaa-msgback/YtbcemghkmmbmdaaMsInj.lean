/-
  Messages that are unlike have unlike bytes.
-/
import Derived.Test.YtbcemghkmmbmdaaMsWr2
namespace Go.Proofs.Ytbcemghkmmbmdaa.Msg
open Go.RowKit Route Order

theorem digs_cut {a b : Nat} {x y : List UInt8} (ha : a < 18446744073709551616) (hb : b < 18446744073709551616) (h : digs a ++ x = digs b ++ y) : a = b ∧ x = y := by
  have h1 := rd_back ha x
  have h2 := rd_back hb y
  rw [h, h2] at h1
  have e : b = a := congrArg Prod.fst h1
  subst e
  exact ⟨rfl, List.append_cancel_left h⟩
theorem int_cut {a b : Int} {x y : List UInt8} (ha : 0 ≤ a ∧ a ≤ 1000) (hb : 0 ≤ b ∧ b ≤ 1000) (h : digs a.toNat ++ x = digs b.toNat ++ y) : a = b ∧ x = y := by
  have := digs_cut (by omega) (by omega) h
  exact ⟨by omega, this.2⟩
theorem txt_cut {s t : ByteArray} {x y : List UInt8} (hs : s.size ≤ 4096) (ht : t.size ≤ 4096) (h : txt s ++ x = txt t ++ y) : s = t ∧ x = y := by
  unfold txt at h
  rw [List.append_assoc, List.append_assoc] at h
  obtain ⟨h1, h2⟩ := digs_cut (by omega) (by omega) h
  have hl : s.data.toList.length = t.data.toList.length := by simpa using h1
  obtain ⟨h3, h4⟩ := List.append_inj h2 hl
  refine ⟨?_, h4⟩
  apply ByteArray.ext
  exact Array.ext' h3
theorem nums_cut : ∀ (l l' : List Int) (x y : List UInt8), l.length = l'.length → (∀ n ∈ l, 0 ≤ n ∧ n ≤ 12) → (∀ n ∈ l', 0 ≤ n ∧ n ≤ 12) → nums l ++ x = nums l' ++ y → l = l' ∧ x = y
  | [], [], x, y, _, _, _, h => ⟨rfl, h⟩
  | [], b :: r', x, y, hl, _, _, _ => by simp at hl
  | a :: r, [], x, y, hl, _, _, _ => by simp at hl
  | a :: r, b :: r', x, y, hl, h1, h2, h => by
    have ha := h1 a (List.mem_cons_self ..)
    have hb := h2 b (List.mem_cons_self ..)
    simp only [nums, List.append_assoc] at h
    obtain ⟨e1, e2⟩ := int_cut ⟨ha.1, by omega⟩ ⟨hb.1, by omega⟩ h
    obtain ⟨e3, e4⟩ := nums_cut r r' x y (by simpa using hl) (fun n hn => h1 n (List.mem_cons_of_mem _ hn)) (fun n hn => h2 n (List.mem_cons_of_mem _ hn)) e2
    exact ⟨by rw [e1, e3], e4⟩
theorem encP_cut {e e' : Pf} {x y : List UInt8} (h1 : PfOk e) (h2 : PfOk e') (h : encP e ++ x = encP e' ++ y) : e = e' ∧ x = y := by
  obtain ⟨v, s, bd, fr⟩ := e
  obtain ⟨v', s', bd', fr'⟩ := e'
  have a1 := h1.v; have a2 := h1.s; have a3 := h1.b; have a4 := h1.n; have a5 := h1.f
  have b1 := h2.v; have b2 := h2.s; have b3 := h2.b; have b4 := h2.n; have b5 := h2.f
  simp only at a1 a2 a3 a4 a5 b1 b2 b3 b4 b5
  simp only [encP, List.append_assoc] at h
  obtain ⟨e1, h⟩ := int_cut ⟨a1.1, by omega⟩ ⟨b1.1, by omega⟩ h
  obtain ⟨e2, h⟩ := int_cut ⟨a2.1, by omega⟩ ⟨b2.1, by omega⟩ h
  obtain ⟨e3, h⟩ := txt_cut a3 b3 h
  obtain ⟨e4, h⟩ := digs_cut (by omega) (by omega) h
  obtain ⟨e5, h⟩ := nums_cut _ _ _ _ e4 a5 b5 h
  exact ⟨by rw [e1, e2, e3, e5], h⟩
theorem flatP_cut : ∀ (l l' : List Pf) (x y : List UInt8), l.length = l'.length → (∀ n ∈ l, PfOk n) → (∀ n ∈ l', PfOk n) → flatP l ++ x = flatP l' ++ y → l = l' ∧ x = y
  | [], [], x, y, _, _, _, h => ⟨rfl, h⟩
  | [], b :: r', x, y, hl, _, _, _ => by simp at hl
  | a :: r, [], x, y, hl, _, _, _ => by simp at hl
  | a :: r, b :: r', x, y, hl, h1, h2, h => by
    simp only [flatP, List.append_assoc] at h
    obtain ⟨e1, e2⟩ := encP_cut (h1 a (List.mem_cons_self ..)) (h2 b (List.mem_cons_self ..)) h
    obtain ⟨e3, e4⟩ := flatP_cut r r' x y (by simpa using hl) (fun n hn => h1 n (List.mem_cons_of_mem _ hn)) (fun n hn => h2 n (List.mem_cons_of_mem _ hn)) e2
    exact ⟨by rw [e1, e3], e4⟩
theorem encPs_cut {l l' : List Pf} {x y : List UInt8} (n1 : l.length ≤ 64) (n2 : l'.length ≤ 64) (h1 : ∀ n ∈ l, PfOk n) (h2 : ∀ n ∈ l', PfOk n) (h : encPs l ++ x = encPs l' ++ y) : l = l' ∧ x = y := by
  simp only [encPs, List.append_assoc] at h
  obtain ⟨e1, h⟩ := digs_cut (by omega) (by omega) h
  exact flatP_cut _ _ _ _ e1 h1 h2 h
theorem encC_cut {e e' : Ch} {x y : List UInt8} (h1 : ChOk e) (h2 : ChOk e') (h : encC e ++ x = encC e' ++ y) : e = e' ∧ x = y := by
  obtain ⟨v, s, fr⟩ := e
  obtain ⟨v', s', fr'⟩ := e'
  have a1 := h1.f; have a2 := h1.v; have a4 := h1.n; have a5 := h1.p
  have b1 := h2.f; have b2 := h2.v; have b4 := h2.n; have b5 := h2.p
  simp only at a1 a2 a4 a5 b1 b2 b4 b5
  simp only [encC, List.append_assoc] at h
  obtain ⟨e1, h⟩ := int_cut ⟨a1.1, by omega⟩ ⟨b1.1, by omega⟩ h
  obtain ⟨e2, h⟩ := int_cut ⟨a2.1, by omega⟩ ⟨b2.1, by omega⟩ h
  obtain ⟨e5, h⟩ := encPs_cut a4 b4 a5 b5 h
  exact ⟨by rw [e1, e2, e5], h⟩
theorem flatC_cut : ∀ (l l' : List Ch) (x y : List UInt8), l.length = l'.length → (∀ n ∈ l, ChOk n) → (∀ n ∈ l', ChOk n) → flatC l ++ x = flatC l' ++ y → l = l' ∧ x = y
  | [], [], x, y, _, _, _, h => ⟨rfl, h⟩
  | [], b :: r', x, y, hl, _, _, _ => by simp at hl
  | a :: r, [], x, y, hl, _, _, _ => by simp at hl
  | a :: r, b :: r', x, y, hl, h1, h2, h => by
    simp only [flatC, List.append_assoc] at h
    obtain ⟨e1, e2⟩ := encC_cut (h1 a (List.mem_cons_self ..)) (h2 b (List.mem_cons_self ..)) h
    obtain ⟨e3, e4⟩ := flatC_cut r r' x y (by simpa using hl) (fun n hn => h1 n (List.mem_cons_of_mem _ hn)) (fun n hn => h2 n (List.mem_cons_of_mem _ hn)) e2
    exact ⟨by rw [e1, e3], e4⟩
theorem encM_cut {m m' : Ms} {x y : List UInt8} (h1 : MsOk m) (h2 : MsOk m') (h : encM m ++ x = encM m' ++ y) : m = m' ∧ x = y := by
  obtain ⟨k, f, v, s, bd, pl, cl⟩ := m
  obtain ⟨k', f', v', s', bd', pl', cl'⟩ := m'
  have a1 := h1.k; have a2 := h1.f; have a3 := h1.v; have a4 := h1.s; have a5 := h1.b; have a6 := h1.pn; have a7 := h1.p; have a8 := h1.cn; have a9 := h1.c
  have b1 := h2.k; have b2 := h2.f; have b3 := h2.v; have b4 := h2.s; have b5 := h2.b; have b6 := h2.pn; have b7 := h2.p; have b8 := h2.cn; have b9 := h2.c
  simp only at a1 a2 a3 a4 a5 a6 a7 a8 a9 b1 b2 b3 b4 b5 b6 b7 b8 b9
  have a4' : s ≤ 1000 := by split at a4 <;> omega
  have b4' : s' ≤ 1000 := by split at b4 <;> omega
  simp only [encM, List.append_assoc] at h
  obtain ⟨e1, h⟩ := int_cut ⟨by omega, by omega⟩ ⟨by omega, by omega⟩ h
  obtain ⟨e2, h⟩ := int_cut ⟨a2.1, by omega⟩ ⟨b2.1, by omega⟩ h
  obtain ⟨e3, h⟩ := int_cut ⟨a3.1, by omega⟩ ⟨b3.1, by omega⟩ h
  obtain ⟨e4, h⟩ := int_cut ⟨a4.1, a4'⟩ ⟨b4.1, b4'⟩ h
  obtain ⟨e5, h⟩ := txt_cut a5 b5 h
  obtain ⟨e6, h⟩ := encPs_cut a6 b6 a7 b7 h
  obtain ⟨e7, h⟩ := digs_cut (by omega) (by omega) h
  obtain ⟨e8, h⟩ := flatC_cut _ _ _ _ e7 a9 b9 h
  exact ⟨by rw [e1, e2, e3, e4, e5, e6, e8], h⟩
theorem encM_inj {m m' : Ms} (h1 : MsOk m) (h2 : MsOk m') (h : encM m = encM m') : m = m' := (encM_cut (x := []) (y := []) h1 h2 (by rw [h])).1
end Go.Proofs.Ytbcemghkmmbmdaa.Msg
