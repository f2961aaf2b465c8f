/-
  The answer's reading, in plain mathematics, beside the program's.
-/
import Derived.Test.YtanlanolblbckaaOrRRead
import Derived.Test.YtanlanolblbckaaOrGet
namespace Go.Proofs.Ytanlanolblbckaa.Order
open Route

def texs3 (l : List UInt8) : Nat → Nat → Bool → List ByteArray × Nat × Bool
  | 0, p, f => ([], p, f)
  | _ + 1, p, true => ([], p, true)
  | k + 1, p, false => ((tex2 l p false).1 :: (texs3 l k (tex2 l p false).2.1 (tex2 l p false).2.2).1, (texs3 l k (tex2 l p false).2.1 (tex2 l p false).2.2).2)

def reqOf3 (l : List UInt8) : Rq × Nat × Bool :=
  let a := num l 65536 0 false
  let b := num l 65536 a.2.1 a.2.2
  let c := num l 65536 b.2.1 b.2.2
  let d := num l 65536 c.2.1 c.2.2
  let e := tex2 l d.2.1 d.2.2
  let g := tex2 l e.2.1 e.2.2
  let h := num l 65536 g.2.1 g.2.2
  let i := texs3 l h.1 h.2.1 h.2.2
  (⟨a.1, b.1, c.1, d.1, e.1, g.1, i.1⟩, i.2)

/-- Two readers that stand alike, if they haven't failed. -/
def Alike (s t : Nat × Bool) : Prop := s.2 = t.2 ∧ (s.2 = false → s.1 = t.1)

theorem num_alike {l : List UInt8} {m : Nat} {s t : Nat × Bool} (h : Alike s t) : (num l m s.1 s.2).1 = (num l m t.1 t.2).1 ∧ Alike (num l m s.1 s.2).2 (num l m t.1 t.2).2 := by
  obtain ⟨p, f⟩ := s
  obtain ⟨q, g⟩ := t
  obtain ⟨h1, h2⟩ := h
  simp only at h1 h2
  subst h1
  cases f with
  | true => exact ⟨rfl, rfl, fun h => by cases h⟩
  | false => have := h2 rfl; subst this; exact ⟨rfl, rfl, fun _ => rfl⟩
theorem tex_alike {l : List UInt8} {s t : Nat × Bool} (h : Alike s t) : (tex2 l s.1 s.2).1 = (tex l 4096 t.1 t.2).1 ∧ Alike (tex2 l s.1 s.2).2 (tex l 4096 t.1 t.2).2 := by
  obtain ⟨p, f⟩ := s
  obtain ⟨q, g⟩ := t
  obtain ⟨h1, h2⟩ := h
  simp only at h1 h2
  subst h1
  cases f with
  | true => exact ⟨rfl, rfl, fun h => by cases h⟩
  | false =>
    have := h2 rfl; subst this
    simp only
    unfold tex2 tex px
    cases hp : pn l 4096 p with
    | none => exact ⟨rfl, rfl, fun h => by cases h⟩
    | some vq =>
      obtain ⟨v, q⟩ := vq
      simp only
      by_cases hb : l.length < q + v
      · rw [if_pos hb, if_pos hb]; exact ⟨rfl, rfl, fun h => by cases h⟩
      · rw [if_neg hb, if_neg hb]; exact ⟨rfl, rfl, fun _ => rfl⟩
theorem texs_alike {l : List UInt8} : ∀ (k : Nat) (s t : Nat × Bool), Alike s t → Alike (texs3 l k s.1 s.2).2 (texs l 4096 k t.1 t.2).2 ∧ ((texs3 l k s.1 s.2).2.2 = false → (texs3 l k s.1 s.2).1 = (texs l 4096 k t.1 t.2).1)
  | 0, _, _, h => ⟨h, fun _ => rfl⟩
  | k + 1, (p, true), (q, g), h => by
    have h1 : true = g := h.1
    subst h1
    have hb := texs_bad (l := l) (m := 4096) (k + 1) q
    exact ⟨⟨by rw [hb]; rfl, fun h => by cases h⟩, fun h => by cases h⟩
  | k + 1, (p, false), (q, g), h => by
    have h1 : false = g := h.1
    have h2 : p = q := h.2 rfl
    subst h1; subst h2
    have ht := tex_alike (l := l) (s := (p, false)) (t := (p, false)) ⟨rfl, fun _ => rfl⟩
    have ih := texs_alike (l := l) k _ _ ht.2
    refine ⟨ih.1, fun h => ?_⟩
    have := ih.2 h
    show (tex2 l p false).1 :: (texs3 l k (tex2 l p false).2.1 (tex2 l p false).2.2).1 = (tex l 4096 p false).1 :: (texs l 4096 k (tex l 4096 p false).2.1 (tex l 4096 p false).2.2).1
    rw [ht.1, this]

theorem reqOf3_alike (l : List UInt8) : (reqOf3 l).2.2 = (reqOf l 65536 65536 65536 65536 65536 4096).2.2 ∧ ((reqOf3 l).2.2 = false → reqOf3 l = reqOf l 65536 65536 65536 65536 65536 4096) := by
  unfold reqOf3 reqOf
  simp only
  generalize num l 65536 0 false = a
  generalize num l 65536 a.2.1 a.2.2 = b
  generalize num l 65536 b.2.1 b.2.2 = c
  generalize num l 65536 c.2.1 c.2.2 = d
  have h1 := tex_alike (l := l) (s := d.2) (t := d.2) ⟨rfl, fun _ => rfl⟩
  have h2 := tex_alike (l := l) h1.2
  have h3 := num_alike (l := l) (m := 65536) h2.2
  have h4 := texs_alike (l := l) (num l 65536 (tex2 l (tex2 l d.2.1 d.2.2).2.1 (tex2 l d.2.1 d.2.2).2.2).2.1 (tex2 l (tex2 l d.2.1 d.2.2).2.1 (tex2 l d.2.1 d.2.2).2.2).2.2).1 _ _ h3.2
  rw [← h3.1, ← h2.1, ← h1.1]
  refine ⟨h4.1.1, fun h => ?_⟩
  have h5 := h4.2 h
  have h6 := h4.1.2 h
  rw [← h5]
  exact Prod.ext rfl (Prod.ext h6 h4.1.1)

theorem reqOf3_sizes (l : List UInt8) : (reqOf3 l).2.2 = false → (reqOf3 l).1.nm.size ≤ 4096 ∧ (reqOf3 l).1.pt.size ≤ 4096 := fun h => by
  rw [(reqOf3_alike l).2 h]
  exact ⟨(reqOf_sizes l _ _ _ _ _ _).1, (reqOf_sizes l _ _ _ _ _ _).2.1⟩
theorem texs3_len {l : List UInt8} : ∀ (k p : Nat) (f : Bool), (texs3 l k p f).1.length ≤ k
  | 0, _, _ => Nat.le_refl _
  | _ + 1, _, true => Nat.zero_le _
  | k + 1, p, false => by
    have := texs3_len (l := l) k (tex2 l p false).2.1 (tex2 l p false).2.2
    show _ + 1 ≤ _
    omega
end Go.Proofs.Ytanlanolblbckaa.Order
