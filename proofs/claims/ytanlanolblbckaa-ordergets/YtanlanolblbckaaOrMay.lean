/-
  Which requests may be, in plain mathematics: a name is a path of one part; all that may be is within the reader's limits; what bytes are a request's.
-/
import Derived.Test.YtanlanolblbckaaOrMath
namespace Go.Proofs.Ytanlanolblbckaa.Order
open Route

theorem decode_four_most (s : ByteArray) (i : Nat) : (Utf8.decode s i).2 ≤ 4 := by
  unfold Utf8.decode
  simp only
  repeat' split
  all_goals simp

/-- Characters of a part: no slash among them, and at most four bytes each. -/
theorem runes_some (s : ByteArray) : ∀ (f p n : Nat), s.size ≤ p + f → runes s f p = some n → s.size ≤ p + 4 * n ∧ ∀ j, p ≤ j → j < s.size → bt s j ≠ 47
  | 0, p, n, hf, h => by
    refine ⟨by omega, fun j h1 h2 => by omega⟩
  | f + 1, p, n, hf, h => by
    by_cases hp : p < s.size
    · cases hk : okc (Utf8.decode s p).1 with
      | false => rw [runes_bad s f p hp hk] at h; cases h
      | true =>
        rw [runes_ok s f p hp hk] at h
        obtain ⟨m, hm, rfl⟩ := Option.map_eq_some_iff.1 h
        have hw := width_pos s p hp
        have hw4 := decode_four_most s p
        obtain ⟨h1, h2⟩ := runes_some s f (p + (Utf8.decode s p).2) m (by omega) hm
        refine ⟨by omega, fun j g1 g2 => ?_⟩
        by_cases e : j = p
        · subst e
          intro e47
          have e1 : Utf8.decode s j = (47, 1) := by
            have ha := bt_at s j hp
            have := decode_ascii s j hp (by omega)
            rw [this, ha, e47]
          rw [e1] at hk
          exact absurd hk (by decide)
        · by_cases hlt : j < p + (Utf8.decode s p).2
          · have := (step_no_slash s p (j - p) hp (by omega) (by omega)).2
            rwa [show p + (j - p) = j from by omega] at this
          · exact h2 j (by omega) g2
    · exact ⟨by omega, fun j h1 h2 => by omega⟩

theorem part_runes {s : ByteArray} (h : isPart s = true) : ∃ n, runes s s.size 0 = some n ∧ n ≤ 16 := by
  unfold isPart at h
  cases e : runes s s.size 0 with
  | none => rw [e] at h; cases h
  | some n =>
    rw [e] at h
    simp only [told, Bool.and_eq_true, decide_eq_true_eq] at h
    exact ⟨n, rfl, h.1.1.2⟩

theorem part_size {s : ByteArray} (h : isPart s = true) : s.size ≤ 64 := by
  obtain ⟨n, e, hn⟩ := part_runes h
  have := (runes_some s s.size 0 n (by omega) e).1
  omega

theorem extract_all (s : ByteArray) : s.extract 0 s.size = s := by
  apply ByteArray.ext; simp [ByteArray.extract, ByteArray.copySlice]

theorem parts_none {s : ByteArray} (h : ∀ j, j < s.size → bt s j ≠ 47) : parts s = [s] := by
  have := pieces_skip s 0 0 0 s.size (fun j hj => by rw [Nat.zero_add]; exact ⟨hj, h j hj⟩)
  rw [Nat.zero_add] at this
  unfold parts
  rw [this]
  show [s.extract 0 s.size] = [s]
  rw [extract_all]

theorem pieces_one (s : ByteArray) : ∀ (f st i : Nat), s.size ≤ i + f → (pieces s f st i).length = 1 → pieces s f st i = [s.extract st s.size]
  | 0, st, i, _, _ => rfl
  | f + 1, st, i, hf, h => by
    by_cases hi : i < s.size
    · by_cases hb : bt s i = 47
      · rw [pieces_slash s f st i hi hb, List.length_cons] at h
        have := List.length_pos_iff.2 (pieces_ne s f (i + 1) (i + 1))
        omega
      · rw [pieces_on s f st i hi hb] at h ⊢
        exact pieces_one s f st (i + 1) (by omega) h
    · exact pieces_end s _ st i hi

/-- A name is a path of one part. -/
theorem name_iff (s : ByteArray) : (isPath s && decide ((parts s).length = 1)) = isPart s := by
  cases h : isPart s with
  | true =>
    obtain ⟨n, e, hn⟩ := part_runes h
    have hp := parts_none (s := s) fun j hj => (runes_some s s.size 0 n (by omega) e).2 j (Nat.zero_le _) hj
    rw [isPath, hp]
    simp [arePath, h]
  | false =>
    cases h1 : decide ((parts s).length = 1) with
    | false => simp
    | true =>
      have hp := pieces_one s s.size 0 0 (by omega) (of_decide_eq_true h1)
      rw [extract_all] at hp
      have hp' : parts s = [s] := hp
      rw [isPath, hp']
      simp [arePath, h]

theorem pieces_total (s : ByteArray) (M : Nat) : ∀ (f st i : Nat), s.size ≤ i + f → st ≤ i → (∀ x ∈ pieces s f st i, x.size ≤ M) → s.size - st ≤ (pieces s f st i).length * (M + 1)
  | 0, st, i, hf, hs, h => by
    have := h (s.extract st s.size) (by simp [pieces])
    rw [ByteArray.size_extract] at this
    show s.size - st ≤ 1 * (M + 1)
    omega
  | f + 1, st, i, hf, hs, h => by
    by_cases hi : i < s.size
    · by_cases hb : bt s i = 47
      · rw [pieces_slash s f st i hi hb] at h ⊢
        have h0 := h (s.extract st i) List.mem_cons_self
        rw [ByteArray.size_extract] at h0
        have ih := pieces_total s M f (i + 1) (i + 1) (by omega) (Nat.le_refl _) fun x hx => h x (List.mem_cons_of_mem _ hx)
        rw [List.length_cons, Nat.succ_mul]
        omega
      · rw [pieces_on s f st i hi hb] at h ⊢
        exact pieces_total s M f st (i + 1) (by omega) (by omega) h
    · rw [pieces_end s _ st i hi] at h ⊢
      have := h _ List.mem_cons_self
      rw [ByteArray.size_extract] at this
      show s.size - st ≤ 1 * (M + 1)
      omega

theorem path_size {s : ByteArray} (h : isPath s = true) : s.size ≤ 520 := by
  unfold isPath arePath at h
  simp only [Bool.and_eq_true, decide_eq_true_eq, List.all_eq_true] at h
  have := pieces_total s 64 s.size 0 0 (by omega) (Nat.le_refl _) fun x hx => part_size (h.2 x hx)
  have h2 : (pieces s s.size 0 0).length ≤ 8 := h.1.2
  have h3 : (pieces s s.size 0 0).length * 65 ≤ 8 * 65 := Nat.mul_le_mul_right _ h2
  omega

def within (n lo hi : Int) : Bool := decide (lo ≤ n) && decide (n ≤ hi)
def keyOk (s : ByteArray) : Bool := within s.size 1 64
def keysOk (l : List ByteArray) : Bool := decide (l.length ≤ 16) && l.all keyOk
def noText (s : ByteArray) : Bool := decide (s.size = 0)
def noKeys (l : List ByteArray) : Bool := decide (l.length = 0)
def isZero (n : Int) : Bool := decide (n = 0)

/-- May an operation be? -/
def mayOp (r : Rq) : Bool :=
  if r.k = 1 ∨ r.k = 3 ∨ r.k = 4 ∨ r.k = 7 then isPart r.nm && noText r.pt && noKeys r.ks && isZero r.n
  else if r.k = 2 then isPart r.nm && isPath r.pt && keysOk r.ks && isZero r.n
  else if r.k = 6 then isPart r.nm && isPath r.pt && noKeys r.ks && isZero r.n
  else if r.k = 8 then noText r.nm && noText r.pt && noKeys r.ks && within r.n 0 100
  else if r.k = 5 ∨ r.k = 9 then noText r.nm && noText r.pt && noKeys r.ks && isZero r.n
  else false
/-- May a request be? -/
def may (r : Rq) : Bool := within r.c 0 7 && within r.t 1 1000 && mayOp r

theorem within_iff {n lo hi : Int} : within n lo hi = true ↔ lo ≤ n ∧ n ≤ hi := by simp [within]
theorem noKeys_iff {l : List ByteArray} : noKeys l = true ↔ l = [] := by simp [noKeys]
theorem keysOk_iff {l : List ByteArray} : keysOk l = true ↔ l.length ≤ 16 ∧ ∀ s ∈ l, 1 ≤ s.size ∧ s.size ≤ 64 := by
  simp only [keysOk, keyOk, within, Bool.and_eq_true, decide_eq_true_eq, List.all_eq_true]
  constructor
  · exact fun h => ⟨h.1, fun s hs => by have := h.2 s hs; omega⟩
  · exact fun h => ⟨h.1, fun s hs => by have := h.2 s hs; omega⟩

structure Ok (r : Rq) : Prop where
  c : 0 ≤ r.c ∧ r.c ≤ 7
  t : 1 ≤ r.t ∧ r.t ≤ 1000
  k : 1 ≤ r.k ∧ r.k ≤ 9
  n : 0 ≤ r.n ∧ r.n ≤ 100
  nm : r.nm.size ≤ 64
  pt : r.pt.size ≤ 520
  kl : r.ks.length ≤ 16
  ks : ∀ s ∈ r.ks, 1 ≤ s.size ∧ s.size ≤ 64

theorem may_ok {r : Rq} (h : may r = true) : Ok r := by
  simp only [may, Bool.and_eq_true, within_iff] at h
  obtain ⟨⟨hc, ht⟩, ho⟩ := h
  have no : ∀ {l : List ByteArray}, noKeys l = true → l.length ≤ 16 ∧ ∀ s ∈ l, 1 ≤ s.size ∧ s.size ≤ 64 := fun {l} h => by
    rw [noKeys_iff] at h; subst h; exact ⟨Nat.zero_le _, fun s hs => by cases hs⟩
  have nt : ∀ {s : ByteArray} (m : Nat), noText s = true → s.size ≤ m := fun {s} m h => by
    simp only [noText, decide_eq_true_eq] at h; omega
  have nz : ∀ {n : Int}, isZero n = true → 0 ≤ n ∧ n ≤ 100 := fun {n} h => by
    simp only [isZero, decide_eq_true_eq] at h; omega
  unfold mayOp at ho
  split at ho
  · simp only [Bool.and_eq_true] at ho
    exact ⟨hc, ht, by omega, nz ho.2, part_size ho.1.1.1, nt _ ho.1.1.2, (no ho.1.2).1, (no ho.1.2).2⟩
  split at ho
  · simp only [Bool.and_eq_true] at ho
    exact ⟨hc, ht, by omega, nz ho.2, part_size ho.1.1.1, path_size ho.1.1.2, (keysOk_iff.1 ho.1.2).1, (keysOk_iff.1 ho.1.2).2⟩
  split at ho
  · simp only [Bool.and_eq_true] at ho
    exact ⟨hc, ht, by omega, nz ho.2, part_size ho.1.1.1, path_size ho.1.1.2, (no ho.1.2).1, (no ho.1.2).2⟩
  split at ho
  · simp only [Bool.and_eq_true] at ho
    exact ⟨hc, ht, by omega, within_iff.1 ho.2, nt _ ho.1.1.1, nt _ ho.1.1.2, (no ho.1.2).1, (no ho.1.2).2⟩
  split at ho
  · simp only [Bool.and_eq_true] at ho
    exact ⟨hc, ht, by omega, nz ho.2, nt _ ho.1.1.1, nt _ ho.1.1.2, (no ho.1.2).1, (no ho.1.2).2⟩
  · cases ho

/-- The program's limits, and the document's answer's. -/
theorem fits_prog {r : Rq} (h : may r = true) : Fits r 7 1000 9 100 16 64 := by
  have o := may_ok h
  exact ⟨o.c, ⟨by have := o.t; omega, o.t.2⟩, ⟨by have := o.k; omega, o.k.2⟩, o.n, by have := o.nm; omega, by have := o.pt; omega, o.kl, fun s hs => (o.ks s hs).2, by omega⟩
theorem fits_ref {r : Rq} (h : may r = true) : Fits r 65536 65536 65536 65536 65536 4096 := by
  have o := may_ok h
  exact ⟨by have := o.c; omega, by have := o.t; omega, by have := o.k; omega, by have := o.n; omega, by have := o.nm; omega, by have := o.pt; omega, by have := o.kl; omega, fun s hs => by have := (o.ks s hs).2; omega, by omega⟩

/-- The bytes of a request that may be, and no others. -/
def IsReq (l : List UInt8) : Prop := ∃ r, may r = true ∧ l = enc r

/-- What a reader's readings come to, if all was there, nothing stands behind it, and it may be. -/
theorem told_is {l : List UInt8} {m1 m2 m3 m4 m7 m8 : Nat} (hf : (reqOf l m1 m2 m3 m4 m7 m8).2.2 = false) (hl : l.length ≤ (reqOf l m1 m2 m3 m4 m7 m8).2.1) : l = enc (reqOf l m1 m2 m3 m4 m7 m8).1 := by
  have := reqOf_sound hf
  rw [List.drop_eq_nil_of_le hl, List.append_nil] at this
  exact this
theorem enc_one {r s : Rq} {x y : List UInt8} (hr : may r = true) (hs : may s = true) (h : enc r ++ x = enc s ++ y) : r = s ∧ x = y := by
  have h1 := reqOf_read (l := enc r ++ x) (fits_prog hr) rfl
  have h2 := reqOf_read (l := enc r ++ x) (fits_prog hs) h
  have e := h1.symm.trans h2
  have e1 : r = s := congrArg Prod.fst e
  subst e1
  exact ⟨rfl, List.append_cancel_left h⟩
theorem enc_len {r : Rq} (h : may r = true) : (enc r).length ≤ 10000 := by
  have o := may_ok h
  have d : ∀ n : Nat, n < 18446744073709551616 → (digs n).length ≤ 10 := fun n h => digs_len10 h
  have t : ∀ (l : List ByteArray), (∀ s ∈ l, 1 ≤ s.size ∧ s.size ≤ 64) → (txts l).length ≤ l.length * 74 := fun l => by
    induction l with
    | nil => intro _; simp [txts]
    | cons a r ih =>
      intro h
      have h1 := h a List.mem_cons_self
      have h2 := ih fun s hs => h s (List.mem_cons_of_mem _ hs)
      have h3 := d a.size (by omega)
      have h4 : a.data.toList.length = a.size := by simp
      simp only [txts, txt, List.length_append, List.length_cons, h4, Nat.succ_mul]
      omega
  have h1 := d r.c.toNat (by have := o.c; omega)
  have h2 := d r.t.toNat (by have := o.t; omega)
  have h3 := d r.k.toNat (by have := o.k; omega)
  have h4 := d r.n.toNat (by have := o.n; omega)
  have h5 := d r.nm.size (by have := o.nm; omega)
  have h6 := d r.pt.size (by have := o.pt; omega)
  have h7 := d r.ks.length (by have := o.kl; omega)
  have h8 := t r.ks o.ks
  have h9 : r.ks.length * 74 ≤ 16 * 74 := Nat.mul_le_mul_right _ o.kl
  have e1 : r.nm.data.toList.length = r.nm.size := by simp
  have e2 : r.pt.data.toList.length = r.pt.size := by simp
  have := o.nm
  have := o.pt
  simp only [enc, txt, List.length_append, e1, e2]
  omega
end Go.Proofs.Ytanlanolblbckaa.Order
