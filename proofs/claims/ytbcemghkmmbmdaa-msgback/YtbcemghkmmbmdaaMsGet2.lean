/-
  Get: the message of any bytes, or that they are none's.
-/
import Derived.Test.YtbcemghkmmbmdaaMsGet
namespace Go.Proofs.Ytbcemghkmmbmdaa.Msg
open Go.RowKit Route Order

theorem IRow.sees {B : Nat} {v : Value} {L : List Int} {w : World} (h : IRow B v L w) : ∃ a c, v = .slice a L.length c ∧ LiesI w a L := by
  rcases h.2 with ⟨rfl, hn⟩ | ⟨g, cap, cur, rfl, hb, hg, hnc, hcm, hcs, ht⟩
  · have : L = [] := List.eq_nil_of_length_eq_zero hn
    subst this
    exact ⟨none, 0, rfl, .inl rfl⟩
  · refine ⟨_, cap, rfl, .inr ⟨_, rfl, fun j hj => ?_⟩⟩
    have h1 := World.ownsRow.cellAt h j (by omega)
    rw [Go.WideShapes.add_plain, Nat.zero_add, h1]
    simp [iv, inAt, List.getD_eq_getElem?_getD, hj]
def pzAt (Z : List PZ) (j : Nat) : PZ := Z.getD j (noPf, .nilIface)
theorem pcells_at : ∀ (Z : List PZ) (j : Nat), j < Z.length → (pcells Z)[j * 4]? = some (.int .i64 (pzAt Z j).1.1) ∧ (pcells Z)[j * 4 + 1]? = some (.int .i64 (pzAt Z j).1.2.1) ∧ (pcells Z)[j * 4 + 2]? = some (.string (pzAt Z j).1.2.2.1) ∧ (pcells Z)[j * 4 + 3]? = some (pzAt Z j).2
  | [], j, hj => by simp at hj
  | z :: Z, 0, _ => by simp [pcells, pzAt]
  | z :: Z, j + 1, hj => by
    have ih := pcells_at Z j (by simpa using hj)
    have e : ∀ c, (pcells (z :: Z))[(j + 1) * 4 + c]? = (pcells Z)[j * 4 + c]? := fun c => by
      have h4 : (j + 1) * 4 + c = 4 + (j * 4 + c) := by omega
      rw [h4]
      simp only [pcells, List.flatMap_cons]
      rw [List.getElem?_append_right (by simp)]
      congr 1
      simp
    have e0 := e 0
    simp only [Nat.add_zero] at e0
    rw [e0, e 1, e 2, e 3]
    exact ih
def czAt (Z : List CZ) (j : Nat) : CZ := Z.getD j (0, 0, .nilIface, [])
theorem ccells_at : ∀ (Z : List CZ) (j : Nat), j < Z.length → (ccells Z)[j * 3]? = some (.int .i64 (czAt Z j).1) ∧ (ccells Z)[j * 3 + 1]? = some (.int .i64 (czAt Z j).2.1) ∧ (ccells Z)[j * 3 + 2]? = some (czAt Z j).2.2.1
  | [], j, hj => by simp at hj
  | z :: Z, 0, _ => by simp [ccells, czAt]
  | z :: Z, j + 1, hj => by
    have ih := ccells_at Z j (by simpa using hj)
    have e : ∀ c, (ccells (z :: Z))[(j + 1) * 3 + c]? = (ccells Z)[j * 3 + c]? := fun c => by
      have h4 : (j + 1) * 3 + c = 3 + (j * 3 + c) := by omega
      rw [h4]
      simp only [ccells, List.flatMap_cons]
      rw [List.getElem?_append_right (by simp)]
      congr 1
      simp
    have e0 := e 0
    simp only [Nat.add_zero] at e0
    rw [e0, e 1, e 2]
    exact ih
theorem PRow.sees {B : Nat} {v : Value} {Z : List PZ} {w : World} (h : PRow B v Z w) : ∃ a c, v = .slice a Z.length c ∧ LiesP w a (Z.map (·.1)) := by
  obtain ⟨ho, hs⟩ := h
  rcases ho.2 with ⟨rfl, hn⟩ | ⟨g, cap, cur, rfl, hb, hg, hnc, hcm, hcs, ht⟩
  · have : Z = [] := List.eq_nil_of_length_eq_zero hn
    subst this
    exact ⟨none, 0, rfl, .inl rfl⟩
  · refine ⟨_, cap, rfl, .inr ⟨_, rfl, fun j hj => ?_⟩⟩
    have hj' : j < Z.length := by simpa using hj
    obtain ⟨e0, e1, e2, e3⟩ := pcells_at Z j hj'
    have hc := fun c (hc : c < 4) => World.ownsRow.cellAt ho (j * 4 + c) (by omega)
    have hc0 := hc 0 (by omega)
    simp only [Nat.add_zero] at hc0
    have em : pfAt (Z.map (·.1)) j = (pzAt Z j).1 := by simp [pfAt, pzAt, List.getD_eq_getElem?_getD, hj']
    have hmem : pzAt Z j ∈ Z := by simp [pzAt, List.getD_eq_getElem?_getD, hj']
    obtain ⟨fa, fc, hv, hf⟩ := (hs _ hmem).sees
    rw [em, Go.WideShapes.add_plain, Nat.zero_add]
    exact ⟨hc0.trans e0, (hc 1 (by omega)).trans e1, (hc 2 (by omega)).trans e2, fa, fc, by rw [← hv]; exact (hc 3 (by omega)).trans e3, hf⟩
theorem CRow.sees {B : Nat} {v : Value} {Z : List CZ} {w : World} (h : CRow B v Z w) : ∃ a c, v = .slice a Z.length c ∧ LiesC w a (Z.map chOf) := by
  obtain ⟨ho, hs⟩ := h
  rcases ho.2 with ⟨rfl, hn⟩ | ⟨g, cap, cur, rfl, hb, hg, hnc, hcm, hcs, ht⟩
  · have : Z = [] := List.eq_nil_of_length_eq_zero hn
    subst this
    exact ⟨none, 0, rfl, .inl rfl⟩
  · refine ⟨_, cap, rfl, .inr ⟨_, rfl, fun j hj => ?_⟩⟩
    have hj' : j < Z.length := by simpa using hj
    obtain ⟨e0, e1, e2⟩ := ccells_at Z j hj'
    have hc := fun c (hc : c < 3) => World.ownsRow.cellAt ho (j * 3 + c) (by omega)
    have hc0 := hc 0 (by omega)
    simp only [Nat.add_zero] at hc0
    have em : chAt (Z.map chOf) j = chOf (czAt Z j) := by simp [chAt, czAt, List.getD_eq_getElem?_getD, hj']
    have hmem : czAt Z j ∈ Z := by simp [czAt, List.getD_eq_getElem?_getD, hj']
    obtain ⟨fa, fc, hv, hf⟩ := (hs _ hmem).sees
    rw [em, Go.WideShapes.add_plain, Nat.zero_add]
    exact ⟨hc0.trans e0, (hc 1 (by omega)).trans e1, fa, fc, by unfold chOf; simp only [List.length_map]; rw [← hv]; exact (hc 2 (by omega)).trans e2, hf⟩
/-- A message that was read lies in memory. -/
theorem MRow.sees {B : Nat} {m : MZ} {w : World} (h : MRow B m w) : ∃ a c a' c', m.pv = .slice a m.p.length c ∧ m.cv = .slice a' m.c.length c' ∧ MsIn w (msOf m) a m.p.length a' m.c.length := by
  obtain ⟨a, c, h1, h2⟩ := h.1.sees
  obtain ⟨a', c', h3, h4⟩ := h.2.sees
  exact ⟨a, c, a', c', h1, h3, by simp [msOf], h2, by simp [msOf], h4⟩

/-- 'done?'. -/
theorem done_any {w : World} {p : Nat} {a : Option Addr} {n cap : Nat} {l : List UInt8} {x : Nat} {f : Bool} (h : Rd 70 w p a n cap l x f) :
    Calls Try.prog 34 #[.pointer (some ⟨p, 0, none⟩)] w fun e w' => e = .returned (.bool (!f && decide (x = n))) ∧ Below w.heap.size w w' := by
  cases f with
  | true => exact done_bad h
  | false =>
    obtain ⟨c0, c1, c2, _, _, _⟩ := three h.box
    clear h
    by_cases hx : x = n
    · subst hx
      have e0 : ((x : Int) == (x : Int)) = true := by simp
      go_enter Try.func34, Try.ntmps34
      go_wp2_with fail
      go_quiet (fail)
      go_wp2
      go_ret
      exact ⟨by simp, below_drewN (Below.refl _ _) _⟩
    · have e0 : ((x : Int) == (n : Int)) = false := by simp; omega
      go_enter Try.func34, Try.ntmps34
      go_wp2_with fail
      go_quiet (fail)
      go_wp2
      go_ret
      exact ⟨by simp [hx], below_drewN (Below.refl _ _) _⟩

/-- What was read has lengths that a machine may have. -/
theorem numsR_few (l : List UInt8) (s : St) : (numsR l (num l 13 s.1 s.2).1 (num l 13 s.1 s.2).2).1.length ≤ 2147483647 := by
  rw [numsR_cnt]
  unfold num
  split
  · omega
  · omega
  · rename_i n q e
    unfold pn at e
    split at e
    · cases e
    · simp only [Option.some.injEq, Prod.mk.injEq] at e; omega
end Go.Proofs.Ytbcemghkmmbmdaa.Msg
