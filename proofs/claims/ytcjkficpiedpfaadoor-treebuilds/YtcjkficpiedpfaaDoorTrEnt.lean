/-
  Rows of entries and of files in memory: what they read as, and that they stay so where nothing below has turned.
-/
import Derived.Test.YtcjkficpiedpfaaDoorRtStrs
import Derived.BigQuiet
import Derived.Deep.RegionHeld
namespace Go.Proofs.YtcjkficpiedpfaaDoor.Tree
open Go.RowKit Route

/-- No entry. -/
def noEnt : ByteArray × Int × List ByteArray := (ByteArray.empty, 0, [])
/-- No file. -/
def noFile : ByteArray × ByteArray := (ByteArray.empty, ByteArray.empty)

/-- The j-th entry. -/
def entOf (l : List (ByteArray × Int × List ByteArray)) (j : Nat) : ByteArray × Int × List ByteArray := l.getD j noEnt
/-- The j-th file. -/
def fileOf (l : List (ByteArray × ByteArray)) (j : Nat) : ByteArray × ByteArray := l.getD j noFile

/-- At the slice's address texts lie, and the slice is one that may be. -/
def KeysIn (w : World) (a : Option Addr) (cap : Nat) (l : List ByteArray) : Prop :=
  Lies w a l ∧ l.length ≤ cap ∧ cap ≤ maxLen ∧ (a = none → cap = 0)

theorem KeysIn.below {B : Nat} {w w' : World} {a : Option Addr} {cap : Nat} {l : List ByteArray} (h : KeysIn w a cap l) (hb : Below B w w') (hB : w.heap.size ≤ B) : KeysIn w' a cap l :=
  ⟨h.1.below hb hB, h.2⟩

/-- At the place p an entry lies. -/
def EntAt (w : World) (p : Addr) (e : ByteArray × Int × List ByteArray) : Prop :=
  w.cell? p = some (.string e.1) ∧ w.cell? ⟨p.block, p.off + 1, none⟩ = some (.int .i64 e.2.1) ∧ ∃ ka kc, w.cell? ⟨p.block, p.off + 2, none⟩ = some (.slice ka e.2.2.length kc) ∧ KeysIn w ka kc e.2.2

/-- At the place p a file lies. -/
def FileAt (w : World) (p : Addr) (e : ByteArray × ByteArray) : Prop :=
  w.cell? p = some (.string e.1) ∧ w.cell? ⟨p.block, p.off + 1, none⟩ = some (.string e.2)

theorem cell_below {B : Nat} {w w' : World} {x : Addr} {v : Value} (hb : Below B w w') (hB : w.heap.size ≤ B) (h : w.cell? x = some v) : w'.cell? x = some v := by
  rw [hb.cell (by have := World.block_lt_of_cell? w _ h; omega)]; exact h

theorem EntAt.below {B : Nat} {w w' : World} {p : Addr} {e : ByteArray × Int × List ByteArray} (h : EntAt w p e) (hb : Below B w w') (hB : w.heap.size ≤ B) : EntAt w' p e := by
  obtain ⟨h0, h1, ka, kc, h2, h3⟩ := h
  exact ⟨cell_below hb hB h0, cell_below hb hB h1, ka, kc, cell_below hb hB h2, h3.below hb hB⟩

theorem FileAt.below {B : Nat} {w w' : World} {p : Addr} {e : ByteArray × ByteArray} (h : FileAt w p e) (hb : Below B w w') (hB : w.heap.size ≤ B) : FileAt w' p e :=
  ⟨cell_below hb hB h.1, cell_below hb hB h.2⟩

/-- At the address entries lie. -/
def LiesE (w : World) (a : Option Addr) (l : List (ByteArray × Int × List ByteArray)) : Prop :=
  l = [] ∨ ∃ x, a = some x ∧ ∀ j, j < l.length → EntAt w (x.add (j * 3)) (entOf l j)

/-- At the address files lie. -/
def LiesF (w : World) (a : Option Addr) (l : List (ByteArray × ByteArray)) : Prop :=
  l = [] ∨ ∃ x, a = some x ∧ ∀ j, j < l.length → FileAt w (x.add (j * 2)) (fileOf l j)

theorem LiesE.below {B : Nat} {w w' : World} {a : Option Addr} {l : List (ByteArray × Int × List ByteArray)} (h : LiesE w a l) (hb : Below B w w') (hB : w.heap.size ≤ B) : LiesE w' a l := by
  rcases h with h | ⟨x, rfl, h⟩
  · exact .inl h
  · exact .inr ⟨x, rfl, fun j hj => (h j hj).below hb hB⟩

theorem LiesF.below {B : Nat} {w w' : World} {a : Option Addr} {l : List (ByteArray × ByteArray)} (h : LiesF w a l) (hb : Below B w w') (hB : w.heap.size ≤ B) : LiesF w' a l := by
  rcases h with h | ⟨x, rfl, h⟩
  · exact .inl h
  · exact .inr ⟨x, rfl, fun j hj => (h j hj).below hb hB⟩

theorem LiesE.take {w : World} {a : Option Addr} {l : List (ByteArray × Int × List ByteArray)} (h : LiesE w a l) (m : Nat) : LiesE w a (l.take m) := by
  rcases h with rfl | ⟨x, rfl, h⟩
  · exact .inl (by simp)
  · refine .inr ⟨x, rfl, fun j hj => ?_⟩
    rw [List.length_take] at hj
    have := h j (by omega)
    rw [show entOf (l.take m) j = entOf l j by simp [entOf, List.getD_eq_getElem?_getD, show j < m by omega]]
    exact this

theorem LiesF.take {w : World} {a : Option Addr} {l : List (ByteArray × ByteArray)} (h : LiesF w a l) (m : Nat) : LiesF w a (l.take m) := by
  rcases h with rfl | ⟨x, rfl, h⟩
  · exact .inl (by simp)
  · refine .inr ⟨x, rfl, fun j hj => ?_⟩
    rw [List.length_take] at hj
    have := h j (by omega)
    rw [show fileOf (l.take m) j = fileOf l j by simp [fileOf, List.getD_eq_getElem?_getD, show j < m by omega]]
    exact this

theorem LiesE.at {w : World} {a : Option Addr} {l : List (ByteArray × Int × List ByteArray)} (h : LiesE w a l) {j : Nat} (hj : j < l.length) : ∃ x, a = some x ∧ EntAt w (x.add (j * 3)) (entOf l j) := by
  rcases h with rfl | ⟨x, rfl, h⟩
  · simp at hj
  · exact ⟨x, rfl, h j hj⟩

theorem LiesF.at {w : World} {a : Option Addr} {l : List (ByteArray × ByteArray)} (h : LiesF w a l) {j : Nat} (hj : j < l.length) : ∃ x, a = some x ∧ FileAt w (x.add (j * 2)) (fileOf l j) := by
  rcases h with rfl | ⟨x, rfl, h⟩
  · simp at hj
  · exact ⟨x, rfl, h j hj⟩

theorem len_text (s : ByteArray) (z : Nat) (hz : z = s.size) (w : World) : (Builtin.len_ #[9] 3 #[.string s]).run Tryd.prog w = .ok (.int .i64 (z : Int)) w := by
  rw [run_len_string w 9 3 s Tryd.underlying9, hz]; rfl

set_option maxRecDepth 100000 in
theorem index_ent (x : Addr) (n cap i : Nat) (hi : i < n) (w : World) : (Instr.indexAt 22 (.slice (some x) n cap) (.int .i64 (i : Int))).run Tryd.prog w = .ok (.pointer (some (x.add (i * 3)))) w := by
  rw [run_indexAt_slice w 22 x n cap .i64 i (by kernel_rfl), if_pos (by omega)]
  rfl
set_option maxRecDepth 100000 in
theorem index_file (x : Addr) (n cap i : Nat) (hi : i < n) (w : World) : (Instr.indexAt 41 (.slice (some x) n cap) (.int .i64 (i : Int))).run Tryd.prog w = .ok (.pointer (some (x.add (i * 2)))) w := by
  rw [run_indexAt_slice w 41 x n cap .i64 i (by kernel_rfl), if_pos (by omega)]
  rfl
theorem size30 (w : World) : (sizeOf 30).run Tryd.prog w = .ok 3 w := by kernel_rfl
theorem agg30 (w : World) : (isAgg 30).run Tryd.prog w = .ok true w := by kernel_rfl
theorem size58 (w : World) : (sizeOf 58).run Tryd.prog w = .ok 2 w := by kernel_rfl
theorem agg58 (w : World) : (isAgg 58).run Tryd.prog w = .ok true w := by kernel_rfl

theorem load_ent (p : Addr) (c0 c1 c2 : Value) (w : World) (h0 : w.cell? p = some c0) (h1 : w.cell? ⟨p.block, p.off + 1, none⟩ = some c1) (h2 : w.cell? ⟨p.block, p.off + 2, none⟩ = some c2) :
    (Instr.loadAt 30 (.pointer (some p))).run Tryd.prog w = .ok (.agg #[c0, c1, c2]) w := by
  have h := run_loadCells_list (P := Tryd.prog) w p [c0, c1, c2] (by
    intro j v hj
    match j, hj with
    | 0, hj => simp at hj; subst hj; exact h0
    | 1, hj => simp at hj; subst hj; exact h1
    | 2, hj => simp at hj; subst hj; exact h2
    | (j + 3), hj => simp at hj)
  have h' : (loadCells p 3).run Tryd.prog w = .ok #[c0, c1, c2] w := h
  simp [Instr.loadAt, Instr.sureAddr, loadVar, Result.andThen, h']

theorem load_file (p : Addr) (c0 c1 : Value) (w : World) (h0 : w.cell? p = some c0) (h1 : w.cell? ⟨p.block, p.off + 1, none⟩ = some c1) :
    (Instr.loadAt 58 (.pointer (some p))).run Tryd.prog w = .ok (.agg #[c0, c1]) w := by
  have h := run_loadCells_list (P := Tryd.prog) w p [c0, c1] (by
    intro j v hj
    match j, hj with
    | 0, hj => simp at hj; subst hj; exact h0
    | 1, hj => simp at hj; subst hj; exact h1
    | (j + 2), hj => simp at hj)
  have h' : (loadCells p 2).run Tryd.prog w = .ok #[c0, c1] w := h
  simp [Instr.loadAt, Instr.sureAddr, loadVar, Result.andThen, h']

/-- Is an entry short? -/
def shortE (e : ByteArray × Int × List ByteArray) : Prop := e.1.size ≤ 2000 ∧ e.2.2.length ≤ 1200 ∧ ∀ k, k < e.2.2.length → (e.2.2.getD k ByteArray.empty).size ≤ 2000

/-- What 'Short' tells: if true, the entries are few and short. -/
def Shorts (e : Ending) (n : Nat) (l : List (ByteArray × Int × List ByteArray)) : Prop := ∃ b, e = .returned (.bool b) ∧ (b = true → n ≤ 100 ∧ ∀ j, j < n → shortE (entOf l j))

theorem Shorts.no {e : Ending} {n : Nat} {l : List (ByteArray × Int × List ByteArray)} (h : e = .returned (.bool false)) : Shorts e n l := ⟨false, h, fun h => by cases h⟩
theorem Shorts.yes {e : Ending} {n : Nat} {l : List (ByteArray × Int × List ByteArray)} (h : e = .returned (.bool true)) (h1 : n ≤ 100) (h2 : ∀ j, j < n → shortE (entOf l j)) : Shorts e n l := ⟨true, h, fun _ => ⟨h1, h2⟩⟩

set_option maxHeartbeats 4000000 in
set_option maxRecDepth 100000 in
theorem short_any (a : Option Addr) (n cap : Nat) (l : List (ByteArray × Int × List ByteArray)) (w : World) (hn0 : n = l.length) (hl0 : LiesE w a l) :
    Calls Tryd.prog 10 #[.slice a n cap] w fun e w' => Shorts e n l ∧ w' = w := by
  have HN : Hid (n = l.length) := hn0
  have HL : Hid (LiesE w a l) := hl0
  clear hn0 hl0
  go_enter Tryd.func10, Tryd.ntmps10
  go_wp2
  · go_ret
    exact ⟨.no rfl, rfl⟩
  go_loop [2, 3, 4] (fun t2 t3 _ => ∃ i : Nat, t2 = .bool false ∧ t3 = .int .i64 (i : Int) ∧ i ≤ n ∧ Hid (∀ j, j < i → shortE (entOf l j))) (fun _ t3 _ => n - (intOf t3).toNat)
  case atStart => exact ⟨0, rfl, rfl, Nat.zero_le _, fun j hj => by omega⟩
  case round =>
    obtain ⟨i, rfl, rfl, hi, HI⟩ := hrel
    by_cases hin : i < n
    · obtain ⟨x, hx, h0, h1, ka, kc, h2, hk⟩ := HL.out.at (j := i) (by rw [← HN.out]; exact hin)
      subst hx
      have HS : Hid (∀ j, j < i → shortE (entOf l j)) := HI
      generalize he : entOf l i = e at h0 h1 h2 hk
      have HE : Hid (entOf l i = e) := he
      obtain ⟨p, sz, ks⟩ := e
      have hix := index_ent x n cap i hin
      simp only at h0 h1 h2 hk
      generalize x.add (i * 3) = q at h0 h1 h2 hix
      obtain ⟨kn, hkn⟩ : ∃ kn, kn = ks.length := ⟨_, rfl⟩
      have HK : Hid (kn = ks.length) := hkn
      obtain ⟨z, hz⟩ : ∃ z, z = p.size := ⟨_, rfl⟩
      have HZ : Hid (z = p.size) := hz
      have hlen := len_text p z hz
      rw [← hkn] at h2
      have HKI : Hid (KeysIn w ka kc ks) := hk
      clear he hkn hz h1 hk HI
      by_cases hz2 : 2000 < z
      · go_wp2
        go_ret
        exact ⟨.no rfl, rfl⟩
      by_cases hkn2 : 1200 < kn
      · go_wp2
        go_ret
        exact ⟨.no rfl, rfl⟩
      go_wp2
      clear hlen
      go_loop [2, 4] (fun t2 t4 => ∃ k : Nat, t2 = .bool false ∧ t4 = .int .i64 (k : Int) ∧ k ≤ kn ∧ Hid (∀ j, j < k → (ks.getD j ByteArray.empty).size ≤ 2000)) (fun _ t4 => kn - (intOf t4).toNat)
      case atStart => exact ⟨0, rfl, rfl, Nat.zero_le _, fun j hj => by omega⟩
      case round =>
        obtain ⟨k, rfl, rfl, hk, HJ⟩ := hrel
        by_cases hkk : k < kn
        · obtain ⟨y, hy, hc⟩ := HKI.out.1.cellAt (j := k) (by rw [← HK.out]; exact hkk)
          subst hy
          obtain ⟨kz, hkz⟩ : ∃ kz, kz = (ks.getD k ByteArray.empty).size := ⟨_, rfl⟩
          have HKZ : Hid (kz = (ks.getD k ByteArray.empty).size) := hkz
          have hlen := len_text (ks.getD k ByteArray.empty) kz hkz
          generalize ks.getD k ByteArray.empty = s at hc hlen
          clear hkz
          go_wp2
          · go_ret
            exact ⟨.no rfl, rfl⟩
          go_round
          case rel => exact ⟨k + 1, rfl, by go_num, by omega, by
            intro j hj
            by_cases hjk : j = k
            · subst hjk; show _ ≤ 2000; rw [← HKZ.out]; omega
            · exact HJ.out j (by omega)⟩
          case measure => simp [intOf]; omega
        · have HS2 : Hid (∀ j, j < i + 1 → shortE (entOf l j)) := by
            intro j hj
            by_cases hji : j = i
            · subst hji; rw [HE.out]; exact ⟨by rw [← HZ.out]; omega, by rw [← HK.out]; show kn ≤ 1200; omega, fun k' hk' => HJ.out k' (by rw [← HK.out] at hk'; omega)⟩
            · exact HS.out j (by omega)
          clear HS HJ HE
          go_wp2
          go_round
          case rel => exact ⟨i + 1, rfl, by go_num, by omega, HS2⟩
          case measure => simp [intOf]; omega
    · go_wp2
      go_ret
      exact ⟨.yes rfl (by omega) (fun j hj => HI.out j (by omega)), rfl⟩
end Go.Proofs.YtcjkficpiedpfaaDoor.Tree
