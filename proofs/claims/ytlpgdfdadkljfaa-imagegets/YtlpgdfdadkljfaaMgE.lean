/-
  Contracts that the walks stand on, several texts in one: TrEnt, TrMath, ChLeaf, ChLaw, TrLeaf, TrCheck, TrCheck2, TrCopy, TrRow, TrFind, TrSame.
-/
import Derived.Test.YtlpgdfdadkljfaaMgB
import Derived.BigQuiet
import Derived.Deep.RegionHeld
import Derived.Test.YtlpgdfdadkljfaaMgA
import Derived.Sort.LotA
import Derived.Laws.BitsLemmas
import Derived.Test.YtlpgdfdadkljfaaMgC
import Derived.Laws.Cover1
import Derived.Deep.RegionWith

/-
  Rows of entries and of files in memory: what they read as, and that they stay so where nothing below has turned.
-/
namespace Go.Proofs.Ytlpgdfdadkljfaa.Tree
open Go.RowKit Route

/-- No entry. -/
def noEnt : ByteArray × Int × List ByteArray := (ByteArray.empty, 0, [])

/-- No file. -/
def noFile : ByteArray × ByteArray := (ByteArray.empty, ByteArray.empty)

/-- The j-th entry. -/
def entOf (l : List (ByteArray × Int × List ByteArray)) (j : Nat) : ByteArray × Int × List ByteArray := l.getD j noEnt

/-- The j-th file. -/
def fileOf (l : List (ByteArray × ByteArray)) (j : Nat) : ByteArray × ByteArray := l.getD j noFile

/-- At the slice's address texts lie, and the slice is one that may be. -/
def KeysIn (w : World) (a : Option Addr) (cap : Nat) (l : List ByteArray) : Prop :=
  Lies w a l ∧ l.length ≤ cap ∧ cap ≤ maxLen ∧ (a = none → cap = 0)

theorem KeysIn.below {B : Nat} {w w' : World} {a : Option Addr} {cap : Nat} {l : List ByteArray} (h : KeysIn w a cap l) (hb : Below B w w') (hB : w.heap.size ≤ B) : KeysIn w' a cap l :=
  ⟨h.1.below hb hB, h.2⟩

/-- At the place p an entry lies. -/
def EntAt (w : World) (p : Addr) (e : ByteArray × Int × List ByteArray) : Prop :=
  w.cell? p = some (.string e.1) ∧ w.cell? ⟨p.block, p.off + 1, none⟩ = some (.int .i64 e.2.1) ∧ ∃ ka kc, w.cell? ⟨p.block, p.off + 2, none⟩ = some (.slice ka e.2.2.length kc) ∧ KeysIn w ka kc e.2.2

/-- At the place p a file lies. -/
def FileAt (w : World) (p : Addr) (e : ByteArray × ByteArray) : Prop :=
  w.cell? p = some (.string e.1) ∧ w.cell? ⟨p.block, p.off + 1, none⟩ = some (.string e.2)

theorem cell_below {B : Nat} {w w' : World} {x : Addr} {v : Value} (hb : Below B w w') (hB : w.heap.size ≤ B) (h : w.cell? x = some v) : w'.cell? x = some v := by
  rw [hb.cell (by have := World.block_lt_of_cell? w _ h; omega)]; exact h

theorem EntAt.below {B : Nat} {w w' : World} {p : Addr} {e : ByteArray × Int × List ByteArray} (h : EntAt w p e) (hb : Below B w w') (hB : w.heap.size ≤ B) : EntAt w' p e := by
  obtain ⟨h0, h1, ka, kc, h2, h3⟩ := h
  exact ⟨cell_below hb hB h0, cell_below hb hB h1, ka, kc, cell_below hb hB h2, h3.below hb hB⟩

theorem FileAt.below {B : Nat} {w w' : World} {p : Addr} {e : ByteArray × ByteArray} (h : FileAt w p e) (hb : Below B w w') (hB : w.heap.size ≤ B) : FileAt w' p e :=
  ⟨cell_below hb hB h.1, cell_below hb hB h.2⟩

/-- At the address entries lie. -/
def LiesE (w : World) (a : Option Addr) (l : List (ByteArray × Int × List ByteArray)) : Prop :=
  l = [] ∨ ∃ x, a = some x ∧ ∀ j, j < l.length → EntAt w (x.add (j * 3)) (entOf l j)

/-- At the address files lie. -/
def LiesF (w : World) (a : Option Addr) (l : List (ByteArray × ByteArray)) : Prop :=
  l = [] ∨ ∃ x, a = some x ∧ ∀ j, j < l.length → FileAt w (x.add (j * 2)) (fileOf l j)

theorem LiesE.below {B : Nat} {w w' : World} {a : Option Addr} {l : List (ByteArray × Int × List ByteArray)} (h : LiesE w a l) (hb : Below B w w') (hB : w.heap.size ≤ B) : LiesE w' a l := by
  rcases h with h | ⟨x, rfl, h⟩
  · exact .inl h
  · exact .inr ⟨x, rfl, fun j hj => (h j hj).below hb hB⟩

theorem LiesF.below {B : Nat} {w w' : World} {a : Option Addr} {l : List (ByteArray × ByteArray)} (h : LiesF w a l) (hb : Below B w w') (hB : w.heap.size ≤ B) : LiesF w' a l := by
  rcases h with h | ⟨x, rfl, h⟩
  · exact .inl h
  · exact .inr ⟨x, rfl, fun j hj => (h j hj).below hb hB⟩

theorem LiesE.take {w : World} {a : Option Addr} {l : List (ByteArray × Int × List ByteArray)} (h : LiesE w a l) (m : Nat) : LiesE w a (l.take m) := by
  rcases h with rfl | ⟨x, rfl, h⟩
  · exact .inl (by simp)
  · refine .inr ⟨x, rfl, fun j hj => ?_⟩
    rw [List.length_take] at hj
    have := h j (by omega)
    rw [show entOf (l.take m) j = entOf l j by simp [entOf, List.getD_eq_getElem?_getD, show j < m by omega]]
    exact this

theorem LiesF.take {w : World} {a : Option Addr} {l : List (ByteArray × ByteArray)} (h : LiesF w a l) (m : Nat) : LiesF w a (l.take m) := by
  rcases h with rfl | ⟨x, rfl, h⟩
  · exact .inl (by simp)
  · refine .inr ⟨x, rfl, fun j hj => ?_⟩
    rw [List.length_take] at hj
    have := h j (by omega)
    rw [show fileOf (l.take m) j = fileOf l j by simp [fileOf, List.getD_eq_getElem?_getD, show j < m by omega]]
    exact this

theorem LiesE.at {w : World} {a : Option Addr} {l : List (ByteArray × Int × List ByteArray)} (h : LiesE w a l) {j : Nat} (hj : j < l.length) : ∃ x, a = some x ∧ EntAt w (x.add (j * 3)) (entOf l j) := by
  rcases h with rfl | ⟨x, rfl, h⟩
  · simp at hj
  · exact ⟨x, rfl, h j hj⟩

theorem LiesF.at {w : World} {a : Option Addr} {l : List (ByteArray × ByteArray)} (h : LiesF w a l) {j : Nat} (hj : j < l.length) : ∃ x, a = some x ∧ FileAt w (x.add (j * 2)) (fileOf l j) := by
  rcases h with rfl | ⟨x, rfl, h⟩
  · simp at hj
  · exact ⟨x, rfl, h j hj⟩

theorem len_text (s : ByteArray) (z : Nat) (hz : z = s.size) (w : World) : (Builtin.len_ #[9] 3 #[.string s]).run Try.prog w = .ok (.int .i64 (z : Int)) w := by
  rw [run_len_string w 9 3 s Try.underlying9, hz]; rfl

set_option maxRecDepth 100000 in
theorem index_ent (x : Addr) (n cap i : Nat) (hi : i < n) (w : World) : (Instr.indexAt 50 (.slice (some x) n cap) (.int .i64 (i : Int))).run Try.prog w = .ok (.pointer (some (x.add (i * 3)))) w := by
  rw [run_indexAt_slice w 50 x n cap .i64 i (by kernel_rfl), if_pos (by omega)]
  rfl

theorem size30 (w : World) : (sizeOf 57).run Try.prog w = .ok 3 w := by kernel_rfl

theorem agg30 (w : World) : (isAgg 57).run Try.prog w = .ok true w := by kernel_rfl

theorem load_ent (p : Addr) (c0 c1 c2 : Value) (w : World) (h0 : w.cell? p = some c0) (h1 : w.cell? ⟨p.block, p.off + 1, none⟩ = some c1) (h2 : w.cell? ⟨p.block, p.off + 2, none⟩ = some c2) :
    (Instr.loadAt 57 (.pointer (some p))).run Try.prog w = .ok (.agg #[c0, c1, c2]) w := by
  have h := run_loadCells_list (P := Try.prog) w p [c0, c1, c2] (by
    intro j v hj
    match j, hj with
    | 0, hj => simp at hj; subst hj; exact h0
    | 1, hj => simp at hj; subst hj; exact h1
    | 2, hj => simp at hj; subst hj; exact h2
    | (j + 3), hj => simp at hj)
  have h' : (loadCells p 3).run Try.prog w = .ok #[c0, c1, c2] w := h
  simp [Instr.loadAt, Instr.sureAddr, loadVar, Result.andThen, h']

/-- Is an entry short? -/
def shortE (e : ByteArray × Int × List ByteArray) : Prop := e.1.size ≤ 5000 ∧ e.2.2.length ≤ 20000 ∧ ∀ k, k < e.2.2.length → (e.2.2.getD k ByteArray.empty).size ≤ 5000

/-- What 'Short' tells: if true, the entries are few and short. -/
def Shorts (e : Ending) (n : Nat) (l : List (ByteArray × Int × List ByteArray)) : Prop := ∃ b, e = .returned (.bool b) ∧ (b = true → n ≤ 100 ∧ ∀ j, j < n → shortE (entOf l j))

theorem Shorts.no {e : Ending} {n : Nat} {l : List (ByteArray × Int × List ByteArray)} (h : e = .returned (.bool false)) : Shorts e n l := ⟨false, h, fun h => by cases h⟩

theorem Shorts.yes {e : Ending} {n : Nat} {l : List (ByteArray × Int × List ByteArray)} (h : e = .returned (.bool true)) (h1 : n ≤ 100) (h2 : ∀ j, j < n → shortE (entOf l j)) : Shorts e n l := ⟨true, h, fun _ => ⟨h1, h2⟩⟩

set_option maxHeartbeats 4000000 in
set_option maxRecDepth 100000 in
theorem short_any (a : Option Addr) (n cap : Nat) (l : List (ByteArray × Int × List ByteArray)) (w : World) (hn0 : n = l.length) (hl0 : LiesE w a l) :
    Calls Try.prog 20 #[.slice a n cap] w fun e w' => Shorts e n l ∧ w' = w := by
  have HN : Hid (n = l.length) := hn0
  have HL : Hid (LiesE w a l) := hl0
  clear hn0 hl0
  go_enter Try.func20, Try.ntmps20
  go_wp2
  · go_ret
    exact ⟨.no rfl, rfl⟩
  go_loop [2, 3, 4] (fun t2 t3 _ => ∃ i : Nat, t2 = .bool false ∧ t3 = .int .i64 (i : Int) ∧ i ≤ n ∧ Hid (∀ j, j < i → shortE (entOf l j))) (fun _ t3 _ => n - (intOf t3).toNat)
  case atStart => exact ⟨0, rfl, rfl, Nat.zero_le _, fun j hj => by omega⟩
  case round =>
    obtain ⟨i, rfl, rfl, hi, HI⟩ := hrel
    by_cases hin : i < n
    · obtain ⟨x, hx, h0, h1, ka, kc, h2, hk⟩ := HL.out.at (j := i) (by rw [← HN.out]; exact hin)
      subst hx
      have HS : Hid (∀ j, j < i → shortE (entOf l j)) := HI
      generalize he : entOf l i = e at h0 h1 h2 hk
      have HE : Hid (entOf l i = e) := he
      obtain ⟨p, sz, ks⟩ := e
      have hix := index_ent x n cap i hin
      simp only at h0 h1 h2 hk
      generalize x.add (i * 3) = q at h0 h1 h2 hix
      obtain ⟨kn, hkn⟩ : ∃ kn, kn = ks.length := ⟨_, rfl⟩
      have HK : Hid (kn = ks.length) := hkn
      obtain ⟨z, hz⟩ : ∃ z, z = p.size := ⟨_, rfl⟩
      have HZ : Hid (z = p.size) := hz
      have hlen := len_text p z hz
      rw [← hkn] at h2
      have HKI : Hid (KeysIn w ka kc ks) := hk
      clear he hkn hz h1 hk HI
      by_cases hz2 : 2000 < z
      · go_wp2
        go_ret
        exact ⟨.no rfl, rfl⟩
      by_cases hkn2 : 1200 < kn
      · go_wp2
        go_ret
        exact ⟨.no rfl, rfl⟩
      go_wp2
      clear hlen
      go_loop [2, 4] (fun t2 t4 => ∃ k : Nat, t2 = .bool false ∧ t4 = .int .i64 (k : Int) ∧ k ≤ kn ∧ Hid (∀ j, j < k → (ks.getD j ByteArray.empty).size ≤ 5000)) (fun _ t4 => kn - (intOf t4).toNat)
      case atStart => exact ⟨0, rfl, rfl, Nat.zero_le _, fun j hj => by omega⟩
      case round =>
        obtain ⟨k, rfl, rfl, hk, HJ⟩ := hrel
        by_cases hkk : k < kn
        · obtain ⟨y, hy, hc⟩ := HKI.out.1.cellAt (j := k) (by rw [← HK.out]; exact hkk)
          subst hy
          obtain ⟨kz, hkz⟩ : ∃ kz, kz = (ks.getD k ByteArray.empty).size := ⟨_, rfl⟩
          have HKZ : Hid (kz = (ks.getD k ByteArray.empty).size) := hkz
          have hlen := len_text (ks.getD k ByteArray.empty) kz hkz
          generalize ks.getD k ByteArray.empty = s at hc hlen
          clear hkz
          go_wp2
          · go_ret
            exact ⟨.no rfl, rfl⟩
          go_round
          case rel => exact ⟨k + 1, rfl, by go_num, by omega, by
            intro j hj
            by_cases hjk : j = k
            · subst hjk; show _ ≤ 5000; rw [← HKZ.out]; omega
            · exact HJ.out j (by omega)⟩
          case measure => simp [intOf]; omega
        · have HS2 : Hid (∀ j, j < i + 1 → shortE (entOf l j)) := by
            intro j hj
            by_cases hji : j = i
            · subst hji; rw [HE.out]; exact ⟨by rw [← HZ.out]; omega, by rw [← HK.out]; show kn ≤ 20000; omega, fun k' hk' => HJ.out k' (by rw [← HK.out] at hk'; omega)⟩
            · exact HS.out j (by omega)
          clear HS HJ HE
          go_wp2
          go_round
          case rel => exact ⟨i + 1, rfl, by go_num, by omega, HS2⟩
          case measure => simp [intOf]; omega
    · go_wp2
      go_ret
      exact ⟨.yes rfl (by omega) (fun j hj => HI.out j (by omega)), rfl⟩

end Go.Proofs.Ytlpgdfdadkljfaa.Tree

/-
  Trees as plain lists: the order of paths, which entries and files may be, what is amiss first, and where; sorted rows.
-/
namespace Go.Proofs.Ytlpgdfdadkljfaa.Tree
open Go.RowKit Route

/-- Is a text ahead of another one? -/
def lt (a b : ByteArray) : Bool := Op.bytesLess a.toList b.toList

theorem less_lex : ∀ (x y : List UInt8), Op.bytesLess x y = Sort.ltStr x y
  | [], [] => by simp [Op.bytesLess, Sort.ltStr]
  | _ :: _, [] => by simp [Op.bytesLess, Sort.ltStr]
  | [], _ :: _ => by simp [Op.bytesLess, Sort.ltStr]
  | a :: x, b :: y => by
    rw [Op.bytesLess, less_lex x y]
    by_cases h1 : a < b <;> by_cases h2 : a = b <;> by_cases h3 : x < y <;> simp [Sort.ltStr, List.cons_lt_cons_iff, h1, h2, h3]

theorem list_eq {a b : ByteArray} (h : a.toList = b.toList) : a = b := by
  rw [ByteArray.toList_eq, ByteArray.toList_eq] at h
  apply ByteArray.ext
  exact Array.ext' h

theorem lt_irrefl (a : ByteArray) : lt a a = false := by rw [lt, less_lex]; exact Sort.swo_ltStr.irrefl _

theorem lt_trans {a b c : ByteArray} (h1 : lt a b = true) (h2 : lt b c = true) : lt a c = true := by
  rw [lt, less_lex] at *; exact Sort.swo_ltStr.trans _ _ _ h1 h2

theorem lt_ntrans {a b c : ByteArray} (h1 : lt a b = false) (h2 : lt b c = false) : lt a c = false := by
  rw [lt, less_lex] at *; exact Sort.swo_ltStr.ntrans _ _ _ h1 h2

theorem lt_asymm {a b : ByteArray} (h : lt a b = true) : lt b a = false := by
  cases e : lt b a with
  | false => rfl
  | true => have := lt_trans h e; rw [lt_irrefl] at this; cases this

theorem lt_total {a b : ByteArray} (h1 : lt a b = false) (h2 : lt b a = false) : a = b := by
  rw [lt, less_lex, Sort.ltStr, decide_eq_false_iff_not] at h1 h2
  exact list_eq (List.le_antisymm h2 h1)

theorem lt_ne {a b : ByteArray} (h : lt a b = true) : a ≠ b := by
  rintro rfl; rw [lt_irrefl] at h; cases h

/-- May these be a file's chunks, of sz bytes, behind s bytes? -/
def restB (sz : Int) (s : Nat) : List ByteArray → Bool
  | [] => decide ((s : Int) = sz ∧ s ≤ 1024)
  | k :: r => decide (1 ≤ k.size ∧ k.size ≤ 64) && restB sz (s + k.size) r

theorem restB_far (sz : Int) : ∀ (l : List ByteArray) (s : Nat), 1024 < s → restB sz s l = false
  | [], s, h => by simp [restB]; omega
  | k :: r, s, h => by rw [restB, restB_far sz r _ (by omega), Bool.and_false]

/-- What is amiss with an entry behind those ahead of it: an error's number; 0: nothing. -/
def codeOf (ahead : List (ByteArray × Int × List ByteArray)) (e : ByteArray × Int × List ByteArray) : Nat :=
  if isPath e.1 = false then 2
  else if (∃ x, ahead.getLast? = some x ∧ lt x.1 e.1 = false) ∨ (ahead.any fun x => isUnder x.1 e.1) = true then 4
  else if restB e.2.1 0 e.2.2 = false then 1 else 0

/-- What is amiss first from i on, of f entries. -/
def firstBad (l : List (ByteArray × Int × List ByteArray)) : Nat → Nat → Option (Nat × Nat)
  | _, 0 => none
  | i, f + 1 => if codeOf (l.take i) (entOf l i) = 0 then firstBad l (i + 1) f else some (codeOf (l.take i) (entOf l i), i)

/-- What 'Check' tells: an error's number (0: none), and its place (none: it has none). -/
def checkAns (l : List (ByteArray × Int × List ByteArray)) : Nat × Option Nat :=
  if 32 < l.length then (7, none) else match firstBad l 0 l.length with
    | none => (0, none)
    | some (c, i) => (c, some i)

theorem firstBad_none {l : List (ByteArray × Int × List ByteArray)} : ∀ (f i : Nat), firstBad l i f = none → ∀ j, i ≤ j → j < i + f → codeOf (l.take j) (entOf l j) = 0
  | 0, i, _, j, h1, h2 => by omega
  | f + 1, i, h, j, h1, h2 => by
    rw [firstBad] at h
    split at h
    · by_cases hj : j = i
      · subst hj; assumption
      · exact firstBad_none f (i + 1) h j (by omega) (by omega)
    · cases h

theorem firstBad_some {l : List (ByteArray × Int × List ByteArray)} {c k : Nat} : ∀ (f i : Nat), firstBad l i f = some (c, k) → i ≤ k ∧ k < i + f ∧ c ≠ 0 ∧ codeOf (l.take k) (entOf l k) = c
  | 0, i, h => by cases h
  | f + 1, i, h => by
    rw [firstBad] at h
    split at h
    · obtain ⟨h1, h2, h3⟩ := firstBad_some f (i + 1) h
      exact ⟨by omega, by omega, h3⟩
    · rename_i hne
      simp only [Option.some.injEq, Prod.mk.injEq] at h
      obtain ⟨rfl, rfl⟩ := h
      exact ⟨Nat.le_refl _, by omega, hne, rfl⟩

theorem firstBad_all {l : List (ByteArray × Int × List ByteArray)} : ∀ (f i : Nat), (∀ j, i ≤ j → j < i + f → codeOf (l.take j) (entOf l j) = 0) → firstBad l i f = none
  | 0, i, _ => rfl
  | f + 1, i, h => by
    rw [firstBad, if_pos (h i (Nat.le_refl _) (by omega))]
    exact firstBad_all f (i + 1) fun j h1 h2 => h j (by omega) (by omega)

theorem take_succ_ent {l : List (ByteArray × Int × List ByteArray)} {i : Nat} (h : i < l.length) : l.take (i + 1) = l.take i ++ [entOf l i] := by
  rw [List.take_succ_eq_append_getElem h]
  simp [entOf, List.getD_eq_getElem?_getD, h]

theorem take_succ_file {l : List (ByteArray × ByteArray)} {i : Nat} (h : i < l.length) : l.take (i + 1) = l.take i ++ [fileOf l i] := by
  rw [List.take_succ_eq_append_getElem h]
  simp [fileOf, List.getD_eq_getElem?_getD, h]

theorem drop_text {l : List ByteArray} {i : Nat} (h : i < l.length) : l.drop i = l.getD i ByteArray.empty :: l.drop (i + 1) := by
  rw [List.drop_eq_getElem_cons h]
  simp [List.getD_eq_getElem?_getD, h]

theorem drop_ent {l : List (ByteArray × Int × List ByteArray)} {i : Nat} (h : i < l.length) : l.drop i = entOf l i :: l.drop (i + 1) := by
  rw [List.drop_eq_getElem_cons h]
  simp [entOf, List.getD_eq_getElem?_getD, h]

theorem drop_file {l : List (ByteArray × ByteArray)} {i : Nat} (h : i < l.length) : l.drop i = fileOf l i :: l.drop (i + 1) := by
  rw [List.drop_eq_getElem_cons h]
  simp [fileOf, List.getD_eq_getElem?_getD, h]

theorem ent_mem {l : List (ByteArray × Int × List ByteArray)} {i : Nat} (h : i < l.length) : entOf l i ∈ l := by
  simp [entOf, List.getD_eq_getElem?_getD, h]

theorem file_mem {l : List (ByteArray × ByteArray)} {i : Nat} (h : i < l.length) : fileOf l i ∈ l := by
  simp [fileOf, List.getD_eq_getElem?_getD, h]

/-- Can no tree have both paths? -/
def clashB (a b : ByteArray) : Bool := decide (a = b) || isUnder a b || isUnder b a

/-- What is amiss with a file behind those ahead of it. -/
def codeF (ahead : List (ByteArray × ByteArray)) (f : ByteArray × ByteArray) : Nat :=
  if isPath f.1 = false then 2 else if 1024 < f.2.size then 7 else if (ahead.any fun x => clashB x.1 f.1) = true then 4 else 0

/-- What is amiss first from i on, of f files. -/
def firstBadF (l : List (ByteArray × ByteArray)) : Nat → Nat → Option (Nat × Nat)
  | _, 0 => none
  | i, f + 1 => if codeF (l.take i) (fileOf l i) = 0 then firstBadF l (i + 1) f else some (codeF (l.take i) (fileOf l i), i)

theorem firstBadF_none {l : List (ByteArray × ByteArray)} : ∀ (f i : Nat), firstBadF l i f = none → ∀ j, i ≤ j → j < i + f → codeF (l.take j) (fileOf l j) = 0
  | 0, i, _, j, h1, h2 => by omega
  | f + 1, i, h, j, h1, h2 => by
    rw [firstBadF] at h
    split at h
    · by_cases hj : j = i
      · subst hj; assumption
      · exact firstBadF_none f (i + 1) h j (by omega) (by omega)
    · cases h

theorem firstBadF_some {l : List (ByteArray × ByteArray)} {c k : Nat} : ∀ (f i : Nat), firstBadF l i f = some (c, k) → i ≤ k ∧ k < i + f ∧ c ≠ 0 ∧ codeF (l.take k) (fileOf l k) = c
  | 0, i, h => by cases h
  | f + 1, i, h => by
    rw [firstBadF] at h
    split at h
    · obtain ⟨h1, h2, h3⟩ := firstBadF_some f (i + 1) h
      exact ⟨by omega, by omega, h3⟩
    · rename_i hne
      simp only [Option.some.injEq, Prod.mk.injEq] at h
      obtain ⟨rfl, rfl⟩ := h
      exact ⟨Nat.le_refl _, by omega, hne, rfl⟩

/-- Each ahead of the next. -/
def Sorted (l : List (ByteArray × Int × List ByteArray)) : Prop := l.Pairwise fun x y => lt x.1 y.1 = true

theorem sorted_unique {l m : List (ByteArray × Int × List ByteArray)} (hp : l.Perm m) (hl : Sorted l) (hm : Sorted m) : l = m :=
  List.Perm.eq_of_pairwise (fun x y _ _ h1 h2 => by have := lt_asymm h1; rw [h2] at this; cases this) hl hm hp

end Go.Proofs.Ytlpgdfdadkljfaa.Tree

/-
  The least functions of chunk and of its answer: which cuts may be, and whether a chunk may end behind a byte.
-/
namespace Go.Proofs.Ytlpgdfdadkljfaa.Chunk
open Go.RowKit Route

/-- May the cut be? -/
def mayB (mn mx mk : Int) : Bool := decide (1 ≤ mn ∧ mn ≤ mx ∧ mx ≤ 64 ∧ 0 ≤ mk ∧ mk ≤ 255)

theorem mayB_nat {mn mx mk : Int} (h : mayB mn mx mk = true) : ∃ m M K : Nat, mn = (m : Int) ∧ mx = (M : Int) ∧ mk = (K : Int) ∧ 1 ≤ m ∧ m ≤ M ∧ M ≤ 64 ∧ K ≤ 255 := by
  simp only [mayB, decide_eq_true_eq] at h
  exact ⟨mn.toNat, mx.toNat, mk.toNat, by omega, by omega, by omega, by omega, by omega, by omega, by omega⟩

/-- A cut, as a value. -/
def cutV (mn mx mk : Int) : Value := .agg #[.int .i64 mn, .int .i64 mx, .int .i64 mk]

theorem index_at (s : ByteArray) (i : Nat) (j : Int) (hj : j = (i : Int)) (h : i < s.size) (w : World) : (Instr.index 9 (.string s) (.int .i64 j)).run Try.prog w = .ok (.int .u8 (bt s i : Int)) w := by
  subst hj
  have := run_index_string (P := Try.prog) w 9 s .i64 (i : Int) Try.underlying9
  rw [this, dif_pos ⟨by omega, by omega⟩]
  simp [bt_at s i h]

theorem wraps_i64 (n : Int) (h₀ : 0 ≤ n) (h₁ : n < 2 ^ 63) : IntKind.i64.wrap n = n := by rw [IntKind.wrap_i64]; omega

theorem and_nat (a b : Nat) (ha : a < 2 ^ 63) (hb : b < 2 ^ 63) : bits .and .i64 (a : Int) (b : Int) = ((a &&& b : Nat) : Int) :=
  (bits_nat .i64 63 (by decide) wraps_i64 a b ha hb).1
end Go.Proofs.Ytlpgdfdadkljfaa.Chunk

/-
  What all five laws of chunk are walked by: errors held against each other, the cut in a cell of the call's own, texts cut or refused.
-/
namespace Go.Proofs.Ytlpgdfdadkljfaa.Chunk
open Go.RowKit Route

theorem eqNil (w : World) : (binOp .eql 27 .nilIface .nilIface).run Try.prog w = .ok (.bool true) w := by kernel_rfl
theorem neNil (w : World) : (binOp .neq 27 .nilIface .nilIface).run Try.prog w = .ok (.bool false) w := by kernel_rfl
theorem eqArg (w : World) : (binOp .eql 27 (.iface 36 (.int .i64 1)) (.iface 36 (.int .i64 1))).run Try.prog w = .ok (.bool true) w := by kernel_rfl
theorem eqLarge (w : World) : (binOp .eql 27 (.iface 36 (.int .i64 7)) (.iface 36 (.int .i64 7))).run Try.prog w = .ok (.bool true) w := by kernel_rfl
theorem neArg (w : World) : (binOp .neq 27 (.iface 36 (.int .i64 1)) .nilIface).run Try.prog w = .ok (.bool true) w := by kernel_rfl
theorem neLarge (w : World) : (binOp .neq 27 (.iface 36 (.int .i64 7)) .nilIface).run Try.prog w = .ok (.bool true) w := by kernel_rfl
theorem argNil (w : World) : (binOp .eql 27 (.iface 36 (.int .i64 1)) .nilIface).run Try.prog w = .ok (.bool false) w := by kernel_rfl
theorem largeNil (w : World) : (binOp .eql 27 (.iface 36 (.int .i64 7)) .nilIface).run Try.prog w = .ok (.bool false) w := by kernel_rfl

theorem len_text (s : ByteArray) (z : Nat) (hz : z = s.size) (w : World) : (Builtin.len_ #[9] 3 #[.string s]).run Try.prog w = .ok (.int .i64 (z : Int)) w := by
  rw [run_len_string w 9 3 s Try.underlying9, hz]; rfl
end Go.Proofs.Ytlpgdfdadkljfaa.Chunk

/-
  The least functions of tree and of its answer: whether these may be a file's chunks; whether files are few and short; whether a text is among some.
-/
namespace Go.Proofs.Ytlpgdfdadkljfaa.Tree
open Go.RowKit Route Chunk

set_option maxHeartbeats 4000000 in
set_option maxRecDepth 100000 in
theorem areChunks_any (a : Option Addr) (n cap : Nat) (ks : List ByteArray) (sz : Int) (w : World) (hn0 : n = ks.length) (hl0 : Lies w a ks) (hnm : n ≤ 1000000) (hks : ∀ j, j < n → (ks.getD j ByteArray.empty).size ≤ 1000000) :
    Calls Try.prog 80 #[.slice a n cap, .int .i64 sz] w fun e w' => e = .returned (.bool (restB sz 0 ks)) ∧ w' = w := by
  have HN : Hid (n = ks.length) := hn0
  have HL : Hid (Lies w a ks) := hl0
  have HS : Hid (∀ j, j < n → (ks.getD j ByteArray.empty).size ≤ 1000000) := hks
  obtain ⟨r, hr⟩ : ∃ r, r = restB sz 0 ks := ⟨_, rfl⟩
  have HR : Hid (r = restB sz 0 (ks.drop 0)) := by rw [List.drop_zero]; exact hr
  rw [← hr]
  clear hn0 hl0 hks hr
  go_enter Try.func80, Try.ntmps80
  go_wp2
  go_loop [4, 5, 7, 10] (fun t4 t5 _ t10 => ∃ (i s : Nat), t4 = .bool false ∧ t5 = .int .i64 (s : Int) ∧ t10 = .int .i64 (i : Int) ∧ i ≤ n ∧ s ≤ 1024 ∧ Hid (r = restB sz s (ks.drop i))) (fun _ _ _ t10 => n - (intOf t10).toNat)
  case atStart => exact ⟨0, 0, rfl, rfl, rfl, Nat.zero_le _, by omega, HR⟩
  case round =>
    obtain ⟨i, s, rfl, rfl, rfl, hi, hs, HI⟩ := hrel
    clear HR
    by_cases hin : i < n
    · obtain ⟨x, hx, hc⟩ := HL.out.cellAt (j := i) (by rw [← HN.out]; exact hin)
      subst hx
      have HD := drop_text (l := ks) (i := i) (by rw [← HN.out]; exact hin)
      have hz1 := HS.out i hin
      generalize ks.getD i ByteArray.empty = k at hc HD hz1
      obtain ⟨z, hz⟩ : ∃ z, z = k.size := ⟨_, rfl⟩
      have hlen := Tree.len_text k z hz
      have HI2 : Hid (r = (decide (1 ≤ z ∧ z ≤ 64) && restB sz (s + z) (ks.drop (i + 1)))) := by show _ = _; rw [HI.out, HD, restB, hz]
      rw [← hz] at hz1
      clear HD HI hz
      by_cases h1 : z < 1
      · have hr : r = false := by rw [HI2.out, decide_eq_false (by omega), Bool.false_and]
        go_wp2
        go_ret
        exact ⟨by first | rfl | (rw [hr]; rfl), rfl⟩
      by_cases h2 : 64 < z
      · have hr : r = false := by rw [HI2.out, decide_eq_false (by omega), Bool.false_and]
        go_wp2
        go_ret
        exact ⟨by first | rfl | (rw [hr]; rfl), rfl⟩
      by_cases h3 : 1024 < s + z
      · have hr : r = false := by rw [HI2.out, restB_far _ _ _ h3, Bool.and_false]
        go_wp2
        go_ret
        exact ⟨by first | rfl | (rw [hr]; rfl), rfl⟩
      have HI3 : Hid (r = restB sz (s + z) (ks.drop (i + 1))) := by show _ = _; rw [HI2.out, decide_eq_true (by omega), Bool.true_and]
      clear HI2
      go_wp2
      go_round
      case rel => exact ⟨i + 1, s + z, rfl, by go_num, by go_num, by omega, by omega, HI3⟩
      case measure => simp [intOf]; omega
    · have hr : r = ((s : Int) == sz) := by
        rw [HI.out, List.drop_eq_nil_of_le (by rw [← HN.out]; omega), restB, Bool.beq_eq_decide_eq]
        exact decide_eq_decide.2 (by omega)
      clear HI
      go_wp2
      go_ret
      exact ⟨by first | rfl | (rw [hr]; rfl), rfl⟩

end Go.Proofs.Ytlpgdfdadkljfaa.Tree

/-
  What is amiss with an entry behind those ahead of it, and with entries: the program's 'checkEntry' and 'Check'.
-/
namespace Go.Proofs.Ytlpgdfdadkljfaa.Tree
open Go.RowKit Route Chunk

/-- An error of a number alone. -/
def codeV (c : Nat) : Value := if c = 0 then .nilIface else .iface 36 (.int .i64 (c : Int))

theorem ent_box {w wr : World} {c0 c1 c2 : Value} (hb : Below (w.alloc (.cells #[c0, c1, c2] 57)).heap.size (w.alloc (.cells #[c0, c1, c2] 57)) wr) :
    wr.cell? ⟨w.heap.size, 0, none⟩ = some c0 ∧ wr.cell? ⟨w.heap.size, 1, none⟩ = some c1 ∧ wr.cell? ⟨w.heap.size, 2, none⟩ = some c2 ∧ Below w.heap.size w wr ∧ w.heap.size < wr.heap.size := by
  have hs := hb.size
  have e : (w.alloc (.cells #[c0, c1, c2] 57)).heap.size = w.heap.size + 1 := by simp
  refine ⟨?_, ?_, ?_, ((Below.refl _ _).alloc (Nat.le_refl _) _).trans (hb.mono (by omega)), by omega⟩
  all_goals
    rw [hb.cell (by show w.heap.size < _; omega)]
    simp

set_option maxHeartbeats 4000000 in
set_option maxRecDepth 100000 in
theorem checkEntry_path (a : Option Addr) (n cap : Nat) (p : ByteArray) (c1 c2 : Value) (w : World) (hp : isPath p = false) (hps : p.size ≤ 5000) :
    Calls Try.prog 69 #[.slice a n cap, .agg #[.string p, c1, c2]] w fun e w' => e = .returned (.iface 36 (.int .i64 2)) ∧ Below w.heap.size w w' := by
  have hc : Hid (∀ W, Calls Try.prog 78 #[.string p] W fun e w' => e = .returned (.iface 36 (.int .i64 2)) ∧ Below W.heap.size W w') := fun W => check_no p W (by omega) hp
  clear hp hps
  go_enter Try.func69, Try.ntmps69
  go_wp2_with (go_at_call 78; refine (hc.out _).mono ?_; rintro e w1 ⟨rfl, hb1⟩)
  go_ret
  exact ⟨rfl, (ent_box hb1).2.2.2.1⟩

theorem index_at_ent (x : Addr) (n cap i : Nat) (j : Int) (hj : j = (i : Int)) (hi : i < n) (w : World) : (Instr.indexAt 50 (.slice (some x) n cap) (.int .i64 j)).run Try.prog w = .ok (.pointer (some (x.add (i * 3)))) w := by
  subst hj; exact index_ent x n cap i hi w

theorem leq_lt (p q : ByteArray) : (Op.bytesLess p.toList q.toList || p.toList == q.toList) = !lt q p := by
  rw [str_eq]
  show (lt p q || decide (p = q)) = _
  cases h1 : lt q p with
  | true => rw [lt_asymm h1, decide_eq_false (fun e => lt_ne h1 e.symm)]; rfl
  | false =>
    cases h2 : lt p q with
    | true => rfl
    | false => rw [decide_eq_true (lt_total h2 h1)]; rfl

set_option maxHeartbeats 4000000 in
set_option maxRecDepth 100000 in
theorem checkEntry_core (a : Option Addr) (n cap : Nat) (l : List (ByteArray × Int × List ByteArray)) (p : ByteArray) (sz : Int) (ka : Option Addr) (kn kc : Nat) (ks : List ByteArray) (v : Value) (w : World) (hp : isPath p = true) (hps : p.size ≤ 5000)
    (hn0 : n = l.length) (hl0 : LiesE w a l) (hnm : n ≤ 1000) (hls : ∀ j, j < n → (entOf l j).1.size ≤ 5000)
    (hkn : kn = ks.length) (hk : Lies w ka ks) (hkm : kn ≤ 1000000) (hks : ∀ j, j < kn → (ks.getD j ByteArray.empty).size ≤ 1000000)
    (h4 : (∃ j, j < n ∧ isUnder (entOf l j).1 p = true) → v = .iface 36 (.int .i64 4)) (h5 : 0 < n → lt (entOf l (n - 1)).1 p = false → v = .iface 36 (.int .i64 4))
    (h1 : (∀ j, j < n → isUnder (entOf l j).1 p = false) → (0 < n → lt (entOf l (n - 1)).1 p = true) → v = codeV (if restB sz 0 ks = false then 1 else 0)) :
    Calls Try.prog 69 #[.slice a n cap, .agg #[.string p, .int .i64 sz, .slice ka kn kc]] w fun e w' => e = .returned v ∧ Below w.heap.size w w' := by
  have hc : Hid (∀ W, Calls Try.prog 78 #[.string p] W fun e w' => e = .returned .nilIface ∧ Below W.heap.size W w') := fun W => check_ok p W (by omega) hp
  have HK : Hid (Lies w ka ks) := hk
  have HL : Hid (LiesE w a l) := hl0
  have HN : Hid (n = l.length) := hn0
  have ha : Hid (∀ W, Lies W ka ks → Calls Try.prog 80 #[.slice ka kn kc, .int .i64 sz] W fun e w' => e = .returned (.bool (restB sz 0 ks)) ∧ w' = W) := fun W h => areChunks_any ka kn kc ks sz W hkn h hkm hks
  have hun : Hid (∀ j, j < n → ∀ W, Calls Try.prog 79 #[.string (entOf l j).1, .string p] W fun e w' => e = .returned (.bool (isUnder (entOf l j).1 p)) ∧ Below W.heap.size W w') := fun j hj W => under_any _ p W (by have := hls j hj; omega) (by omega)
  have H4 : Hid ((∃ j, j < n ∧ isUnder (entOf l j).1 p = true) → v = .iface 36 (.int .i64 4)) := h4
  have H5 : Hid (0 < n → lt (entOf l (n - 1)).1 p = false → v = .iface 36 (.int .i64 4)) := h5
  have H1 : Hid ((∀ j, j < n → isUnder (entOf l j).1 p = false) → (0 < n → lt (entOf l (n - 1)).1 p = true) → v = codeV (if restB sz 0 ks = false then 1 else 0)) := h1
  clear hp hps hn0 hl0 hls hkn hk hks h4 h5 h1
  rcases Nat.eq_zero_or_pos n with hz | hpos
  · subst hz
    go_enter Try.func69, Try.ntmps69
    go_wp2_with (go_at_call 78; refine (hc.out _).mono ?_; rintro e w1 ⟨rfl, hb1⟩; obtain ⟨g0, g1, g2, hbw, hlt⟩ := ent_box hb1)
    go_quiet (fail)
    go_wp2
    go_loopw [4, 7, 32] (fun t4 _ t32 wr => t4 = .nilIface ∧ t32 = .int .i64 0 ∧ Below (w.alloc (.cells #[.string p, .int .i64 sz, .slice ka kn kc] 57)).heap.size (w.alloc (.cells #[.string p, .int .i64 sz, .slice ka kn kc] 57)) wr) (fun _ _ _ _ => 0)
    case atStart => exact ⟨rfl, rfl, below_drewN hb1 _⟩
    case round =>
      obtain ⟨rfl, rfl, hbr⟩ := hrel
      obtain ⟨e0, e1, e2, hbw2, hlt2⟩ := ent_box hbr
      clear g0 g1 g2 hbw hlt hb1
      have HV : Hid (v = codeV (if restB sz 0 ks = false then 1 else 0)) := H1.out (fun j hj => by omega) (fun h => by omega)
      have hac := ha.out wr (HK.out.below hbw2 (Nat.le_refl _))
      generalize restB sz 0 ks = r at hac HV
      clear H1 H4 H5
      go_wp2_with (go_at_call 80; refine hac.mono ?_; rintro e w3 ⟨rfl, rfl⟩)
      all_goals
        go_ret
        refine ⟨?_, hbw2⟩
        rw [HV.out]
        simp_all [codeV]
  · have HX : Hid (∀ wr, Below w.heap.size w wr → ∃ x, a = some x ∧ wr.cell? (x.add ((n - 1) * 3)) = some (.string (entOf l (n - 1)).1)) := fun wr hb => by
      obtain ⟨x, hx, h, _⟩ := (HL.out.below hb (Nat.le_refl _)).at (j := n - 1) (by rw [← HN.out]; omega)
      exact ⟨x, hx, h⟩
    obtain ⟨x, hx, hcx⟩ := HX.out w (Below.refl _ _)
    clear hcx
    subst hx
    have hix := index_at_ent x n cap (n - 1) ((n : Int) - 1) (by omega) (by omega)
    have hle := leq_lt p (entOf l (n - 1)).1
    obtain ⟨q, hq⟩ : ∃ q, q = (entOf l (n - 1)).1 := ⟨_, rfl⟩
    obtain ⟨b, hb⟩ : ∃ b, b = lt (entOf l (n - 1)).1 p := ⟨_, rfl⟩
    have HB : Hid (b = lt (entOf l (n - 1)).1 p) := hb
    have HX1 : Hid (∀ wr, Below w.heap.size w wr → wr.cell? (x.add ((n - 1) * 3)) = some (.string q)) := fun wr hb => by
      obtain ⟨y, hy, h⟩ := HX.out wr hb
      simp only [Option.some.injEq] at hy
      subst hy
      rw [hq]; exact h
    rw [← hb, ← hq] at hle
    generalize x.add ((n - 1) * 3) = pl at hix HX1
    have hd : decide (0 < n) = true := decide_eq_true hpos
    clear hq hb HX
    go_enter Try.func69, Try.ntmps69
    go_wp2_with (go_at_call 78; refine (hc.out _).mono ?_; rintro e w1 ⟨rfl, hb1⟩; obtain ⟨g0, g1, g2, hbw, hlt⟩ := ent_box hb1; have g3 := HX1.out w1 hbw)
    cases b with
    | false =>
      have hv := H5.out hpos HB.out.symm
      subst hv
      rw [Bool.not_false] at hle
      have HLE : Hid ((Op.bytesLess p.toList q.toList || p.toList == q.toList) = true) := hle
      clear hle
      go_quiet (fail)
      rw [HLE.out]
      go_wp2
      go_ret
      exact ⟨rfl, below_drewN hbw _⟩
    | true =>
      rw [Bool.not_true] at hle
      have HLE : Hid ((Op.bytesLess p.toList q.toList || p.toList == q.toList) = false) := hle
      clear hle
      go_quiet (fail)
      rw [HLE.out]
      clear g3 HLE hix HX1
      go_wp2
      go_loopw [4, 7, 32] (fun t4 _ t32 wr => ∃ i : Nat, t4 = .nilIface ∧ t32 = .int .i64 (i : Int) ∧ i ≤ n ∧ Below (w.alloc (.cells #[.string p, .int .i64 sz, .slice ka kn kc] 57)).heap.size (w.alloc (.cells #[.string p, .int .i64 sz, .slice ka kn kc] 57)) wr ∧ Hid (∀ j, j < i → isUnder (entOf l j).1 p = false)) (fun _ _ t32 _ => n - (intOf t32).toNat)
      case atStart => exact ⟨0, rfl, rfl, Nat.zero_le _, below_drewN hb1 _, fun j hj => by omega⟩
      case round =>
        obtain ⟨i, rfl, rfl, hi, hbr, HI⟩ := hrel
        obtain ⟨e0, e1, e2, hbw2, hlt2⟩ := ent_box hbr
        clear g0 g1 g2 hbw hlt hb1
        by_cases hin : i < n
        · obtain ⟨x', hx, h0, h1, ka', kc', h2, hk'⟩ := (HL.out.below hbw2 (Nat.le_refl _)).at (j := i) (by rw [← HN.out]; exact hin)
          simp only [Option.some.injEq] at hx
          subst hx
          have hu := hun.out i hin
          have HI2 : Hid (isUnder (entOf l i).1 p = false → ∀ j, j < i + 1 → isUnder (entOf l j).1 p = false) := fun hq j hj => by
            by_cases hji : j = i
            · subst hji; exact hq
            · exact HI.out j (by omega)
          have HX : Hid (isUnder (entOf l i).1 p = true → v = .iface 36 (.int .i64 4)) := fun hq => H4.out ⟨i, hin, hq⟩
          generalize entOf l i = en at h0 h1 h2 hk' hu HI2 HX
          obtain ⟨p', sz', ks'⟩ := en
          have hix := index_ent x n cap i hin
          simp only at h0 h1 h2 hk' hu HI2 HX
          generalize ks'.length = kn' at h2
          generalize x.add (i * 3) = q at h0 h1 h2 hix
          generalize isUnder p' p = b at hu HI2 HX
          have HBR : Hid (Below (w.alloc (.cells #[.string p, .int .i64 sz, .slice ka kn kc] 57)).heap.size (w.alloc (.cells #[.string p, .int .i64 sz, .slice ka kn kc] 57)) wr) := hbr
          clear hk' HI hbr hbw2
          go_wp2_with fail
          refine (hu _).mono ?_
          rintro e w2 ⟨rfl, hb2⟩
          have HB2 : Hid (Below (w.alloc (.cells #[.string p, .int .i64 sz, .slice ka kn kc] 57)).heap.size (w.alloc (.cells #[.string p, .int .i64 sz, .slice ka kn kc] 57)) w2) := (HBR.out.alloc HBR.out.size _).trans (hb2.mono (Nat.le_trans HBR.out.size (by simp)))
          clear hb2 HBR e0 e1 e2
          cases b with
          | true =>
            have hv := HX.out rfl
            subst hv
            go_wp2
            go_ret
            exact ⟨rfl, (ent_box HB2.out).2.2.2.1⟩
          | false =>
            have HI3 : Hid (∀ j, j < i + 1 → isUnder (entOf l j).1 p = false) := HI2.out rfl
            clear HI2 HX
            go_wp2
            go_roundw
            case rel => exact ⟨i + 1, rfl, by go_num, by omega, HB2.out, HI3⟩
            case measure => simp [intOf]; omega
        · have HV : Hid (v = codeV (if restB sz 0 ks = false then 1 else 0)) := H1.out (fun j hj => HI.out j (by omega)) (fun _ => HB.out.symm)
          have hac := ha.out wr (HK.out.below hbw2 (Nat.le_refl _))
          clear HI
          generalize restB sz 0 ks = r at hac HV
          go_wp2_with (go_at_call 80; refine hac.mono ?_; rintro e w3 ⟨rfl, rfl⟩)
          all_goals
            go_ret
            refine ⟨?_, hbw2⟩
            rw [HV.out]
            simp_all [codeV]

end Go.Proofs.Ytlpgdfdadkljfaa.Tree

/-
  What is amiss with entries, and where: the program's 'Check'.
-/
namespace Go.Proofs.Ytlpgdfdadkljfaa.Tree
open Go.RowKit Route Chunk

theorem firstBad_first {l : List (ByteArray × Int × List ByteArray)} {c k : Nat} : ∀ (f i : Nat), firstBad l i f = some (c, k) → ∀ j, i ≤ j → j < k → codeOf (l.take j) (entOf l j) = 0
  | 0, i, h, j, _, _ => by cases h
  | f + 1, i, h, j, h1, h2 => by
    rw [firstBad] at h
    split at h
    · by_cases hj : j = i
      · subst hj; assumption
      · exact firstBad_first f (i + 1) h j (by omega) h2
    · simp only [Option.some.injEq, Prod.mk.injEq] at h
      omega

theorem last_ent {l : List (ByteArray × Int × List ByteArray)} {n : Nat} (hn : n = l.length) (h : 0 < n) : l.getLast? = some (entOf l (n - 1)) := by
  subst hn
  rw [List.getLast?_eq_getElem?, entOf, List.getD_eq_getElem?_getD, List.getElem?_eq_getElem (by omega)]
  rfl

theorem any_ent {l : List (ByteArray × Int × List ByteArray)} {n : Nat} (hn : n = l.length) (f : ByteArray × Int × List ByteArray → Bool) : l.any f = true ↔ ∃ j, j < n ∧ f (entOf l j) = true := by
  subst hn
  rw [List.any_eq_true]
  constructor
  · rintro ⟨x, hx, h⟩
    obtain ⟨j, hj, rfl⟩ := List.getElem_of_mem hx
    exact ⟨j, hj, by rw [entOf, List.getD_eq_getElem?_getD, List.getElem?_eq_getElem hj]; exact h⟩
  · rintro ⟨j, hj, h⟩
    exact ⟨_, ent_mem hj, h⟩

/-- Entries that the walks may read: few, and short. -/
def EntsOk (n : Nat) (l : List (ByteArray × Int × List ByteArray)) : Prop := n = l.length ∧ n ≤ 100 ∧ ∀ j, j < n → shortE (entOf l j)

theorem checkEntry_any (a : Option Addr) (n cap : Nat) (l : List (ByteArray × Int × List ByteArray)) (p : ByteArray) (sz : Int) (ka : Option Addr) (kn kc : Nat) (ks : List ByteArray) (w : World)
    (hl : EntsOk n l) (hl0 : LiesE w a l) (hs : shortE (p, sz, ks)) (hkn : kn = ks.length) (hk : Lies w ka ks) :
    Calls Try.prog 69 #[.slice a n cap, .agg #[.string p, .int .i64 sz, .slice ka kn kc]] w fun e w' => e = .returned (codeV (codeOf l (p, sz, ks))) ∧ Below w.heap.size w w' := by
  obtain ⟨hn, hnm, hls⟩ := hl
  obtain ⟨h1, h2, h3⟩ := hs
  cases hp : isPath p with
  | false =>
    have := checkEntry_path a n cap p (.int .i64 sz) (.slice ka kn kc) w hp h1
    rw [codeOf, if_pos hp]
    exact this
  | true =>
    refine checkEntry_core a n cap l p sz ka kn kc ks _ w hp h1 hn hl0 (by omega) (fun j hj => (hls j hj).1) hkn hk (by rw [hkn]; exact Nat.le_trans h2 (by omega)) (fun j hj => Nat.le_trans (h3 j (by rw [← hkn]; exact hj)) (by omega)) ?_ ?_ ?_
    · intro h
      rw [codeOf, if_neg (by simp [hp]), if_pos (.inr ((any_ent hn _).2 h))]; rfl
    · intro h0 h
      rw [codeOf, if_neg (by simp [hp]), if_pos (.inl ⟨_, last_ent hn h0, h⟩)]; rfl
    · intro h4 h5
      rw [codeOf, if_neg (by simp [hp]), if_neg]
      rintro (⟨x, hx, h⟩ | h)
      · have h0 : 0 < n := by
          rcases Nat.eq_zero_or_pos n with h0 | h0
          · have : l = [] := List.eq_nil_of_length_eq_zero (by omega)
            rw [this] at hx; cases hx
          · exact h0
        rw [last_ent hn h0] at hx
        simp only [Option.some.injEq] at hx
        subst hx
        rw [h5 h0] at h; cases h
      · obtain ⟨j, hj, h⟩ := (any_ent hn _).1 h
        rw [h4 j hj] at h; cases h

/-- An error, or none: its number, and its place. -/
def ErrV (B : Nat) (w : World) (v : Value) (c : Nat) (pl : Option Nat) : Prop :=
  (c = 0 ∧ pl = none ∧ v = .nilIface) ∨ (c ≠ 0 ∧ pl = none ∧ v = .iface 36 (.int .i64 (c : Int))) ∨
  (c ≠ 0 ∧ ∃ i g, pl = some i ∧ v = .iface 112 (.pointer (some ⟨g, 0, none⟩)) ∧ B ≤ g ∧ w.cell? ⟨g, 0, none⟩ = some (.int .i64 (i : Int)) ∧ w.cell? ⟨g, 1, none⟩ = some (.iface 36 (.int .i64 (c : Int))))

theorem slice_ents (a : Option Addr) (n cap i : Nat) (h : i ≤ cap) (w : World) : (Instr.slice 50 (.slice a n cap) none (some (.int .i64 (i : Int))) none).run Try.prog w = .ok (.slice a i cap) w := by
  rw [run_slice_h w 50 a n cap (by kernel_rfl) .i64 (i : Int) (by omega) (by omega)]
  have e : (sizeOf (Try.prog.elem 50)).run Try.prog w = .ok 3 w := by kernel_rfl
  rw [e]
  cases a with
  | none => simp [sliced, Result.andThen]
  | some a => by_cases h : cap = 0 <;> simp [sliced, Result.andThen, h, Addr.add]

set_option maxHeartbeats 4000000 in
set_option maxRecDepth 100000 in
theorem check_large (a : Option Addr) (n cap : Nat) (w : World) (hn : 32 < n) :
    Calls Try.prog 55 #[.slice a n cap] w fun e w' => e = .returned (.iface 36 (.int .i64 7)) ∧ w' = w := by
  go_enter Try.func55, Try.ntmps55
  go_wp2
  go_ret
  exact ⟨rfl, rfl⟩

set_option maxHeartbeats 4000000 in
set_option maxRecDepth 100000 in
theorem check_core (a : Option Addr) (n cap : Nat) (l : List (ByteArray × Int × List ByteArray)) (c : Nat) (pl : Option Nat) (w : World) (hl : EntsOk n l) (hl0 : LiesE w a l) (hc : n ≤ cap) (hn : n ≤ 32)
    (h0 : (∀ j, j < n → codeOf (l.take j) (entOf l j) = 0) → c = 0 ∧ pl = none)
    (h1 : ∀ j, j < n → (∀ k, k < j → codeOf (l.take k) (entOf l k) = 0) → codeOf (l.take j) (entOf l j) ≠ 0 → c = codeOf (l.take j) (entOf l j) ∧ pl = some j) :
    Calls Try.prog 55 #[.slice a n cap] w fun e w' => (∃ v, e = .returned v ∧ ErrV w.heap.size w' v c pl) ∧ Below w.heap.size w w' := by
  have HN : Hid (n = l.length) := hl.1
  have HL : Hid (LiesE w a l) := hl0
  have hce : Hid (∀ j, j < n → ∀ (ka : Option Addr) (kc : Nat) W, LiesE W a l → Lies W ka (entOf l j).2.2 → Calls Try.prog 69 #[.slice a j cap, .agg #[.string (entOf l j).1, .int .i64 (entOf l j).2.1, .slice ka (entOf l j).2.2.length kc]] W fun e w' => e = .returned (codeV (codeOf (l.take j) (entOf l j))) ∧ Below W.heap.size W w') := by
    intro j hj ka kc W h1 h2
    obtain ⟨e1, e2, e3⟩ := hl
    refine checkEntry_any a j cap (l.take j) _ _ ka _ kc _ W ⟨by rw [List.length_take]; omega, by omega, fun k hk => ?_⟩ (h1.take j) (e3 j hj) rfl h2
    have : entOf (l.take j) k = entOf l k := by simp [entOf, List.getD_eq_getElem?_getD, hk]
    rw [this]; exact e3 k (by omega)
  have hsl : Hid (∀ j, j < n → ∀ W, (Instr.slice 50 (.slice a n cap) none (some (.int .i64 (j : Int))) none).run Try.prog W = .ok (.slice a j cap) W) := fun j hj W => slice_ents a n cap j (by omega) W
  have H0 : Hid ((∀ j, j < n → codeOf (l.take j) (entOf l j) = 0) → c = 0 ∧ pl = none) := h0
  have H1 : Hid (∀ j, j < n → (∀ k, k < j → codeOf (l.take k) (entOf l k) = 0) → codeOf (l.take j) (entOf l j) ≠ 0 → c = codeOf (l.take j) (entOf l j) ∧ pl = some j) := h1
  clear hl hl0 h0 h1 hc
  go_enter Try.func55, Try.ntmps55
  go_wp2
  go_loopw [2, 3, 4, 5, 12] (fun t2 _ _ _ t12 wr => ∃ i : Nat, t2 = .nilIface ∧ t12 = .int .i64 (i : Int) ∧ i ≤ n ∧ Below w.heap.size w wr ∧ Hid (∀ j, j < i → codeOf (l.take j) (entOf l j) = 0)) (fun _ _ _ _ t12 _ => n - (intOf t12).toNat)
  case atStart => exact ⟨0, rfl, rfl, Nat.zero_le _, Below.refl _ _, fun j hj => by omega⟩
  case round =>
    obtain ⟨i, rfl, rfl, hi, hbr, HI⟩ := hrel
    by_cases hin : i < n
    · have hlr := HL.out.below hbr (Nat.le_refl _)
      obtain ⟨x, hx, g0, g1, ka, kc, g2, hk⟩ := hlr.at (j := i) (by rw [← HN.out]; exact hin)
      subst hx
      have hs := hsl.out i hin
      have hcl := hce.out i hin ka kc
      have HX := H1.out i hin HI.out
      have HI2 : Hid (codeOf (l.take i) (entOf l i) = 0 → ∀ j, j < i + 1 → codeOf (l.take j) (entOf l j) = 0) := fun hq j hj => by
        by_cases hji : j = i
        · subst hji; exact hq
        · exact HI.out j (by omega)
      generalize codeOf (l.take i) (entOf l i) = r at hcl HX HI2
      generalize entOf l i = en at g0 g1 g2 hk hcl
      obtain ⟨p, sz, ks⟩ := en
      have hix := index_ent x n cap i hin
      simp only at g0 g1 g2 hk hcl
      generalize hkn : ks.length = kn at g2 hcl
      generalize x.add (i * 3) = q at g0 g1 g2 hix
      have HW : Hid (∀ W, (Below (wr.alloc (.cells #[.string p, .int .i64 sz, .slice ka kn kc] 57)).heap.size (wr.alloc (.cells #[.string p, .int .i64 sz, .slice ka kn kc] 57)) W ∧ W.cell? ⟨wr.heap.size, 0, none⟩ = some (.string p) ∧ W.cell? ⟨wr.heap.size, 1, none⟩ = some (.int .i64 sz) ∧ W.cell? ⟨wr.heap.size, 2, none⟩ = some (.slice ka kn kc)) →
          Calls Try.prog 69 #[.slice (some x) i cap, .agg #[.string p, .int .i64 sz, .slice ka kn kc]] W fun e w' => e = .returned (codeV r) ∧ (Below (wr.alloc (.cells #[.string p, .int .i64 sz, .slice ka kn kc] 57)).heap.size (wr.alloc (.cells #[.string p, .int .i64 sz, .slice ka kn kc] 57)) w' ∧ w'.cell? ⟨wr.heap.size, 0, none⟩ = some (.string p) ∧ w'.cell? ⟨wr.heap.size, 1, none⟩ = some (.int .i64 sz) ∧ w'.cell? ⟨wr.heap.size, 2, none⟩ = some (.slice ka kn kc))) := by
        rintro W ⟨b0, _⟩
        obtain ⟨_, _, _, b4, _⟩ := ent_box b0
        refine (hcl W (hlr.below b4 (Nat.le_refl _)) (hk.1.below b4 (Nat.le_refl _))).mono ?_
        rintro e w' ⟨rfl, hb⟩
        have b5 := b0.trans (hb.mono b0.size)
        obtain ⟨c0, c1, c2, _⟩ := ent_box b5
        exact ⟨rfl, b5, c0, c1, c2⟩
      have HBR : Hid (Below w.heap.size w wr) := hbr
      clear hlr hk hcl hkn HI hbr
      go_wp2_with fail
      go_region_held (fun W => (Below (wr.alloc (.cells #[.string p, .int .i64 sz, .slice ka kn kc] 57)).heap.size (wr.alloc (.cells #[.string p, .int .i64 sz, .slice ka kn kc] 57)) W ∧ W.cell? ⟨wr.heap.size, 0, none⟩ = some (.string p) ∧ W.cell? ⟨wr.heap.size, 1, none⟩ = some (.int .i64 sz) ∧ W.cell? ⟨wr.heap.size, 2, none⟩ = some (.slice ka kn kc))) (first | assumption | exact ⟨(Below.refl _ _).drew, by simp, by simp, by simp⟩)
        (first | (go_at_call 69; refine (HW.out _ (by assumption)).mono ?_; rintro e w2 ⟨rfl, hb2⟩))
      have HB2 : Hid (Below w.heap.size w w2) := HBR.out.trans ((ent_box hb2.1).2.2.2.1.mono HBR.out.size)
      clear hb2 HW
      rcases Nat.eq_zero_or_pos r with hr | hr
      · have HI3 : Hid (∀ j, j < i + 1 → codeOf (l.take j) (entOf l j) = 0) := HI2.out hr
        subst hr
        rw [show codeV 0 = .nilIface from rfl]
        clear HI2 HX
        go_wp2
        go_roundw
        case rel => exact ⟨i + 1, rfl, by go_num, by omega, HB2.out, HI3⟩
        case measure => simp [intOf]; omega
      · have HC : Hid (c = r ∧ pl = some i) := HX (by omega)
        rw [show codeV r = .iface 36 (.int .i64 (r : Int)) by rw [codeV, if_neg (by omega)]]
        clear HI2 HX
        have hsz := HB2.out.size
        go_wp2
        go_ret
        obtain ⟨rfl, rfl⟩ := HC.out
        exact ⟨⟨_, rfl, .inr (.inr ⟨by omega, i, w2.heap.size, rfl, rfl, hsz, by simp, by simp⟩)⟩, HB2.out.alloc hsz _⟩
    · have hq := H0.out (fun j hj => HI.out j (by omega))
      have HV : Hid (c = 0 ∧ pl = none) := hq
      clear HI hq
      go_wp2
      go_ret
      exact ⟨⟨_, rfl, .inl ⟨HV.out.1, HV.out.2, rfl⟩⟩, hbr⟩

end Go.Proofs.Ytlpgdfdadkljfaa.Tree

/-
  An entry in new memory: the program's 'copyOf'.
-/
namespace Go.Proofs.Ytlpgdfdadkljfaa.Tree
open Go.RowKit Route Chunk

theorem own_far {w : World} {B g i : Nat} {x v : Value} {n : Nat} {xs : List Value} (h : w.ownsRow B 9 1 v n xs) (hg : g < B) : (w.setCell ⟨g, i, none⟩ x).ownsRow B 9 1 v n xs := by
  refine ⟨h.1, h.2.imp id fun ⟨g', cap, cur, h1, h2, h3, h4⟩ => ⟨g', cap, cur, h1, h2, ?_, h4⟩⟩
  rw [← h3, World.setCell]
  simp [Array.getElem?_modify, show g ≠ g' by omega]

/-- What lies ahead of a world stays in it where nothing below has turned. -/
theorem cell_kept {W wr : World} (hb : Below W.heap.size W wr) {x : Addr} {v : Value} (h : W.cell? x = some v) : wr.cell? x = some v := cell_below hb (Nat.le_refl _) h

end Go.Proofs.Ytlpgdfdadkljfaa.Tree

/-
  Rows of entries that a call owns: each entry's cells, its chunks in a row of their own; one more behind them; the row sorted.
-/
namespace Go.Proofs.Ytlpgdfdadkljfaa.Tree
open Go.RowKit Route Chunk

/-- A value of one cell, or else nil. -/
def fix (v : Value) : Value := if v.oneCell' = true then v else .nilIface

theorem fix_one (v : Value) : (fix v).oneCell' = true := by
  unfold fix
  split
  · assumption
  · rfl

/-- An entry and its chunks' slice, as cells. -/
def enc (z : (ByteArray × Int × List ByteArray) × Value) : List Value := [.string z.1.1, .int .i64 z.1.2.1, fix z.2]

def cellsOf (Z : List ((ByteArray × Int × List ByteArray) × Value)) : List Value := Z.flatMap enc

theorem cellsOf_len (Z : List ((ByteArray × Int × List ByteArray) × Value)) : (cellsOf Z).length = Z.length * 3 := by
  induction Z with
  | nil => rfl
  | cons z Z ih => simp only [cellsOf, List.flatMap_cons, List.length_append] at *; rw [ih]; simp [enc]; omega

theorem cellsOf_app (Y Z : List ((ByteArray × Int × List ByteArray) × Value)) : cellsOf (Y ++ Z) = cellsOf Y ++ cellsOf Z := by simp [cellsOf]

/-- The j-th of them. -/
def zOf (Z : List ((ByteArray × Int × List ByteArray) × Value)) (j : Nat) : (ByteArray × Int × List ByteArray) × Value := Z.getD j (noEnt, .nilIface)

theorem cellsOf_at : ∀ (Z : List ((ByteArray × Int × List ByteArray) × Value)) (j c : Nat), j < Z.length → c < 3 → (cellsOf Z)[j * 3 + c]? = (enc (zOf Z j))[c]?
  | [], j, c, hj, _ => by simp at hj
  | z :: Z, 0, c, _, hc => by
    have : (enc z).length = 3 := rfl
    simp only [cellsOf, List.flatMap_cons, Nat.zero_mul, Nat.zero_add]
    rw [List.getElem?_append_left (by omega)]
    rfl
  | z :: Z, j + 1, c, hj, hc => by
    have h3 : (enc z).length = 3 := rfl
    have ih := cellsOf_at Z j c (by simpa using hj) hc
    simp only [cellsOf, List.flatMap_cons] at *
    rw [List.getElem?_append_right (by omega), h3, show (j + 1) * 3 + c - 3 = j * 3 + c by omega, ih]
    simp [zOf]

/-- Each one's chunks are in a row of the call's own. -/
def KeyRow (B : Nat) (w : World) (z : (ByteArray × Int × List ByteArray) × Value) : Prop := w.ownsRow B 9 1 z.2 z.1.2.2.length (sv z.1.2.2)

/-- In w the slice v owns the entries Z, in a block from B on; below B the world is as W0 was. -/
def Ents (B : Nat) (v : Value) (Z : List ((ByteArray × Int × List ByteArray) × Value)) (W0 w : World) : Prop :=
  w.ownsRow B 57 3 v Z.length (cellsOf Z) ∧ Below B W0 w ∧ B ≤ w.heap.size ∧ ∀ z ∈ Z, KeyRow B w z

theorem own30_later {w w' : World} {B : Nat} {e : TypeId} {s : Nat} {v : Value} {n : Nat} {xs : List Value} (h : w.ownsRow B e s v n xs) (hb : Below w.heap.size w w') : w'.ownsRow B e s v n xs :=
  ⟨h.1, h.2.imp id fun ⟨g, cap, cur, h1, h2, h3, h4⟩ => ⟨g, cap, cur, h1, h2, (hb.block g (Array.getElem?_eq_some_iff.1 h3).1).trans h3, h4⟩⟩

theorem own_any {w : World} {B B' : Nat} {e : TypeId} {s : Nat} {v : Value} {n : Nat} {xs : List Value} (h : w.ownsRow B e s v n xs) (hb : B' ≤ B) : w.ownsRow B' e s v n xs :=
  ⟨h.1, h.2.imp id fun ⟨g, cap, cur, h1, h2, h3⟩ => ⟨g, cap, cur, h1, Nat.le_trans hb h2, h3⟩⟩

theorem Ents.nil (w : World) : Ents w.heap.size (.slice none 0 0) [] w w := ⟨World.ownsRow_nil w _ 57 3, Below.refl _ _, Nat.le_refl _, fun z hz => by simp at hz⟩

theorem Ents.later {B : Nat} {v : Value} {Z : List ((ByteArray × Int × List ByteArray) × Value)} {W0 w w' : World} (h : Ents B v Z W0 w) (hb : Below w.heap.size w w') : Ents B v Z W0 w' :=
  ⟨own30_later h.1 hb, h.2.1.trans (hb.mono h.2.2.1), Nat.le_trans h.2.2.1 hb.size, fun z hz => own30_later (h.2.2.2 z hz) hb⟩

theorem Ents.alloc {B : Nat} {v : Value} {Z : List ((ByteArray × Int × List ByteArray) × Value)} {W0 w : World} (h : Ents B v Z W0 w) (o : Obj) : Ents B v Z W0 (w.alloc o) :=
  h.later ((Below.refl _ _).alloc (Nat.le_refl _) o)

/-- Rows of different kinds lie in different blocks. -/
theorem apart {w : World} {B B' : Nat} {v v' : Value} {n n' s s' : Nat} {xs xs' : List Value} (h : w.ownsRow B 57 s v n xs) (h' : w.ownsRow B' 9 s' v' n' xs') : v'.ownBlock = none ∨ v'.ownBlock ≠ v.ownBlock := by
  rcases h'.2 with ⟨rfl, _⟩ | ⟨g', cap', cur', rfl, _, e', _⟩
  · exact .inl rfl
  · right
    rcases h.2 with ⟨rfl, _⟩ | ⟨g, cap, cur, rfl, _, e, _⟩
    · simp [Value.ownBlock]
    · simp only [Value.ownBlock, ne_eq, Option.some.injEq]
      rintro rfl
      rw [e'] at e
      simp at e

theorem Ents.grown {B : Nat} {v v' : Value} {Z Z' : List ((ByteArray × Int × List ByteArray) × Value)} {W0 w w' : World} (h : Ents B v Z W0 w) (ho : w'.ownsRow B 57 3 v' Z'.length (cellsOf Z')) (hg : w.grownBy w' v.ownBlock) (hz : ∀ z ∈ Z', KeyRow B w z) : Ents B v' Z' W0 w' :=
  ⟨ho, h.2.1.grown hg h.2.2.1 (fun k hk => (h.1.lt k hk).1), Nat.le_trans h.2.2.1 hg.size, fun z hzz => (hz z hzz).kept hg (apart h.1 (hz z hzz))⟩

theorem info30 : (Try.prog.info? 57).map (fun i => (i.zero, i.size, i.bytes)) = some (some (.agg #[.string ByteArray.empty, .int .i64 0, .slice none 0 0]), 3, 48) := by kernel_rfl

theorem key_one {B : Nat} {w : World} {z : (ByteArray × Int × List ByteArray) × Value} (h : KeyRow B w z) : z.2.oneCell' = true := by
  rcases h.2 with ⟨e, _⟩ | ⟨_, _, _, e, _⟩ <;> rw [e] <;> rfl

theorem enc_key {B : Nat} {w : World} {z : (ByteArray × Int × List ByteArray) × Value} (h : KeyRow B w z) : enc z = [.string z.1.1, .int .i64 z.1.2.1, z.2] := by
  rw [enc, fix, if_pos (key_one h)]

/-- 'append(l, e)': the one entry lies in the block that the statement has just laid. -/
theorem wpList_ent {ops : Array Oper} {rest : List Oper} {o : Oper} {a : Act} {Q : Exit → Act → World → Prop} (hgd : o.guard = none) (s x : Operand)
    (ho : o.op = .call { callee := .builtin .append, args := #[s, x], argTypes := #[50, 50] })
    (B : Nat) (v : Value) (Z : List ((ByteArray × Int × List ByteArray) × Value)) (hs : a.eval s = v) (W0 w0 : World) (z : (ByteArray × Int × List ByteArray) × Value) (hb : Ents B v Z W0 w0) (hk : KeyRow B w0 z)
    (hx : a.eval x = .slice (some ⟨w0.heap.size, 0, none⟩) 1 1) (hlen : Z.length + 1 ≤ 1000000)
    (h : ∀ v' w', Ents B v' (Z ++ [z]) W0 w' → wpList Try.prog ops Q rest (a.put o.dst v') w') : wpList Try.prog ops Q (o :: rest) a (w0.alloc (.cells #[.string z.1.1, .int .i64 z.1.2.1, z.2] 57)) := by
  obtain ⟨i0, hi, hz0, hz1, hz2⟩ := info_parts info30
  have hb' := hb.alloc (.cells #[.string z.1.1, .int .i64 z.1.2.1, z.2] 57)
  have hk' : KeyRow B (w0.alloc (.cells #[.string z.1.1, .int .i64 z.1.2.1, z.2] 57)) z := own30_later hk ((Below.refl _ _).alloc (Nat.le_refl _) _)
  refine wpList_append_own _ hgd s x 50 ho B 57 i0 (.agg #[.string ByteArray.empty, .int .i64 0, .slice none 0 0]) 3 48 Try.underlying50 hi hz0 hz1 hz2 rfl (by decide) v Z.length (cellsOf Z) hs hb'.1 ⟨w0.heap.size, 0, none⟩ 1 1 [.string z.1.1, .int .i64 z.1.2.1, z.2] hx rfl ?_ ?_ (by unfold maxLen; omega) (by omega) hb'.2.2.1 ?_
  · intro j u hj
    match j, hj with
    | 0, hj => simp at hj; subst hj; simp [Addr.add]
    | 1, hj => simp at hj; subst hj; simp [Addr.add]
    | 2, hj => simp at hj; subst hj; simp [Addr.add]
    | (j + 3), hj => simp at hj
  · intro u hu
    simp at hu
    rcases hu with rfl | rfl | rfl
    · rfl
    · rfl
    · exact key_one hk
  · intro v' w' ho' hg _
    refine h v' w' (hb'.grown (Z' := Z ++ [z]) ?_ hg ?_)
    · rw [cellsOf_app, List.length_append]
      have e : cellsOf [z] = [.string z.1.1, .int .i64 z.1.2.1, z.2] := by simp [cellsOf, enc_key hk]
      rw [e]
      exact ho'
    · intro z' hz'
      rcases List.mem_append.1 hz' with hz' | hz'
      · exact hb'.2.2.2 z' hz'
      · rw [List.mem_singleton] at hz'; subst hz'; exact hk'

end Go.Proofs.Ytlpgdfdadkljfaa.Tree

/-
  A path's entry: the program's 'Find'.
-/
namespace Go.Proofs.Ytlpgdfdadkljfaa.Tree
open Go.RowKit Route Chunk

theorem ErrV.far {B : Nat} {w : World} {v : Value} {c : Nat} {pl : Option Nat} (h : ErrV B w v c pl) {g i : Nat} {x : Value} (hg : g < B) : ErrV B (w.setCell ⟨g, i, none⟩ x) v c pl := by
  rcases h with h | h | ⟨h0, k, g', h1, h2, h3, h4, h5⟩
  · exact .inl h
  · exact .inr (.inl h)
  · refine .inr (.inr ⟨h0, k, g', h1, h2, h3, ?_, ?_⟩)
    · rw [World.cell?_setCell_far _ _ _ _ (show g ≠ g' by omega)]; exact h4
    · rw [World.cell?_setCell_far _ _ _ _ (show g ≠ g' by omega)]; exact h5

theorem ErrV.mono {B B' : Nat} {w : World} {v : Value} {c : Nat} {pl : Option Nat} (h : ErrV B w v c pl) (hB : B' ≤ B) : ErrV B' w v c pl := by
  rcases h with h | h | ⟨h0, k, g', h1, h2, h3, h4⟩
  · exact .inl h
  · exact .inr (.inl h)
  · exact .inr (.inr ⟨h0, k, g', h1, h2, Nat.le_trans hB h3, h4⟩)

theorem ErrV.below {B : Nat} {w w' : World} {v : Value} {c : Nat} {pl : Option Nat} (h : ErrV B w v c pl) (hb : Below w.heap.size w w') : ErrV B w' v c pl := by
  rcases h with h | h | ⟨h0, k, g', h1, h2, h3, h4, h5⟩
  · exact .inl h
  · exact .inr (.inl h)
  · exact .inr (.inr ⟨h0, k, g', h1, h2, h3, cell_kept hb h4, cell_kept hb h5⟩)

/-- An error that is one: what the walks ask of it. -/
def Bad (v : Value) : Prop := (∀ W, (binOp .neq 27 v .nilIface).run Try.prog W = .ok (.bool true) W) ∧ (∀ t W, (eqGuard .neq 27 (.tmp t) (.const .nilIface) v .nilIface).run Try.prog W = .ok () W)

theorem ErrV.bad {B : Nat} {w : World} {v : Value} {c : Nat} {pl : Option Nat} (h : ErrV B w v c pl) (hc : c ≠ 0) : Bad v := by
  rcases h with h | ⟨_, _, rfl⟩ | ⟨_, k, g', _, rfl, _⟩
  · exact absurd h.1 hc
  · exact ⟨fun W => by kernel_rfl, fun t W => by kernel_rfl⟩
  · exact ⟨fun W => by kernel_rfl, fun t W => by kernel_rfl⟩

/-- Is it a tree? -/
def isTree (l : List (ByteArray × Int × List ByteArray)) : Prop := l.length ≤ 32 ∧ ∀ j, j < l.length → codeOf (l.take j) (entOf l j) = 0

theorem checkAns_tree {l : List (ByteArray × Int × List ByteArray)} : (checkAns l).1 = 0 ↔ isTree l := by
  unfold checkAns isTree
  by_cases h : 32 < l.length
  · rw [if_pos h]
    exact ⟨fun h => by simp at h, fun h => by omega⟩
  · rw [if_neg h]
    cases e : firstBad l 0 l.length with
    | none => exact ⟨fun _ => ⟨by omega, fun j hj => firstBad_none _ _ e j (Nat.zero_le _) (by omega)⟩, fun _ => rfl⟩
    | some x =>
      obtain ⟨c, i⟩ := x
      obtain ⟨_, h2, h3, h4⟩ := firstBad_some _ _ e
      exact ⟨fun h => absurd h h3, fun h => absurd (h4 ▸ h.2 i (by omega)) h3⟩

/-- What 'Check' tells, of any entries that are few and short. -/
theorem check_ans (a : Option Addr) (n cap : Nat) (l : List (ByteArray × Int × List ByteArray)) (w : World) (hl : EntsOk n l) (hl0 : LiesE w a l) (hc : n ≤ cap) :
    Calls Try.prog 55 #[.slice a n cap] w fun e w' => (∃ v, e = .returned v ∧ ErrV w.heap.size w' v (checkAns l).1 (checkAns l).2) ∧ Below w.heap.size w w' := by
  have hn := hl.1
  by_cases h : 32 < n
  · refine (check_large a n cap w h).mono ?_
    rintro e w' ⟨rfl, rfl⟩
    rw [checkAns, if_pos (by omega)]
    exact ⟨⟨_, rfl, .inr (.inl ⟨by decide, rfl, rfl⟩)⟩, Below.refl _ _⟩
  · refine check_core a n cap l _ _ w hl hl0 hc (by omega) ?_ ?_
    · intro h0
      have e : checkAns l = (0, none) := by
        rw [checkAns, if_neg (by omega), firstBad_all _ _ fun j _ hj => h0 j (by omega)]
      rw [e]; exact ⟨rfl, rfl⟩
    · intro j hj h0 h1
      have e : checkAns l = (codeOf (l.take j) (entOf l j), some j) := by
        rw [checkAns, if_neg (by omega)]
        cases e : firstBad l 0 l.length with
        | none => exact absurd (firstBad_none _ _ e j (Nat.zero_le _) (by omega)) h1
        | some x =>
          obtain ⟨c, i⟩ := x
          obtain ⟨_, h2, h3, h4⟩ := firstBad_some _ _ e
          have hij : i = j := by
            rcases Nat.lt_trichotomy i j with h | h | h
            · exact absurd (h4 ▸ h0 i h) h3
            · exact h
            · have := firstBad_first _ _ e j (Nat.zero_le _) h
              exact absurd this h1
          subst hij
          rw [h4]
      rw [e]; exact ⟨rfl, rfl⟩

theorem check_tree (a : Option Addr) (n cap : Nat) (l : List (ByteArray × Int × List ByteArray)) (w : World) (hl : EntsOk n l) (hl0 : LiesE w a l) (hc : n ≤ cap) (ht : isTree l) :
    Calls Try.prog 55 #[.slice a n cap] w fun e w' => e = .returned .nilIface ∧ Below w.heap.size w w' := by
  refine (check_ans a n cap l w hl hl0 hc).mono ?_
  rintro e w' ⟨⟨v, rfl, h⟩, hb⟩
  have h0 := checkAns_tree.2 ht
  rcases h with ⟨_, _, rfl⟩ | ⟨h, _⟩ | ⟨h, _⟩
  · exact ⟨rfl, hb⟩
  · exact absurd h0 h
  · exact absurd h0 h

theorem ne_text {p q : ByteArray} (h : p ≠ q) : (p.toList == q.toList) = false := by rw [str_eq, decide_eq_false h]

end Go.Proofs.Ytlpgdfdadkljfaa.Tree

/-
  Are two entries, or two rows of them, the same: the law's 'Same' and 'SameAll'; what a row that a call owns reads as.
-/
namespace Go.Proofs.Ytlpgdfdadkljfaa.Tree
open Go.RowKit Route Chunk

theorem key_lies {B : Nat} {w : World} {v : Value} {l : List ByteArray} (h : w.ownsRow B 9 1 v l.length (sv l)) : ∃ a cap, v = .slice a l.length cap ∧ KeysIn w a cap l := by
  rcases h.2 with ⟨rfl, hn⟩ | ⟨g, cap, cur, rfl, hb, hg, hnc, hcm, hcs, ht⟩
  · have : l = [] := List.eq_nil_of_length_eq_zero hn
    subst this
    exact ⟨none, 0, rfl, .inl rfl, Nat.le_refl _, Nat.zero_le _, fun _ => rfl⟩
  · refine ⟨_, cap, rfl, .inr ⟨_, rfl, fun j hj => ?_⟩, hnc, hcm, fun h => by cases h⟩
    rw [Go.WideShapes.add_plain, Nat.zero_add, h.cellAt j (by omega), sv_at l j hj]

theorem zOf_mem {Z : List ((ByteArray × Int × List ByteArray) × Value)} {j : Nat} (h : j < Z.length) : zOf Z j ∈ Z := by
  simp [zOf, List.getD_eq_getElem?_getD, h]

theorem zOf_map {Z : List ((ByteArray × Int × List ByteArray) × Value)} {j : Nat} (h : j < Z.length) : entOf (Z.map (·.1)) j = (zOf Z j).1 := by
  simp [zOf, entOf, List.getD_eq_getElem?_getD, h]

/-- What a row of entries reads as. -/
theorem Ents.lies {B : Nat} {v : Value} {Z : List ((ByteArray × Int × List ByteArray) × Value)} {W0 w : World} (h : Ents B v Z W0 w) : ∃ a cap, v = .slice a Z.length cap ∧ Z.length ≤ cap ∧ LiesE w a (Z.map (·.1)) := by
  rcases h.1.2 with ⟨rfl, hn⟩ | ⟨g, cap, cur, rfl, hb, hg, hnc, hcm, hcs, ht⟩
  · have : Z = [] := List.eq_nil_of_length_eq_zero hn
    subst this
    exact ⟨none, 0, rfl, Nat.le_refl _, .inl rfl⟩
  · refine ⟨_, cap, rfl, hnc, .inr ⟨_, rfl, fun j hj => ?_⟩⟩
    have hj' : j < Z.length := by simpa using hj
    have hk := h.2.2.2 _ (zOf_mem hj')
    have ez := enc_key hk
    have c : ∀ k, k < 3 → w.cell? ⟨g, j * 3 + k, none⟩ = (enc (zOf Z j))[k]? := fun k hk => by
      rw [h.1.cellAt (j * 3 + k) (by omega), cellsOf_at Z j k hj' hk]
    have c0 := c 0 (by omega)
    have c1 := c 1 (by omega)
    have c2 := c 2 (by omega)
    rw [ez] at c0 c1 c2
    rw [zOf_map hj', Go.WideShapes.add_plain, Nat.zero_add]
    obtain ⟨ka, kc, e, hkk⟩ := key_lies hk
    refine ⟨c0, c1, ka, kc, ?_, hkk⟩
    rw [← e]
    exact c2

theorem Ents.liesN {B n : Nat} {v : Value} {Z : List ((ByteArray × Int × List ByteArray) × Value)} {W0 w : World} (h : Ents B v Z W0 w) (hn : n = Z.length) : ∃ a cap, v = .slice a n cap ∧ n ≤ cap ∧ LiesE w a (Z.map (·.1)) := by
  subst hn; exact h.lies

set_option maxHeartbeats 4000000 in
set_option maxRecDepth 100000 in
theorem sameE_any (p p' : ByteArray) (sz sz' : Int) (ka ka' : Option Addr) (kn kn' kc kc' : Nat) (ks ks' : List ByteArray) (w : World) (hkn : kn = ks.length) (hk : Lies w ka ks) (hkn' : kn' = ks'.length) (hk' : Lies w ka' ks') (hm : kn ≤ 1000000) (hm' : kn' ≤ 1000000) :
    Calls Try.prog 49 #[.agg #[.string p, .int .i64 sz, .slice ka kn kc], .agg #[.string p', .int .i64 sz', .slice ka' kn' kc']] w fun e w' => e = .returned (.bool (decide (p = p' ∧ sz = sz' ∧ ks = ks'))) ∧ Below w.heap.size w w' := by
  have hs : Hid (∀ W, Below w.heap.size w W → Calls Try.prog 67 #[.slice ka kn kc, .slice ka' kn' kc'] W fun e w' => e = .returned (.bool (decide (ks = ks'))) ∧ Below W.heap.size W w') := fun W hb => Order.sameL_any ka ks kn kc ka' ks' kn' kc' W hkn (hk.below hb (Nat.le_refl _)) hkn' (hk'.below hb (Nat.le_refl _)) (by omega) (by omega)
  clear hkn hk hkn' hk'
  by_cases hp : p = p'
  · subst hp
    by_cases hz : sz = sz'
    · subst hz
      have e : decide (p = p ∧ sz = sz ∧ ks = ks') = decide (ks = ks') := decide_eq_decide.2 ⟨fun h => h.2.2, fun h => ⟨rfl, rfl, h⟩⟩
      rw [e]
      generalize decide (ks = ks') = r at hs
      clear e
      go_enter Try.func49, Try.ntmps49
      go_wp2_with (go_at_call 67; refine (hs.out _ (((Below.refl _ _).alloc (Nat.le_refl _) _).alloc (by simp) _)).mono ?_; rintro e w1 ⟨rfl, hb1⟩)
      all_goals
        go_ret
        exact ⟨by simp_all, (((Below.refl w.heap.size w).alloc (Nat.le_refl _) _).alloc (by simp) _).trans (hb1.mono (by simp; omega))⟩
    · have e : decide (p = p ∧ sz = sz' ∧ ks = ks') = false := decide_eq_false (fun h => hz h.2.1)
      rw [e]
      have hd : (sz == sz') = false := by simp [hz]
      clear e hz
      go_enter Try.func49, Try.ntmps49
      go_wp2
      go_ret
      exact ⟨rfl, ((Below.refl w.heap.size w).alloc (Nat.le_refl _) _).alloc (by simp) _⟩
  · have e : decide (p = p' ∧ sz = sz' ∧ ks = ks') = false := decide_eq_false (fun h => hp h.1)
    rw [e]
    have hd := ne_text hp
    clear e hp
    go_enter Try.func49, Try.ntmps49
    go_wp2
    go_ret
    exact ⟨rfl, ((Below.refl w.heap.size w).alloc (Nat.le_refl _) _).alloc (by simp) _⟩

set_option maxHeartbeats 4000000 in
set_option maxRecDepth 100000 in
theorem sameAll_yes (a a' : Option Addr) (n cap cap' : Nat) (l : List (ByteArray × Int × List ByteArray)) (w : World) (hn0 : n = l.length) (hl : LiesE w a l) (hl' : LiesE w a' l) (hnm : n ≤ 1000) (hks : ∀ j, j < n → (entOf l j).2.2.length ≤ 1000000) :
    Calls Try.prog 32 #[.slice a n cap, .slice a' n cap'] w fun e w' => e = .returned (.bool true) ∧ Below w.heap.size w w' := by
  have HN : Hid (n = l.length) := hn0
  have HL : Hid (LiesE w a l) := hl
  have HL' : Hid (LiesE w a' l) := hl'
  have HS : Hid (∀ j, j < n → ∀ (ka ka' : Option Addr) (kc kc' : Nat) W, Lies W ka (entOf l j).2.2 → Lies W ka' (entOf l j).2.2 → Calls Try.prog 49 #[.agg #[.string (entOf l j).1, .int .i64 (entOf l j).2.1, .slice ka (entOf l j).2.2.length kc], .agg #[.string (entOf l j).1, .int .i64 (entOf l j).2.1, .slice ka' (entOf l j).2.2.length kc']] W fun e w' => e = .returned (.bool true) ∧ Below W.heap.size W w') := by
    intro j hj ka ka' kc kc' W h1 h2
    have := sameE_any (entOf l j).1 (entOf l j).1 (entOf l j).2.1 (entOf l j).2.1 ka ka' _ _ kc kc' _ _ W rfl h1 rfl h2 (hks j hj) (hks j hj)
    rw [decide_eq_true ⟨rfl, rfl, rfl⟩] at this
    exact this
  clear hn0 hl hl' hks
  go_enter Try.func32, Try.ntmps32
  go_wp2
  go_loopw [4, 5] (fun t4 t5 wr => ∃ i : Nat, t4 = .bool false ∧ t5 = .int .i64 (i : Int) ∧ i ≤ n ∧ Below w.heap.size w wr) (fun _ t5 _ => n - (intOf t5).toNat)
  case atStart => exact ⟨0, rfl, rfl, Nat.zero_le _, Below.refl _ _⟩
  case round =>
    obtain ⟨i, rfl, rfl, hi, hbr⟩ := hrel
    by_cases hin : i < n
    · obtain ⟨x, hx, g0, g1, ka, kc, g2, hk⟩ := (HL.out.below hbr (Nat.le_refl _)).at (j := i) (by rw [← HN.out]; exact hin)
      obtain ⟨x', hx', g0', g1', ka', kc', g2', hk'⟩ := (HL'.out.below hbr (Nat.le_refl _)).at (j := i) (by rw [← HN.out]; exact hin)
      subst hx
      subst hx'
      have hsm := HS.out i hin ka ka' kc kc'
      generalize entOf l i = en at g0 g1 g2 hk g0' g1' g2' hk' hsm
      obtain ⟨p, sz, ks⟩ := en
      have hix := index_ent x n cap i hin
      have hix' := index_ent x' n cap' i hin
      simp only at g0 g1 g2 hk g0' g1' g2' hk' hsm
      generalize ks.length = kn at g2 g2' hsm
      generalize x.add (i * 3) = q at g0 g1 g2 hix
      generalize x'.add (i * 3) = q' at g0' g1' g2' hix'
      have HR : Hid (∀ W, (Below wr.heap.size wr W ∧ (W.cell? q = some (.string p) ∧ W.cell? ⟨q.block, q.off + 1, none⟩ = some (.int .i64 sz) ∧ W.cell? ⟨q.block, q.off + 2, none⟩ = some (.slice ka kn kc)) ∧ W.cell? q' = some (.string p) ∧ W.cell? ⟨q'.block, q'.off + 1, none⟩ = some (.int .i64 sz) ∧ W.cell? ⟨q'.block, q'.off + 2, none⟩ = some (.slice ka' kn kc')) →
          Calls Try.prog 49 #[.agg #[.string p, .int .i64 sz, .slice ka kn kc], .agg #[.string p, .int .i64 sz, .slice ka' kn kc']] W fun e w' => e = .returned (.bool true) ∧ (Below wr.heap.size wr w' ∧ (w'.cell? q = some (.string p) ∧ w'.cell? ⟨q.block, q.off + 1, none⟩ = some (.int .i64 sz) ∧ w'.cell? ⟨q.block, q.off + 2, none⟩ = some (.slice ka kn kc)) ∧ w'.cell? q' = some (.string p) ∧ w'.cell? ⟨q'.block, q'.off + 1, none⟩ = some (.int .i64 sz) ∧ w'.cell? ⟨q'.block, q'.off + 2, none⟩ = some (.slice ka' kn kc'))) := by
        rintro W ⟨b0, ⟨d0, d1, d2⟩, e0, e1, e2⟩
        refine (hsm W (hk.1.below b0 (Nat.le_refl _)) (hk'.1.below b0 (Nat.le_refl _))).mono ?_
        rintro e w' ⟨rfl, hb⟩
        exact ⟨rfl, b0.trans (hb.mono b0.size), ⟨cell_kept hb d0, cell_kept hb d1, cell_kept hb d2⟩, cell_kept hb e0, cell_kept hb e1, cell_kept hb e2⟩
      have HBR : Hid (Below w.heap.size w wr) := hbr
      clear hsm hk hk' hbr
      go_wp2_with fail
      go_region_held (fun W => (Below wr.heap.size wr W ∧ (W.cell? q = some (.string p) ∧ W.cell? ⟨q.block, q.off + 1, none⟩ = some (.int .i64 sz) ∧ W.cell? ⟨q.block, q.off + 2, none⟩ = some (.slice ka kn kc)) ∧ W.cell? q' = some (.string p) ∧ W.cell? ⟨q'.block, q'.off + 1, none⟩ = some (.int .i64 sz) ∧ W.cell? ⟨q'.block, q'.off + 2, none⟩ = some (.slice ka' kn kc')))
        (first | assumption | exact ⟨(Below.refl _ _).drew, ⟨by simpa using g0, by simpa using g1, by simpa using g2⟩, by simpa using g0', by simpa using g1', by simpa using g2'⟩)
        (first | (go_at_call 49; refine (HR.out _ (by assumption)).mono ?_; rintro e w2 ⟨rfl, hb2⟩))
      all_goals
        have HB2 : Hid (Below w.heap.size w w2) := HBR.out.trans (hb2.1.mono HBR.out.size)
        clear hb2 HR
        go_wp2
        go_roundw
        case rel => exact ⟨i + 1, rfl, by go_num, by omega, HB2.out⟩
        case measure => simp [intOf]; omega
    · go_wp2
      go_ret
      exact ⟨rfl, hbr⟩

end Go.Proofs.Ytlpgdfdadkljfaa.Tree
