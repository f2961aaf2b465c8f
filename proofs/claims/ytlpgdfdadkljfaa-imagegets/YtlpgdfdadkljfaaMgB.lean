/-
  Contracts that the walks stand on, several texts in one: RtStrs, RtLeaf, RtWidth, RtPart, RtList, RtSplit, RtCut.
-/
import Derived.Test.YtlpgdfdadkljfaaRows
import Derived.WalkKit
import Derived.WalkSpells
import Derived.WalkSmall
import Derived.WalkLawsBesides
import Derived.Laws.OwnMore
import Derived.Laws.AppendOwnNone
import Derived.Laws.IdiomStrings
import Derived.Test.YtlpgdfdadkljfaaMgA
import Derived.BigCall
import Derived.BigQuiet

/-
  A row of texts that a call owns ('Strs'), what it reads as, and the laws that hand it on: an append of one text, of a row of texts; a store of what stands there.
-/
namespace Go.Proofs.Ytlpgdfdadkljfaa.Route
open Go.RowKit

/-- Texts as a row's cells. -/
def sv (l : List ByteArray) : List Value := l.map Value.string
theorem sv_len (l : List ByteArray) : (sv l).length = l.length := by simp [sv]
theorem sv_app (l r : List ByteArray) : sv (l ++ r) = sv l ++ sv r := by simp [sv]
theorem sv_one (l : List ByteArray) : ∀ u ∈ sv l, u.oneCell' = true := by
  intro u hu
  simp only [sv, List.mem_map] at hu
  obtain ⟨b, _, rfl⟩ := hu
  rfl
theorem sv_at (l : List ByteArray) (j : Nat) (h : j < l.length) : (sv l)[j]? = some (.string (l.getD j ByteArray.empty)) := by
  simp [sv, List.getElem?_eq_getElem h, List.getD_eq_getElem?_getD]

/-- In w the slice v owns the texts l, in a block from B on; below B the world is as W0 was. -/
def Strs (B : Nat) (v : Value) (l : List ByteArray) (W0 w : World) : Prop :=
  w.ownsRow B 9 1 v l.length (sv l) ∧ Below B W0 w ∧ B ≤ w.heap.size

/-- At the address (none where there is no text) the texts l lie. -/
def Lies (w : World) (a : Option Addr) (l : List ByteArray) : Prop :=
  l = [] ∨ ∃ x, a = some x ∧ ∀ j, j < l.length → w.cell? (x.add j) = some (.string (l.getD j ByteArray.empty))

theorem Lies.below {B : Nat} {w w' : World} {a : Option Addr} {l : List ByteArray} (h : Lies w a l) (hb : Below B w w') (hB : w.heap.size ≤ B) : Lies w' a l := by
  rcases h with h | ⟨x, rfl, h⟩
  · exact Or.inl h
  · refine Or.inr ⟨x, rfl, fun j hj => ?_⟩
    have hc := h j hj
    have hlt := World.block_lt_of_cell? w _ hc
    rw [hb.cell (by omega)]
    exact hc

theorem Lies.cellAt {w : World} {a : Option Addr} {l : List ByteArray} (h : Lies w a l) {j : Nat} (hj : j < l.length) : ∃ x, a = some x ∧ w.cell? (x.add j) = some (.string (l.getD j ByteArray.empty)) := by
  rcases h with rfl | ⟨x, rfl, h⟩
  · simp at hj
  · exact ⟨x, rfl, h j hj⟩

theorem Strs.grown {B : Nat} {v v' : Value} {l l' : List ByteArray} {W0 w w' : World} (h : Strs B v l W0 w) (ho : w'.ownsRow B 9 1 v' l'.length (sv l')) (hg : w.grownBy w' v.ownBlock) : Strs B v' l' W0 w' :=
  ⟨ho, h.2.1.grown hg h.2.2 (fun k hk => (h.1.lt k hk).1), Nat.le_trans h.2.2 hg.size⟩

theorem Strs.alloc {B : Nat} {v : Value} {l : List ByteArray} {W0 w : World} (h : Strs B v l W0 w) (o : Obj) : Strs B v l W0 (w.alloc o) :=
  ⟨h.1.alloc o, h.2.1.alloc h.2.2 o, Nat.le_trans h.2.2 ((Below.refl 0 w).alloc (Nat.zero_le _) o).size⟩

theorem own_mono {w : World} {B B' : Nat} {v : Value} {n : Nat} {xs : List Value} (h : w.ownsRow B 9 1 v n xs) (hb : B' ≤ B) : w.ownsRow B' 9 1 v n xs :=
  ⟨h.1, h.2.imp id fun ⟨g, cap, cur, h1, h2, h3⟩ => ⟨g, cap, cur, h1, Nat.le_trans hb h2, h3⟩⟩

/-- An owned row stays where nothing below the world's end has turned. -/
theorem own_later {w w' : World} {B : Nat} {v : Value} {n : Nat} {xs : List Value} (h : w.ownsRow B 9 1 v n xs) (hb : Below w.heap.size w w') : w'.ownsRow B 9 1 v n xs :=
  ⟨h.1, h.2.imp id fun ⟨g, cap, cur, h1, h2, h3, h4⟩ => ⟨g, cap, cur, h1, h2, (hb.block g (Array.getElem?_eq_some_iff.1 h3).1).trans h3, h4⟩⟩

theorem Strs.later {B : Nat} {v : Value} {l : List ByteArray} {W0 w w' : World} (h : Strs B v l W0 w) (hb : Below w.heap.size w w') : Strs B v l W0 w' :=
  ⟨own_later h.1 hb, h.2.1.trans (hb.mono h.2.2), Nat.le_trans h.2.2 hb.size⟩

/-- What is owned: the slice's own words. -/
theorem Strs.form {B : Nat} {v : Value} {l : List ByteArray} {W0 w : World} (h : Strs B v l W0 w) :
    (v = .slice none 0 0 ∧ l = []) ∨ ∃ g cap, v = .slice (some ⟨g, 0, none⟩) l.length cap ∧ l.length ≤ cap ∧ cap ≤ maxLen ∧ B ≤ g ∧ g < w.heap.size ∧ ∀ j, j < l.length → w.cell? ⟨g, j, none⟩ = some (.string (l.getD j ByteArray.empty)) := by
  obtain ⟨ho, _, _⟩ := h
  rcases ho.2 with ⟨rfl, hn⟩ | ⟨g, cap, cur, rfl, hb, hg, hnc, hcm, hcs, ht⟩
  · exact .inl ⟨rfl, List.eq_nil_of_length_eq_zero hn⟩
  · refine .inr ⟨g, cap, rfl, hnc, hcm, hb, (Array.getElem?_eq_some_iff.1 hg).1, fun j hj => ?_⟩
    rw [ho.cellAt j (by omega), sv_at l j hj]

theorem Strs.lies {B : Nat} {v : Value} {l : List ByteArray} {W0 w : World} (h : Strs B v l W0 w) :
    ∃ a cap, v = .slice a l.length cap ∧ l.length ≤ cap ∧ cap ≤ maxLen ∧ Lies w a l := by
  rcases h.form with ⟨rfl, rfl⟩ | ⟨g, cap, rfl, h1, h2, _, _, h3⟩
  · exact ⟨none, 0, rfl, Nat.le_refl _, Nat.zero_le _, Or.inl rfl⟩
  · refine ⟨_, cap, rfl, h1, h2, Or.inr ⟨_, rfl, fun j hj => ?_⟩⟩
    have := h3 j hj
    by_cases h0 : j = 0
    · subst h0; simpa [Addr.add] using this
    · simpa [Addr.add, h0] using this

theorem Strs.liesN {B n : Nat} {v : Value} {l : List ByteArray} {W0 w : World} (h : Strs B v l W0 w) (hn : n = l.length) :
    ∃ a cap, v = .slice a n cap ∧ n ≤ cap ∧ cap ≤ maxLen ∧ Lies w a l := by
  subst hn; exact h.lies

theorem Strs.formN {B n : Nat} {v : Value} {l : List ByteArray} {W0 w : World} (h : Strs B v l W0 w) (hn : n = l.length) (h0 : 0 < n) :
    ∃ g cap, v = .slice (some ⟨g, 0, none⟩) n cap ∧ n ≤ cap ∧ cap ≤ maxLen ∧ B ≤ g ∧ g < w.heap.size ∧ ∀ j, j < l.length → w.cell? ⟨g, j, none⟩ = some (.string (l.getD j ByteArray.empty)) := by
  rcases h.form with ⟨_, rfl⟩ | ⟨g, cap, e, h1⟩
  · simp at hn; omega
  · subst hn; exact ⟨g, cap, e, h1⟩

theorem Strs.nil (w : World) : Strs w.heap.size (.slice none 0 0) [] w w := ⟨World.ownsRow_nil w _ 9 1, Below.refl _ _, Nat.le_refl _⟩

theorem info9 : (Try.prog.info? 9).map (fun i => (i.zero, i.size, i.bytes)) = some (some (.string ByteArray.empty), 1, 16) := by kernel_rfl

/-- 'append(out, s)': the one text lies in the block that the statement has just laid. -/
theorem wpList_str {ops : Array Oper} {rest : List Oper} {o : Oper} {a : Act} {Q : Exit → Act → World → Prop} (hgd : o.guard = none) (s x : Operand)
    (ho : o.op = .call { callee := .builtin .append, args := #[s, x], argTypes := #[33, 33] })
    (B : Nat) (v : Value) (l : List ByteArray) (hs : a.eval s = v) (W0 w0 : World) (d : ByteArray) (hb : Strs B v l W0 w0)
    (hx : a.eval x = .slice (some ⟨w0.heap.size, 0, none⟩) 1 1) (hlen : l.length + 1 ≤ 1000000000000)
    (h : ∀ v' w', Strs B v' (l ++ [d]) W0 w' → wpList Try.prog ops Q rest (a.put o.dst v') w') : wpList Try.prog ops Q (o :: rest) a (w0.alloc (.cells #[.string d] 9)) := by
  obtain ⟨i0, hi, hz0, hz1, hz2⟩ := info_parts info9
  have hb' := hb.alloc (.cells #[.string d] 9)
  refine wpList_append_own _ hgd s x 33 ho B 9 i0 (.string ByteArray.empty) 1 16 Try.underlying33 hi hz0 hz1 hz2 rfl (by decide) v l.length (sv l) hs hb'.1 ⟨w0.heap.size, 0, none⟩ 1 1 [.string d] hx rfl ?_ ?_ (by unfold maxLen; omega) (by omega) hb'.2.2 ?_
  · intro j u hj
    match j, hj with
    | 0, hj => simp at hj; subst hj; simp [Addr.add]
    | (j + 1), hj => simp at hj
  · intro u hu; simp at hu; subst hu; rfl
  · intro v' w' ho' hg _
    refine h v' w' (hb'.grown (l' := l ++ [d]) ?_ hg)
    have e : sv (l ++ [d]) = sv l ++ [.string d] := by simp [sv]
    rw [e]
    simpa using ho'

/-- 'append(out, l...)', l texts that lie somewhere, or nil. -/
theorem wpList_strs {ops : Array Oper} {rest : List Oper} {o : Oper} {a : Act} {Q : Exit → Act → World → Prop} {w : World} (hgd : o.guard = none) (sl x : Operand)
    (ho : o.op = .call { callee := .builtin .append, args := #[sl, x], argTypes := #[33, 33] })
    (B : Nat) (v : Value) (l : List ByteArray) (hs : a.eval sl = v) (W0 : World) (hb : Strs B v l W0 w) (r : List ByteArray) (ad : Option Addr) (k c : Nat) (hx : a.eval x = .slice ad k c) (hk : k = r.length) (hr : Lies w ad r) (hnil : ad = none → c = 0) (hkc : k ≤ c) (hlen : l.length + k ≤ 1000000000000)
    (h : ∀ v' w', Strs B v' (l ++ r) W0 w' → wpList Try.prog ops Q rest (a.put o.dst v') w') : wpList Try.prog ops Q (o :: rest) a w := by
  subst hk
  cases ad with
  | none =>
    obtain ⟨i0, hi, _, _, _⟩ := info_parts info9
    have hc : c = 0 := hnil rfl
    have hr0 : r = [] := List.eq_nil_of_length_eq_zero (by omega)
    subst hr0; subst hc
    refine wpList_append_own_none hgd sl x 33 ho B 9 i0 1 Try.underlying33 hi v l.length (sv l) hs hb.1 hx ?_
    exact h v w (by rw [List.append_nil]; exact hb)
  | some ad =>
    obtain ⟨i0, hi, hz0, hz1, hz2⟩ := info_parts info9
    refine wpList_append_own w hgd sl x 33 ho B 9 i0 (.string ByteArray.empty) 1 16 Try.underlying33 hi hz0 hz1 hz2 rfl (by decide) v l.length (sv l) hs hb.1 ad r.length c (sv r) hx (by simp [sv]) ?_ (sv_one r) (by unfold maxLen; omega) (by omega) hb.2.2 ?_
    · intro j u hj
      have hjl : j < r.length := by
        have := (List.getElem?_eq_some_iff.1 hj).1
        rwa [sv_len] at this
      obtain ⟨y, hy, hc⟩ := hr.cellAt hjl
      simp only [Option.some.injEq] at hy
      subst hy
      rw [hc, ← sv_at r j hjl, hj]
    · intro v' w' ho' hg _
      refine h v' w' (hb.grown (l' := l ++ r) ?_ hg)
      rw [sv_app, List.length_append]
      exact ho'

/-- A text's equality. -/
theorem str_eq (a b : ByteArray) : (a.toList == b.toList) = decide (a = b) := by
  by_cases h : a = b
  · subst h; simp
  · have h2 : ¬ a.toList = b.toList := fun e => h (by
      rw [ByteArray.toList_eq, ByteArray.toList_eq] at e
      apply ByteArray.ext
      exact Array.ext' e)
    simp [h, h2]
end Go.Proofs.Ytlpgdfdadkljfaa.Route

/-
  Which characters may be in a part: the program's test and the document's, each as it is.
-/
namespace Go.Proofs.Ytlpgdfdadkljfaa.Route
open Go.RowKit

theorem ret_bool {a b : Bool} (h : a = true ↔ b = true) : Ending.returned (Value.bool a) = .returned (.bool b) := by
  rw [Bool.eq_iff_iff.2 h]

theorem okc_iff (c : Nat) : okc c = true ↔ ((97 ≤ c ∧ c ≤ 122) ∨ (48 ≤ c ∧ c ≤ 57) ∨ c = 95 ∨ c = 45 ∨ c = 46 ∨ (128 ≤ c ∧ c ≠ 65533)) := by
  simp only [okc, Bool.or_eq_true, Bool.and_eq_true, decide_eq_true_eq, beq_iff_eq, bne_iff_ne, ne_eq, or_assoc]

set_option maxHeartbeats 4000000 in
set_option maxRecDepth 100000 in
theorem isOfPart_any (c : Nat) (w : World) : Calls Try.prog 83 #[.int .i32 (c : Int)] w fun e w' => e = .returned (.bool (okc c)) ∧ w = w' := by
  go_enter Try.func83, Try.ntmps83
  go_wp2
  all_goals
    go_ret
    refine ⟨ret_bool ?_, rfl⟩
    rw [okc_iff]
    first | (simp; omega) | (simp at *; omega) | (simp_all; done) | (simp_all; omega)

set_option maxHeartbeats 4000000 in
set_option maxRecDepth 100000 in
theorem plain_any (c : Nat) (hc : c < 128) (w : World) : Calls Try.prog 34 #[.int .u8 (c : Int)] w fun e w' => e = .returned (.bool (okc c)) ∧ w = w' := by
  go_enter Try.func34, Try.ntmps34
  go_wp2
  all_goals
    go_ret
    refine ⟨ret_bool ?_, rfl⟩
    rw [okc_iff]
    first | (simp; omega) | (simp at *; omega) | (simp_all; done) | (simp_all; omega)
end Go.Proofs.Ytlpgdfdadkljfaa.Route

/-
  How many bytes the document's own reader finds at a place: 'width', at every place of every text.
-/
namespace Go.Proofs.Ytlpgdfdadkljfaa.Route
open Go.RowKit

/-- 's[i]'. -/
theorem index_at (s : ByteArray) (i : Nat) (j : Int) (hj : j = (i : Int)) (h : i < s.size) (w : World) : (Instr.index 9 (.string s) (.int .i64 j)).run Try.prog w = .ok (.int .u8 (bt s i : Int)) w := by
  subst hj
  have := run_index_string (P := Try.prog) w 9 s .i64 (i : Int) Try.underlying9
  rw [this, dif_pos ⟨by omega, by omega⟩]
  simp [bt_at s i h]

theorem ret_int {a b : Nat} (h : a = b) : Ending.returned (Value.int .i64 (a : Int)) = .returned (.int .i64 (b : Int)) := by rw [h]

set_option maxHeartbeats 4000000 in
set_option maxRecDepth 100000 in
theorem width_plain (s : ByteArray) (i b : Nat) (w : World) (hi : i < s.size) (hb : b = bt s i) (hc : b < 128) :
    Calls Try.prog 33 #[.string s, .int .i64 (i : Int)] w fun e w' => e = .returned (.int .i64 1) ∧ w = w' := by
  have hix := index_at s i i rfl hi
  rw [← hb] at hix
  clear hb
  go_enter Try.func33, Try.ntmps33
  go_wp2
  go_ret
  exact ⟨rfl, rfl⟩

set_option maxHeartbeats 4000000 in
set_option maxRecDepth 100000 in
theorem width_none (s : ByteArray) (i b : Nat) (w : World) (hi : i < s.size) (hb : b = bt s i) (hc : (128 ≤ b ∧ b < 192) ∨ 248 ≤ b) :
    Calls Try.prog 33 #[.string s, .int .i64 (i : Int)] w fun e w' => e = .returned (.int .i64 0) ∧ w = w' := by
  have hix := index_at s i i rfl hi
  rw [← hb] at hix
  clear hb
  rcases hc with hc | hc
  all_goals
    go_enter Try.func33, Try.ntmps33
    go_wp2
    go_ret
    exact ⟨rfl, rfl⟩

set_option maxHeartbeats 4000000 in
set_option maxRecDepth 100000 in
theorem width_lead2 (s : ByteArray) (i b z r : Nat) (w : World) (hb : b = bt s i) (h1 : 192 ≤ b) (h2 : b < 224) (hz : z = s.size) (hs : z ≤ 140737488355328) (hfit : i + 2 ≤ z) (HR : Hid (r = wid s i)) :
    Calls Try.prog 33 #[.string s, .int .i64 (i : Int)] w fun e w' => e = .returned (.int .i64 (r : Int)) ∧ w = w' := by
  have hix := index_at s i i rfl (by omega)
  rw [← hb] at hix
  have HL : Lead (bt s i) 2 128 (b - 192) := by rw [← hb]; unfold Lead; omega
  have hlen : ∀ w, (Builtin.len_ #[9] 3 #[.string s]).run Try.prog w = .ok (.int .i64 (z : Int)) w := fun w => by
    rw [run_len_string w 9 3 s Try.underlying9, hz]; rfl
  have hdone : Hid (∀ V : Nat, Hid (V = val s i (b - 192) 2) → Hid (∀ j, 1 ≤ j → j < 2 → 128 ≤ bt s (i + j) ∧ bt s (i + j) ≤ 191) → r = fin 2 128 V) := fun V hV hcs => by
    have := wid_whole s i 2 128 (b - 192) HL (by omega) hcs
    rw [← HR.out, ← hV.out] at this
    exact this
  have hbad : Hid (∀ j, 1 ≤ j → j < 2 → (bt s (i + j) < 128 ∨ 191 < bt s (i + j)) → r = 0) := fun j h1 h2 h3 => by
    rw [HR.out]
    exact wid_broken s i 2 128 (b - 192) HL j h1 h2 (.inr h3)
  have hixs : Hid (∀ k : Nat, k < 2 → ∀ W : World, (Instr.index 9 (.string s) (.int .i64 ((i : Int) + (k : Int)))).run Try.prog W = .ok (.int .u8 (bt s (i + k) : Int)) W) := fun k hk W => index_at s (i + k) _ (by omega) (by omega) W
  clear hb hz HL HR
  go_enter Try.func33, Try.ntmps33
  go_wp2
  go_loop [4, 8, 9] (fun r4 v k' => r4 = .int .i64 0 ∧ ∃ k V : Nat, 1 ≤ k ∧ k ≤ 2 ∧ v = .int .i64 V ∧ k' = .int .i64 k ∧ Hid (V = val s i (b - 192) k) ∧ Hid (∀ j, 1 ≤ j → j < k → 128 ≤ bt s (i + j) ∧ bt s (i + j) ≤ 191) ∧ Hid ((k = 1 ∧ V < 64) ∨ (k = 2 ∧ V < 4096) ∨ (k = 3 ∧ V < 262144) ∨ (k = 4 ∧ V < 16777216))) (fun _ _ k' => 4 - (intOf k').toNat)
  case atStart => exact ⟨rfl, 1, b - 192, by omega, by omega, by congr 1; omega, rfl, rfl, fun j h1 h2 => absurd h2 (by omega), .inl ⟨rfl, by omega⟩⟩
  case round =>
    obtain ⟨rfl, k, V, hk1, hk, rfl, rfl, HV, HC, hV⟩ := hrel
    have hVs : V < 16777216 := by have := hV.out; omega
    by_cases hkn : k < 2
    · have hixk := hixs.out k hkn
      obtain ⟨d, hd⟩ : ∃ d, d = bt s (i + k) := ⟨_, rfl⟩
      have hd2 : d < 256 := by rw [hd]; exact bt_lt _ _
      have HD : Hid (d = bt s (i + k)) := hd
      rw [← hd] at hixk
      clear hd
      by_cases hcont : 128 ≤ d ∧ d ≤ 191
      · obtain ⟨hc1, hc2⟩ := hcont
        go_wp2
        have hVd : (((V * 64 + d - 128 : Nat)) : Int) = (V : Int) * 64 + (d : Int) - 128 := by omega
        refine ⟨⟨.int .i64 0, .int .i64 ((V : Int) * 64 + (d : Int) - 128), .int .i64 ((k : Int) + 1), ⟨rfl, k + 1, by omega, by omega, V * 64 + d - 128, by rw [hVd], by go_num, ?_, ?_, by have := hV.out; show _ ∨ _; omega⟩, rfl, rfl, rfl⟩, by simp [intOf]; omega⟩
        · obtain ⟨m, rfl⟩ : ∃ m, k = m + 1 := ⟨k - 1, by omega⟩
          show V * 64 + d - 128 = val s i (b - 192) (m + 1) * 64 + bt s (i + (m + 1)) - 128
          rw [← HV.out, ← HD.out]
        · intro j hj1 hj2
          by_cases hjk : j = k
          · subst hjk; rw [← HD.out]; exact ⟨hc1, hc2⟩
          · exact HC.out j hj1 (by omega)
      · have hr0 : r = 0 := hbad.out k hk1 hkn (by rw [← HD.out]; omega)
        subst hr0
        by_cases hlo : d < 128
        · go_wp2
          go_ret
          exact ⟨rfl, rfl⟩
        · have hhi : 191 < d := by omega
          go_wp2
          go_ret
          exact ⟨rfl, rfl⟩
    · obtain rfl : k = 2 := by omega
      have HRR : Hid (r = fin 2 128 V) := hdone.out V HV HC
      go_wp2
      all_goals
        go_ret
        refine ⟨?_, rfl⟩
        first
        | (refine ret_int (a := 2) (b := r) ?_; rw [HRR.out]; unfold fin; rw [if_neg (by simp at *; omega)])
        | (refine ret_int (a := 0) (b := r) ?_; rw [HRR.out]; unfold fin; rw [if_pos (by simp at *; omega)])

set_option maxHeartbeats 4000000 in
set_option maxRecDepth 100000 in
theorem width_lead3 (s : ByteArray) (i b z r : Nat) (w : World) (hb : b = bt s i) (h1 : 224 ≤ b) (h2 : b < 240) (hz : z = s.size) (hs : z ≤ 140737488355328) (hfit : i + 3 ≤ z) (HR : Hid (r = wid s i)) :
    Calls Try.prog 33 #[.string s, .int .i64 (i : Int)] w fun e w' => e = .returned (.int .i64 (r : Int)) ∧ w = w' := by
  have hix := index_at s i i rfl (by omega)
  rw [← hb] at hix
  have HL : Lead (bt s i) 3 2048 (b - 224) := by rw [← hb]; unfold Lead; omega
  have hlen : ∀ w, (Builtin.len_ #[9] 3 #[.string s]).run Try.prog w = .ok (.int .i64 (z : Int)) w := fun w => by
    rw [run_len_string w 9 3 s Try.underlying9, hz]; rfl
  have hdone : Hid (∀ V : Nat, Hid (V = val s i (b - 224) 3) → Hid (∀ j, 1 ≤ j → j < 3 → 128 ≤ bt s (i + j) ∧ bt s (i + j) ≤ 191) → r = fin 3 2048 V) := fun V hV hcs => by
    have := wid_whole s i 3 2048 (b - 224) HL (by omega) hcs
    rw [← HR.out, ← hV.out] at this
    exact this
  have hbad : Hid (∀ j, 1 ≤ j → j < 3 → (bt s (i + j) < 128 ∨ 191 < bt s (i + j)) → r = 0) := fun j h1 h2 h3 => by
    rw [HR.out]
    exact wid_broken s i 3 2048 (b - 224) HL j h1 h2 (.inr h3)
  have hixs : Hid (∀ k : Nat, k < 3 → ∀ W : World, (Instr.index 9 (.string s) (.int .i64 ((i : Int) + (k : Int)))).run Try.prog W = .ok (.int .u8 (bt s (i + k) : Int)) W) := fun k hk W => index_at s (i + k) _ (by omega) (by omega) W
  clear hb hz HL HR
  go_enter Try.func33, Try.ntmps33
  go_wp2
  go_loop [4, 8, 9] (fun r4 v k' => r4 = .int .i64 0 ∧ ∃ k V : Nat, 1 ≤ k ∧ k ≤ 3 ∧ v = .int .i64 V ∧ k' = .int .i64 k ∧ Hid (V = val s i (b - 224) k) ∧ Hid (∀ j, 1 ≤ j → j < k → 128 ≤ bt s (i + j) ∧ bt s (i + j) ≤ 191) ∧ Hid ((k = 1 ∧ V < 64) ∨ (k = 2 ∧ V < 4096) ∨ (k = 3 ∧ V < 262144) ∨ (k = 4 ∧ V < 16777216))) (fun _ _ k' => 4 - (intOf k').toNat)
  case atStart => exact ⟨rfl, 1, b - 224, by omega, by omega, by congr 1; omega, rfl, rfl, fun j h1 h2 => absurd h2 (by omega), .inl ⟨rfl, by omega⟩⟩
  case round =>
    obtain ⟨rfl, k, V, hk1, hk, rfl, rfl, HV, HC, hV⟩ := hrel
    have hVs : V < 16777216 := by have := hV.out; omega
    by_cases hkn : k < 3
    · have hixk := hixs.out k hkn
      obtain ⟨d, hd⟩ : ∃ d, d = bt s (i + k) := ⟨_, rfl⟩
      have hd2 : d < 256 := by rw [hd]; exact bt_lt _ _
      have HD : Hid (d = bt s (i + k)) := hd
      rw [← hd] at hixk
      clear hd
      by_cases hcont : 128 ≤ d ∧ d ≤ 191
      · obtain ⟨hc1, hc2⟩ := hcont
        go_wp2
        have hVd : (((V * 64 + d - 128 : Nat)) : Int) = (V : Int) * 64 + (d : Int) - 128 := by omega
        refine ⟨⟨.int .i64 0, .int .i64 ((V : Int) * 64 + (d : Int) - 128), .int .i64 ((k : Int) + 1), ⟨rfl, k + 1, by omega, by omega, V * 64 + d - 128, by rw [hVd], by go_num, ?_, ?_, by have := hV.out; show _ ∨ _; omega⟩, rfl, rfl, rfl⟩, by simp [intOf]; omega⟩
        · obtain ⟨m, rfl⟩ : ∃ m, k = m + 1 := ⟨k - 1, by omega⟩
          show V * 64 + d - 128 = val s i (b - 224) (m + 1) * 64 + bt s (i + (m + 1)) - 128
          rw [← HV.out, ← HD.out]
        · intro j hj1 hj2
          by_cases hjk : j = k
          · subst hjk; rw [← HD.out]; exact ⟨hc1, hc2⟩
          · exact HC.out j hj1 (by omega)
      · have hr0 : r = 0 := hbad.out k hk1 hkn (by rw [← HD.out]; omega)
        subst hr0
        by_cases hlo : d < 128
        · go_wp2
          go_ret
          exact ⟨rfl, rfl⟩
        · have hhi : 191 < d := by omega
          go_wp2
          go_ret
          exact ⟨rfl, rfl⟩
    · obtain rfl : k = 3 := by omega
      have HRR : Hid (r = fin 3 2048 V) := hdone.out V HV HC
      go_wp2
      all_goals
        go_ret
        refine ⟨?_, rfl⟩
        first
        | (refine ret_int (a := 3) (b := r) ?_; rw [HRR.out]; unfold fin; rw [if_neg (by simp at *; omega)])
        | (refine ret_int (a := 0) (b := r) ?_; rw [HRR.out]; unfold fin; rw [if_pos (by simp at *; omega)])

set_option maxHeartbeats 4000000 in
set_option maxRecDepth 100000 in
theorem width_lead4 (s : ByteArray) (i b z r : Nat) (w : World) (hb : b = bt s i) (h1 : 240 ≤ b) (h2 : b < 248) (hz : z = s.size) (hs : z ≤ 140737488355328) (hfit : i + 4 ≤ z) (HR : Hid (r = wid s i)) :
    Calls Try.prog 33 #[.string s, .int .i64 (i : Int)] w fun e w' => e = .returned (.int .i64 (r : Int)) ∧ w = w' := by
  have hix := index_at s i i rfl (by omega)
  rw [← hb] at hix
  have HL : Lead (bt s i) 4 65536 (b - 240) := by rw [← hb]; unfold Lead; omega
  have hlen : ∀ w, (Builtin.len_ #[9] 3 #[.string s]).run Try.prog w = .ok (.int .i64 (z : Int)) w := fun w => by
    rw [run_len_string w 9 3 s Try.underlying9, hz]; rfl
  have hdone : Hid (∀ V : Nat, Hid (V = val s i (b - 240) 4) → Hid (∀ j, 1 ≤ j → j < 4 → 128 ≤ bt s (i + j) ∧ bt s (i + j) ≤ 191) → r = fin 4 65536 V) := fun V hV hcs => by
    have := wid_whole s i 4 65536 (b - 240) HL (by omega) hcs
    rw [← HR.out, ← hV.out] at this
    exact this
  have hbad : Hid (∀ j, 1 ≤ j → j < 4 → (bt s (i + j) < 128 ∨ 191 < bt s (i + j)) → r = 0) := fun j h1 h2 h3 => by
    rw [HR.out]
    exact wid_broken s i 4 65536 (b - 240) HL j h1 h2 (.inr h3)
  have hixs : Hid (∀ k : Nat, k < 4 → ∀ W : World, (Instr.index 9 (.string s) (.int .i64 ((i : Int) + (k : Int)))).run Try.prog W = .ok (.int .u8 (bt s (i + k) : Int)) W) := fun k hk W => index_at s (i + k) _ (by omega) (by omega) W
  clear hb hz HL HR
  go_enter Try.func33, Try.ntmps33
  go_wp2
  go_loop [4, 8, 9] (fun r4 v k' => r4 = .int .i64 0 ∧ ∃ k V : Nat, 1 ≤ k ∧ k ≤ 4 ∧ v = .int .i64 V ∧ k' = .int .i64 k ∧ Hid (V = val s i (b - 240) k) ∧ Hid (∀ j, 1 ≤ j → j < k → 128 ≤ bt s (i + j) ∧ bt s (i + j) ≤ 191) ∧ Hid ((k = 1 ∧ V < 64) ∨ (k = 2 ∧ V < 4096) ∨ (k = 3 ∧ V < 262144) ∨ (k = 4 ∧ V < 16777216))) (fun _ _ k' => 4 - (intOf k').toNat)
  case atStart => exact ⟨rfl, 1, b - 240, by omega, by omega, by congr 1; omega, rfl, rfl, fun j h1 h2 => absurd h2 (by omega), .inl ⟨rfl, by omega⟩⟩
  case round =>
    obtain ⟨rfl, k, V, hk1, hk, rfl, rfl, HV, HC, hV⟩ := hrel
    have hVs : V < 16777216 := by have := hV.out; omega
    by_cases hkn : k < 4
    · have hixk := hixs.out k hkn
      obtain ⟨d, hd⟩ : ∃ d, d = bt s (i + k) := ⟨_, rfl⟩
      have hd2 : d < 256 := by rw [hd]; exact bt_lt _ _
      have HD : Hid (d = bt s (i + k)) := hd
      rw [← hd] at hixk
      clear hd
      by_cases hcont : 128 ≤ d ∧ d ≤ 191
      · obtain ⟨hc1, hc2⟩ := hcont
        go_wp2
        have hVd : (((V * 64 + d - 128 : Nat)) : Int) = (V : Int) * 64 + (d : Int) - 128 := by omega
        refine ⟨⟨.int .i64 0, .int .i64 ((V : Int) * 64 + (d : Int) - 128), .int .i64 ((k : Int) + 1), ⟨rfl, k + 1, by omega, by omega, V * 64 + d - 128, by rw [hVd], by go_num, ?_, ?_, by have := hV.out; show _ ∨ _; omega⟩, rfl, rfl, rfl⟩, by simp [intOf]; omega⟩
        · obtain ⟨m, rfl⟩ : ∃ m, k = m + 1 := ⟨k - 1, by omega⟩
          show V * 64 + d - 128 = val s i (b - 240) (m + 1) * 64 + bt s (i + (m + 1)) - 128
          rw [← HV.out, ← HD.out]
        · intro j hj1 hj2
          by_cases hjk : j = k
          · subst hjk; rw [← HD.out]; exact ⟨hc1, hc2⟩
          · exact HC.out j hj1 (by omega)
      · have hr0 : r = 0 := hbad.out k hk1 hkn (by rw [← HD.out]; omega)
        subst hr0
        by_cases hlo : d < 128
        · go_wp2
          go_ret
          exact ⟨rfl, rfl⟩
        · have hhi : 191 < d := by omega
          go_wp2
          go_ret
          exact ⟨rfl, rfl⟩
    · obtain rfl : k = 4 := by omega
      have HRR : Hid (r = fin 4 65536 V) := hdone.out V HV HC
      go_wp2
      all_goals
        go_ret
        refine ⟨?_, rfl⟩
        first
        | (refine ret_int (a := 4) (b := r) ?_; rw [HRR.out]; unfold fin; rw [if_neg (by simp at *; omega)])
        | (refine ret_int (a := 0) (b := r) ?_; rw [HRR.out]; unfold fin; rw [if_pos (by simp at *; omega)])

set_option maxHeartbeats 4000000 in
set_option maxRecDepth 100000 in
theorem width_short (s : ByteArray) (i b n least v0 z : Nat) (w : World) (hi : i < z) (hb : b = bt s i) (hL : Lead b n least v0) (hz : z = s.size) (hs : z ≤ 140737488355328) (hfit : z < i + n) :
    Calls Try.prog 33 #[.string s, .int .i64 (i : Int)] w fun e w' => e = .returned (.int .i64 0) ∧ w = w' := by
  have hix := index_at s i i rfl (by omega)
  rw [← hb] at hix
  have hlen : ∀ w, (Builtin.len_ #[9] 3 #[.string s]).run Try.prog w = .ok (.int .i64 (z : Int)) w := fun w => by
    rw [run_len_string w 9 3 s Try.underlying9, hz]; rfl
  clear hb hz
  rcases hL with ⟨h1, h2, rfl, rfl, rfl⟩ | ⟨h1, h2, rfl, rfl, rfl⟩ | ⟨h1, h2, rfl, rfl, rfl⟩
  all_goals
    go_enter Try.func33, Try.ntmps33
    go_wp2
    go_ret
    exact ⟨rfl, rfl⟩

/-- 'width', at every place of every text. -/
theorem width_any (s : ByteArray) (i : Nat) (w : World) (hi : i < s.size) (hs : s.size ≤ 140737488355328) :
    Calls Try.prog 33 #[.string s, .int .i64 (i : Int)] w fun e w' => e = .returned (.int .i64 (wid s i : Int)) ∧ w = w' := by
  have hb := bt_lt s i
  by_cases h1 : bt s i < 128
  · rw [wid_ascii s i h1]
    exact width_plain s i _ w hi rfl h1
  · by_cases h2 : bt s i < 192 ∨ 248 ≤ bt s i
    · rw [wid_no_lead s i (by omega) h2]
      exact width_none s i _ w hi rfl (by omega)
    · by_cases h3 : bt s i < 224
      · by_cases hf : i + 2 ≤ s.size
        · exact width_lead2 s i _ _ _ w rfl (by omega) h3 rfl hs hf rfl
        · have hL : Lead (bt s i) 2 128 (bt s i - 192) := by unfold Lead; omega
          rw [wid_broken s i _ _ _ hL 1 (by omega) (by omega) (.inl (by omega))]
          exact width_short s i _ _ _ _ _ w hi rfl hL rfl hs (by omega)
      · by_cases h4 : bt s i < 240
        · by_cases hf : i + 3 ≤ s.size
          · exact width_lead3 s i _ _ _ w rfl (by omega) h4 rfl hs hf rfl
          · have hL : Lead (bt s i) 3 2048 (bt s i - 224) := by unfold Lead; omega
            rw [wid_broken s i _ _ _ hL 2 (by omega) (by omega) (.inl (by omega))]
            exact width_short s i _ _ _ _ _ w hi rfl hL rfl hs (by omega)
        · by_cases hf : i + 4 ≤ s.size
          · exact width_lead4 s i _ _ _ w rfl (by omega) (by omega) rfl hs hf rfl
          · have hL : Lead (bt s i) 4 65536 (bt s i - 240) := by unfold Lead; omega
            rw [wid_broken s i _ _ _ hL 3 (by omega) (by omega) (.inl (by omega))]
            exact width_short s i _ _ _ _ _ w hi rfl hL rfl hs (by omega)
end Go.Proofs.Ytlpgdfdadkljfaa.Route

/-
  What is a part: the program's test and the document's answer, of every text.
-/
namespace Go.Proofs.Ytlpgdfdadkljfaa.Route
open Go.RowKit

theorem told_over (s : ByteArray) (o : Option Nat) (c : Nat) (h : 16 < c) : told s (o.map (· + c)) = false := by
  cases o with
  | none => rfl
  | some n =>
    show (decide (1 ≤ n + c ∧ n + c ≤ 16) && _ && _) = false
    rw [decide_eq_false (by omega)]; rfl

theorem told_more (s : ByteArray) (o : Option Nat) (c : Nat) : told s ((o.map (· + 1)).map (· + c)) = told s (o.map (· + (c + 1))) := by
  cases o with
  | none => rfl
  | some n =>
    show told s (some (n + 1 + c)) = told s (some (n + (c + 1)))
    congr 2; omega

theorem told_one (s : ByteArray) (c : Nat) : told s ((some 0).map (· + c)) = (decide (1 ≤ c ∧ c ≤ 16) && !(s.toList == [46]) && !(s.toList == [46, 46])) := by
  show told s (some (0 + c)) = _
  rw [Nat.zero_add]
  rfl

theorem told_end (s : ByteArray) (c : Nat) (h : c ≤ 16) : told s ((some 0).map (· + c)) = (decide (1 ≤ c) && !(s.toList == [46]) && !(s.toList == [46, 46])) := by
  show (decide (1 ≤ 0 + c ∧ 0 + c ≤ 16) && _ && _) = _
  congr 3
  simp
  omega

set_option maxHeartbeats 4000000 in
set_option maxRecDepth 100000 in
theorem isPart_any (s : ByteArray) (w : World) :
    Calls Try.prog 81 #[.string s] w fun e w' => e = .returned (.bool (isPart s)) ∧ Below w.heap.size w w' := by
  obtain ⟨r, hr⟩ : ∃ r, r = isPart s := ⟨_, rfl⟩
  have HR : Hid (r = isPart s) := hr
  rw [← hr]
  clear hr
  go_enter Try.func81, Try.ntmps81
  go_wp2
  go_loopw [2, 3] (fun t2 t3 wr => t2 = .bool false ∧ ∃ (pos fuel c : Nat), t3 = .int .i64 c ∧ c ≤ 16 ∧ wr.heap[w.heap.size]? = some (.stringIter s pos) ∧ Below w.heap.size w wr ∧ Hid (r = told s ((runes s fuel pos).map (· + c))) ∧ s.size ≤ pos + fuel) (fun _ _ wr => s.size - wr.iterPos w.heap.size)
  case atStart =>
    refine ⟨rfl, 0, s.size, 0, rfl, by omega, World.iter_heap w s 0, (Below.refl _ w).alloc (Nat.le_refl _) _, ?_, by omega⟩
    rw [HR.out, isPart]
    cases runes s s.size 0 <;> rfl
  case round =>
    obtain ⟨rfl, pos, fuel, c, rfl, hc, hit, hbw, HT, hfu⟩ := hrel
    by_cases hp : pos < s.size
    · have hnx : ∀ ty, (Instr.next (.pointer (some ⟨w.heap.size, 0, none⟩)) true ty).run Try.prog wr = _ := fun ty => Lib.run_next_any_at wr w.heap.size s pos ty hit hp
      have hwd := width_pos s pos hp
      have hd1 := decode_le s pos
      have hit2 := Lib.iterAt_heap wr w.heap.size s pos (pos + (Utf8.decode s pos).2) hit
      have hbw2 := Lib.below_iterAt hbw (k := w.heap.size) (by omega) s (pos + (Utf8.decode s pos).2)
      obtain ⟨f, rfl⟩ : ∃ f, fuel = f + 1 := ⟨fuel - 1, by omega⟩
      by_cases hc16 : c = 16
      · subst hc16
        go_wp2
        go_ret
        have hr : r = false := by
          rw [HT.out]
          cases hok : okc (Utf8.decode s pos).1 with
          | true => rw [runes_ok s f pos hp hok, told_more]; exact told_over s _ _ (by omega)
          | false => rw [runes_bad s f pos hp hok]; rfl
        exact ⟨by rw [hr]; rfl, hbw2⟩
      · cases hok : okc (Utf8.decode s pos).1 with
        | true =>
          have HT2 : Hid (r = told s ((runes s f (pos + (Utf8.decode s pos).2)).map (· + (c + 1)))) := by
            have := HT.out
            rw [runes_ok s f pos hp hok, told_more] at this
            exact this
          go_wp2_with fail
          refine (isOfPart_any _ _).mono ?_
          rintro e w1 ⟨rfl, rfl⟩
          go_wp2
          go_roundw
          case rel => exact ⟨rfl, pos + (Utf8.decode s pos).2, f, c + 1, by go_num, by omega, hit2, hbw2, HT2, by omega⟩
          case measure =>
            simp only [World.iterPos, hit2, hit]
            omega
        | false =>
          have hr : r = false := by
            rw [HT.out, runes_bad s f pos hp hok]; rfl
          go_wp2_with fail
          refine (isOfPart_any _ _).mono ?_
          rintro e w1 ⟨rfl, rfl⟩
          go_wp2
          go_ret
          exact ⟨by rw [hr]; rfl, hbw2⟩
    · have hnx : ∀ ty, (Instr.next (.pointer (some ⟨w.heap.size, 0, none⟩)) true ty).run Try.prog wr = _ := fun ty => Lib.run_next_end_at wr w.heap.size s pos ty hit hp
      rw [runes_end s fuel pos hp, told_end s c hc] at HT
      go_wp2
      all_goals
        go_ret
        refine ⟨?_, hbw⟩
        rw [HT.out]
        first
        | (have h1 : decide (1 ≤ c) = true := decide_eq_true (by omega)
           rw [h1, Bool.true_and]
           first | rfl | simp [*])
        | (have h1 : decide (1 ≤ c) = false := decide_eq_false (by omega)
           rw [h1]; rfl)

set_option maxHeartbeats 4000000 in
set_option maxRecDepth 100000 in
theorem refPart_any (s : ByteArray) (w : World) (hs : s.size ≤ 140737488355328) :
    Calls Try.prog 21 #[.string s] w fun e w' => e = .returned (.bool (isPart s)) ∧ w = w' := by
  obtain ⟨r, hr⟩ : ∃ r, r = isPart s := ⟨_, rfl⟩
  have HR : Hid (r = isPart s) := hr
  rw [← hr]
  clear hr
  obtain ⟨z, hz⟩ : ∃ z, z = s.size := ⟨_, rfl⟩
  have HZ : Hid (z = s.size) := hz
  have hlen : ∀ w, (Builtin.len_ #[9] 3 #[.string s]).run Try.prog w = .ok (.int .i64 (z : Int)) w := fun w => by
    rw [run_len_string w 9 3 s Try.underlying9, hz]; rfl
  rw [← hz] at hs
  clear hz
  go_enter Try.func21, Try.ntmps21
  go_wp2
  go_loop [2, 3, 4] (fun t2 t3 t4 => t2 = .bool false ∧ ∃ (pos fuel c : Nat), t3 = .int .i64 c ∧ t4 = .int .i64 pos ∧ c ≤ pos ∧ pos ≤ z ∧ Hid (r = told s ((runes s fuel pos).map (· + c))) ∧ z ≤ pos + fuel) (fun _ _ t4 => z - (intOf t4).toNat)
  case atStart =>
    refine ⟨rfl, 0, z, 0, rfl, rfl, by omega, by omega, ?_, by omega⟩
    show r = _
    rw [HR.out, isPart, ← HZ.out]
    cases runes s z 0 <;> rfl
  case round =>
    obtain ⟨rfl, pos, fuel, c, rfl, rfl, hc, hpz, HT, hfu⟩ := hrel
    by_cases hp : pos < z
    · have hps : pos < s.size := by rw [← HZ.out]; exact hp
      obtain ⟨f, rfl⟩ : ∃ f, fuel = f + 1 := ⟨fuel - 1, by omega⟩
      have hix := index_at s pos pos rfl hps
      have hok := okc_wid s pos hps
      have hdw := decode_wid s pos hps
      have hwp := width_pos s pos hps
      obtain ⟨b, hb⟩ : ∃ b, b = bt s pos := ⟨_, rfl⟩
      obtain ⟨d, hd⟩ : ∃ d, d = wid s pos := ⟨_, rfl⟩
      have hw := width_any s pos w hps (by rw [← HZ.out]; exact hs)
      rw [← hb] at hix hok hdw
      rw [← hd] at hok hdw hw
      have hdz : pos + d ≤ z := by
        have hz := HZ.out
        rcases hdw with ⟨_, _, h⟩ | ⟨_, _, h⟩ | ⟨_, _, _, h, _, h2⟩ <;> omega
      clear hb hd
      by_cases hd1 : 1 < d
      · have hk : okc (Utf8.decode s pos).1 = true := by rw [hok.1, decide_eq_true hd1]; rfl
        have HT2 : Hid (r = told s ((runes s f (pos + d)).map (· + (c + 1)))) := by
          have := HT.out
          rw [runes_ok s f pos hps hk, told_more, hok.2 hk] at this
          exact this
        clear hok hdw hwp HT
        go_wp2_with fail
        refine hw.mono ?_
        rintro e w1 ⟨rfl, rfl⟩
        go_wp2
        go_round
        case rel => exact ⟨rfl, pos + d, f, c + 1, by go_num, by go_num, by omega, by omega, HT2, by omega⟩
        case measure => simp [intOf]; omega
      · by_cases hd0 : d = 0
        · subst hd0
          have hk : okc (Utf8.decode s pos).1 = false := by rw [hok.1]; rfl
          have hr : r = false := by rw [HT.out, runes_bad s f pos hps hk]; rfl
          clear hok hdw hwp HT
          go_wp2_with fail
          refine hw.mono ?_
          rintro e w1 ⟨rfl, rfl⟩
          go_wp2
          go_ret
          exact ⟨by rw [hr]; rfl, rfl⟩
        · obtain rfl : d = 1 := by omega
          have hb128 : b < 128 := by omega
          have hk : okc (Utf8.decode s pos).1 = okc b := by rw [hok.1]; rfl
          cases hkb : okc b with
          | true =>
            have HT2 : Hid (r = told s ((runes s f (pos + 1)).map (· + (c + 1)))) := by
              have := HT.out
              rw [runes_ok s f pos hps (hk.trans hkb), told_more, hok.2 (hk.trans hkb)] at this
              exact this
            clear hok hdw hwp HT hk
            go_wp2_with fail
            refine hw.mono ?_
            rintro e w1 ⟨rfl, rfl⟩
            go_wp2_with fail
            refine (plain_any b hb128 w).mono ?_
            rintro e w1 ⟨rfl, rfl⟩
            rw [hkb]
            go_wp2
            go_round
            case rel => exact ⟨rfl, pos + 1, f, c + 1, by go_num, by go_num, by omega, by omega, HT2, by omega⟩
            case measure => simp [intOf]; omega
          | false =>
            have hr : r = false := by rw [HT.out, runes_bad s f pos hps (hk.trans hkb)]; rfl
            clear hok hdw hwp HT hk
            go_wp2_with fail
            refine hw.mono ?_
            rintro e w1 ⟨rfl, rfl⟩
            go_wp2_with fail
            refine (plain_any b hb128 w).mono ?_
            rintro e w1 ⟨rfl, rfl⟩
            rw [hkb]
            go_wp2
            go_ret
            exact ⟨by rw [hr]; rfl, rfl⟩
    · rw [runes_end s fuel pos (by rw [← HZ.out]; exact hp)] at HT
      have HT3 : Hid (r = (decide (1 ≤ c ∧ c ≤ 16) && !(s.toList == [46]) && !(s.toList == [46, 46]))) := by
        have := HT.out
        rw [told_one] at this
        exact this
      clear HT
      go_wp2
      all_goals
        go_ret
        refine ⟨?_, rfl⟩
        rw [HT3.out]
        first
        | (have h1 : decide (1 ≤ c ∧ c ≤ 16) = true := decide_eq_true (by omega)
           rw [h1, Bool.true_and]
           first | rfl | simp [*])
        | (have h1 : decide (1 ≤ c ∧ c ≤ 16) = false := decide_eq_false (by omega)
           rw [h1]; rfl)
end Go.Proofs.Ytlpgdfdadkljfaa.Route

/-
  What is told of a list of texts: whether they may be a path's parts (the program's answer and the document's), and whether two lists are the same.
-/
namespace Go.Proofs.Ytlpgdfdadkljfaa.Route
open Go.RowKit

theorem Lies.at {w : World} {a : Option Addr} {l : List ByteArray} (h : Lies w a l) (h0 : 0 < l.length) :
    ∃ b off, a = some ⟨b, off, none⟩ ∧ ∀ j, j < l.length → w.cell? ⟨b, off + j, none⟩ = some (.string (l.getD j ByteArray.empty)) := by
  rcases h with rfl | ⟨x, rfl, hx⟩
  · simp at h0
  · obtain ⟨b, off, spot⟩ := x
    have hspot : spot = none := by simpa [Addr.add] using World.cell?_spot (hx 0 h0)
    subst hspot
    exact ⟨b, off, rfl, fun j hj => by rw [← Go.WideShapes.add_plain]; exact hx j hj⟩

theorem all_drop {l : List ByteArray} {k : Nat} (h : k < l.length) : (l.drop k).all isPart = (isPart (l.getD k ByteArray.empty) && (l.drop (k + 1)).all isPart) := by
  rw [List.drop_eq_getElem_cons h, List.all_cons]
  simp [List.getD_eq_getElem?_getD, List.getElem?_eq_getElem h]

set_option maxHeartbeats 4000000 in
set_option maxRecDepth 100000 in
theorem refParts_far (a : Option Addr) (k cap : Nat) (w : World) (hk : ¬ (1 ≤ k ∧ k ≤ 8)) (hm : k ≤ 140737488355328) :
    Calls Try.prog 50 #[.slice a k cap] w fun e w' => e = .returned (.bool false) ∧ w = w' := by
  by_cases h0 : k < 1
  · go_enter Try.func50, Try.ntmps50
    go_wp2
    go_ret
    exact ⟨rfl, rfl⟩
  · have h9 : 8 < k := by omega
    go_enter Try.func50, Try.ntmps50
    go_wp2
    go_ret
    exact ⟨rfl, rfl⟩

set_option maxHeartbeats 4000000 in
set_option maxRecDepth 100000 in
theorem refParts_any (a : Option Addr) (l : List ByteArray) (k cap : Nat) (w : World) (hk : k = l.length) (hl : Lies w a l) (hm : k ≤ 140737488355328) (hs : ∀ x ∈ l, x.size ≤ 140737488355328) :
    Calls Try.prog 50 #[.slice a k cap] w fun e w' => e = .returned (.bool (arePath l)) ∧ w = w' := by
  by_cases hk8 : 1 ≤ k ∧ k ≤ 8
  · obtain ⟨hk1, hk8⟩ := hk8
    obtain ⟨b, off, rfl, hc⟩ := hl.at (by omega)
    obtain ⟨r, hr⟩ : ∃ r, r = l.all isPart := ⟨_, rfl⟩
    have HR : Hid (r = l.all isPart) := hr
    have e : arePath l = r := by rw [hr, arePath, decide_eq_true (by omega), Bool.true_and]
    have HK : Hid (k = l.length) := hk
    have HC : Hid (∀ j, j < l.length → w.cell? ⟨b, off + j, none⟩ = some (.string (l.getD j ByteArray.empty))) := hc
    have HS : Hid (∀ x ∈ l, x.size ≤ 140737488355328) := hs
    rw [e]
    clear e hr hk hc hs hl
    go_enter Try.func50, Try.ntmps50
    go_wp2
    go_loop [2, 3] (fun t2 t3 => t2 = .bool false ∧ ∃ j : Nat, t3 = .int .i64 j ∧ j ≤ k ∧ Hid (r = (l.drop j).all isPart)) (fun _ t3 => k - (intOf t3).toNat)
    case atStart => exact ⟨rfl, 0, rfl, by omega, by show r = _; rw [List.drop_zero]; exact HR.out⟩
    case round =>
      obtain ⟨rfl, j, rfl, hj, HJ⟩ := hrel
      by_cases hjk : j < k
      · have hjl : j < l.length := by rw [← HK.out]; exact hjk
        have hcell := HC.out j hjl
        have hall := all_drop hjl
        obtain ⟨x, hx⟩ : ∃ x, x = l.getD j ByteArray.empty := ⟨_, rfl⟩
        have hxs : x.size ≤ 140737488355328 := HS.out x (by rw [hx]; simp [List.getD_eq_getElem?_getD, List.getElem?_eq_getElem hjl])
        rw [← hx] at hcell hall
        have HX : Hid ((l.drop j).all isPart = (isPart x && (l.drop (j + 1)).all isPart)) := hall
        clear hx hall hjl
        cases hp : isPart x with
        | true =>
          go_wp2_with fail
          refine (refPart_any x w hxs).mono ?_
          rintro e w1 ⟨rfl, rfl⟩
          rw [hp]
          go_wp2
          go_round
          case rel => exact ⟨rfl, j + 1, by go_num, by omega, by show r = _; rw [HJ.out, HX.out, hp, Bool.true_and]⟩
          case measure => simp [intOf]; omega
        | false =>
          have hr : r = false := by rw [HJ.out, HX.out, hp, Bool.false_and]
          go_wp2_with fail
          refine (refPart_any x w hxs).mono ?_
          rintro e w1 ⟨rfl, rfl⟩
          rw [hp]
          go_wp2
          go_ret
          exact ⟨by first | rfl | (rw [hr]; rfl), rfl⟩
      · have hr : r = true := by rw [HJ.out, List.drop_of_length_le (by rw [← HK.out]; omega)]; rfl
        go_wp2
        go_ret
        exact ⟨by first | rfl | (rw [hr]; rfl), rfl⟩
  · have e : arePath l = false := by rw [arePath, decide_eq_false (by omega), Bool.false_and]
    rw [e]
    exact refParts_far a k cap w hk8 hm

set_option maxHeartbeats 4000000 in
set_option maxRecDepth 100000 in
theorem arePath_far (a : Option Addr) (k cap : Nat) (w : World) (hk : ¬ (1 ≤ k ∧ k ≤ 8)) (hm : k ≤ 140737488355328) :
    Calls Try.prog 77 #[.slice a k cap] w fun e w' => e = .returned (.bool false) ∧ w = w' := by
  by_cases h0 : k < 1
  · go_enter Try.func77, Try.ntmps77
    go_wp2
    go_ret
    exact ⟨rfl, rfl⟩
  · have h9 : 8 < k := by omega
    go_enter Try.func77, Try.ntmps77
    go_wp2
    go_ret
    exact ⟨rfl, rfl⟩

set_option maxHeartbeats 4000000 in
set_option maxRecDepth 100000 in
theorem arePath_any (a : Option Addr) (l : List ByteArray) (k cap : Nat) (w : World) (hk : k = l.length) (hl : Lies w a l) (hm : k ≤ 140737488355328) :
    Calls Try.prog 77 #[.slice a k cap] w fun e w' => e = .returned (.bool (arePath l)) ∧ Below w.heap.size w w' := by
  by_cases hk8 : 1 ≤ k ∧ k ≤ 8
  · obtain ⟨hk1, hk8⟩ := hk8
    obtain ⟨b, off, rfl, hc⟩ := hl.at (by omega)
    obtain ⟨r, hr⟩ : ∃ r, r = l.all isPart := ⟨_, rfl⟩
    have HR : Hid (r = l.all isPart) := hr
    have e : arePath l = r := by rw [hr, arePath, decide_eq_true (by omega), Bool.true_and]
    have HK : Hid (k = l.length) := hk
    have HC : Hid (∀ j, j < l.length → w.cell? ⟨b, off + j, none⟩ = some (.string (l.getD j ByteArray.empty))) := hc
    rw [e]
    clear e hr hk hc hl
    go_enter Try.func77, Try.ntmps77
    go_wp2
    go_loopw [2, 15] (fun t2 t3 wr => t2 = .bool false ∧ ∃ j : Nat, t3 = .int .i64 j ∧ j ≤ k ∧ Below w.heap.size w wr ∧ Hid (r = (l.drop j).all isPart)) (fun _ t3 _ => k - (intOf t3).toNat)
    case atStart => exact ⟨rfl, 0, rfl, by omega, Below.refl _ _, by show r = _; rw [List.drop_zero]; exact HR.out⟩
    case round =>
      obtain ⟨rfl, j, rfl, hj, hbw, HJ⟩ := hrel
      by_cases hjk : j < k
      · have hjl : j < l.length := by rw [← HK.out]; exact hjk
        have hcell := cell_later hbw (HC.out j hjl)
        have hall := all_drop hjl
        obtain ⟨x, hx⟩ : ∃ x, x = l.getD j ByteArray.empty := ⟨_, rfl⟩
        rw [← hx] at hcell hall
        have HX : Hid ((l.drop j).all isPart = (isPart x && (l.drop (j + 1)).all isPart)) := hall
        clear hx hall hjl
        cases hp : isPart x with
        | true =>
          go_wp2_with fail
          refine (isPart_any x wr).mono ?_
          rintro e w1 ⟨rfl, hb1⟩
          rw [hp]
          go_wp2
          go_roundw
          case rel => exact ⟨rfl, j + 1, by go_num, by omega, hbw.trans (hb1.mono hbw.size), by show r = _; rw [HJ.out, HX.out, hp, Bool.true_and]⟩
          case measure => simp [intOf]; omega
        | false =>
          have hr : r = false := by rw [HJ.out, HX.out, hp, Bool.false_and]
          go_wp2_with fail
          refine (isPart_any x wr).mono ?_
          rintro e w1 ⟨rfl, hb1⟩
          rw [hp]
          go_wp2
          go_ret
          exact ⟨by first | rfl | (rw [hr]; rfl), hbw.trans (hb1.mono hbw.size)⟩
      · have hr : r = true := by rw [HJ.out, List.drop_of_length_le (by rw [← HK.out]; omega)]; rfl
        go_wp2
        go_ret
        exact ⟨by first | rfl | (rw [hr]; rfl), hbw⟩
  · have e : arePath l = false := by rw [arePath, decide_eq_false (by omega), Bool.false_and]
    rw [e]
    refine (arePath_far a k cap w hk8 hm).mono ?_
    rintro e w1 ⟨rfl, rfl⟩
    exact ⟨rfl, Below.refl _ _⟩

theorem drop_step {l m : List ByteArray} {j : Nat} (h : j < l.length) (h2 : j < m.length) : decide (l.drop j = m.drop j) = (decide (l.getD j ByteArray.empty = m.getD j ByteArray.empty) && decide (l.drop (j + 1) = m.drop (j + 1))) := by
  have e1 : l.getD j ByteArray.empty = l[j] := by simp [List.getD_eq_getElem?_getD, List.getElem?_eq_getElem h]
  have e2 : m.getD j ByteArray.empty = m[j] := by simp [List.getD_eq_getElem?_getD, List.getElem?_eq_getElem h2]
  rw [e1, e2, List.drop_eq_getElem_cons h, List.drop_eq_getElem_cons h2, ← Bool.decide_and]
  exact decide_eq_decide.2 (by rw [List.cons.injEq])
end Go.Proofs.Ytlpgdfdadkljfaa.Route

/-
  What stands between slashes: the document's answer ('Split') and the program's ('cut').
-/
namespace Go.Proofs.Ytlpgdfdadkljfaa.Route
open Go.RowKit

set_option maxHeartbeats 4000000 in
set_option maxRecDepth 100000 in
theorem split_any (s : ByteArray) (w : World) (hs : s.size ≤ 100000) :
    Calls Try.prog 51 #[.string s] w fun e w' => ∃ v, e = .returned v ∧ Strs w.heap.size v (parts s) w w' := by
  obtain ⟨z, hz⟩ : ∃ z, z = s.size := ⟨_, rfl⟩
  have HZ : Hid (z = s.size) := hz
  have hlen : ∀ w, (Builtin.len_ #[9] 3 #[.string s]).run Try.prog w = .ok (.int .i64 (z : Int)) w := fun w => by
    rw [run_len_string w 9 3 s Try.underlying9, hz]; rfl
  rw [← hz] at hs
  clear hz
  go_enter Try.func51, Try.ntmps51
  go_wp2
  go_loopw [3, 4, 5] (fun t3 t4 t5 wr => ∃ (i start fuel : Nat) (l : List ByteArray), t4 = .int .i64 start ∧ t5 = .int .i64 i ∧ i ≤ z + 1 ∧ start ≤ i ∧ l.length ≤ i ∧ Strs w.heap.size t3 l w wr ∧ Hid ((i ≤ z ∧ z ≤ i + fuel ∧ parts s = l ++ pieces s fuel start i) ∨ (z < i ∧ parts s = l))) (fun _ _ t5 _ => z + 1 - (intOf t5).toNat)
  case atStart =>
    refine ⟨0, 0, z, [], rfl, rfl, by omega, by omega, by simp, Strs.nil w, .inl ⟨by omega, by omega, ?_⟩⟩
    rw [parts, ← HZ.out]; rfl
  case round =>
    obtain ⟨i, start, fuel, l, rfl, rfl, hi, hst, hll, hb, HP⟩ := hrel
    by_cases hiz : i < z
    · have his : i < s.size := by rw [← HZ.out]; exact hiz
      have hix := index_at s i i rfl his
      obtain ⟨b, hbt⟩ : ∃ b, b = bt s i := ⟨_, rfl⟩
      rw [← hbt] at hix
      have hp : z ≤ i + fuel ∧ parts s = l ++ pieces s fuel start i := by
        rcases HP.out with h | h
        · exact h.2
        · omega
      obtain ⟨f, rfl⟩ : ∃ f, fuel = f + 1 := ⟨fuel - 1, by omega⟩
      by_cases h47 : b = 47
      · have HN : Hid (parts s = (l ++ [s.extract start i]) ++ pieces s f (i + 1) (i + 1)) := by
          have := hp.2
          rw [pieces_slash s f start i his (by omega)] at this
          show _ = _
          rw [this]; simp
        have hf := hp.1
        have hsl : ∀ wx : World, (Instr.slice 9 (.string s) (some (.int .i64 (start : Int))) (some (.int .i64 (i : Int))) none).run Try.prog wx = .ok (.string (s.extract start i)) wx := fun wx => by
          have := run_slice_string (P := Try.prog) wx 9 s .i64 .i64 (start : Int) (i : Int) Try.underlying9 (by omega) (by omega) (by omega)
          simpa using this
        subst h47
        clear hbt HP hp his
        generalize s.extract start i = x at HN hsl
        go_wp2_with (at_builtin; refine wpList_str rfl (.tmp 22) (.tmp 27) rfl w.heap.size _ l rfl w wr x hb rfl (by omega) ?_; intro v' w1 hb1)
        clear hb
        go_wp2
        go_roundw
        case rel => exact ⟨i + 1, i + 1, f, l ++ [x], by go_num, by go_num, by omega, by omega, by simp only [List.length_append, List.length_singleton]; omega, hb1, .inl ⟨by omega, by omega, HN.out⟩⟩
        case measure => simp [intOf]; omega
      · have HN : Hid (parts s = l ++ pieces s f start (i + 1)) := by
          have := hp.2
          rw [pieces_on s f start i his (by omega)] at this
          exact this
        have hf := hp.1
        have hne : ((b : Int) == 47) = false := by simp; omega
        clear hbt HP hp his
        go_wp2
        go_roundw
        case rel => exact ⟨i + 1, start, f, l, by go_num, by go_num, by omega, by omega, by omega, hb, .inl ⟨by omega, by omega, HN.out⟩⟩
        case measure => simp [intOf]; omega
    · by_cases hie : i = z
      · subst hie
        have HN : Hid (parts s = l ++ [s.extract start i]) := by
          rcases HP.out with h | h
          · have := h.2.2
            rw [pieces_end s fuel start i (by rw [← HZ.out]; omega), ← HZ.out] at this
            exact this
          · omega
        have hsl : ∀ wx : World, (Instr.slice 9 (.string s) (some (.int .i64 (start : Int))) (some (.int .i64 (i : Int))) none).run Try.prog wx = .ok (.string (s.extract start i)) wx := fun wx => by
          have hz := HZ.out
          have := run_slice_string (P := Try.prog) wx 9 s .i64 .i64 (start : Int) (i : Int) Try.underlying9 (by omega) (by omega) (by omega)
          simpa using this
        clear HP
        generalize s.extract start i = x at HN hsl
        go_wp2_with (at_builtin; refine wpList_str rfl (.tmp 22) (.tmp 27) rfl w.heap.size _ l rfl w wr x hb rfl (by omega) ?_; intro v' w1 hb1)
        clear hb
        go_wp2
        go_roundw
        case rel => exact ⟨i + 1, i + 1, 0, l ++ [x], by go_num, by go_num, by omega, by omega, by simp only [List.length_append, List.length_singleton]; omega, hb1, .inr ⟨by omega, HN.out⟩⟩
        case measure => simp [intOf]
      · have HN : Hid (parts s = l) := by
          rcases HP.out with h | h
          · omega
          · exact h.2
        clear HP
        go_wp2
        go_ret
        exact ⟨_, rfl, by rw [HN.out]; exact hb⟩

end Go.Proofs.Ytlpgdfdadkljfaa.Route

/-
  What stands between slashes: the program's answer ('cut').
-/
namespace Go.Proofs.Ytlpgdfdadkljfaa.Route
open Go.RowKit

set_option maxHeartbeats 4000000 in
set_option maxRecDepth 100000 in
theorem cut_any (s : ByteArray) (w : World) (hs : s.size ≤ 100000) :
    Calls Try.prog 68 #[.string s] w fun e w' => ∃ v, e = .returned (.tuple #[v, .bool (isPath s)]) ∧ Strs w.heap.size v (if isPath s then parts s else []) w w' := by
  obtain ⟨z, hz⟩ : ∃ z, z = s.size := ⟨_, rfl⟩
  have HZ : Hid (z = s.size) := hz
  obtain ⟨r, hr⟩ : ∃ r, r = isPath s := ⟨_, rfl⟩
  have HR : Hid (r = isPath s) := hr
  rw [← hr]
  obtain ⟨L, hL⟩ : ∃ L, L = if r then parts s else [] := ⟨_, rfl⟩
  have HL : Hid (L = if r then parts s else []) := hL
  rw [← hL]
  rw [← hz] at hs
  clear hz hr hL
  go_enter Try.func68, Try.ntmps68
  go_wp2
  go_loopw [2, 3, 4, 5] (fun t2 t3 t4 t5 wr => t2 = .slice none 0 0 ∧ t3 = .bool false ∧ ∃ (pos start fuel : Nat) (l : List ByteArray), t5 = .int .i64 start ∧ pos ≤ z ∧ start ≤ pos ∧ l.length < 8 ∧ wr.ownsRow (w.heap.size + 1) 9 1 t4 l.length (sv l) ∧ wr.heap[w.heap.size]? = some (.stringIter s pos) ∧ Below w.heap.size w wr ∧ z ≤ pos + fuel ∧ Hid (parts s = l ++ pieces s fuel start pos)) (fun _ _ _ _ wr => z - wr.iterPos w.heap.size)
  case atStart =>
    refine ⟨rfl, rfl, 0, 0, z, [], rfl, by omega, by omega, by simp, World.ownsRow_nil _ _ 9 1, World.iter_heap w s 0, (Below.refl _ w).alloc (Nat.le_refl _) _, by omega, ?_⟩
    show parts s = _
    rw [parts, ← HZ.out]; rfl
  case round =>
    obtain ⟨rfl, rfl, pos, start, fuel, l, rfl, hpz, hst, hl8, hown, hit, hbw, hfu, HP⟩ := hrel
    have hsz : w.heap.size + 1 ≤ wr.heap.size := (Array.getElem?_eq_some_iff.1 hit).1
    by_cases hp : pos < z
    · have hps : pos < s.size := by rw [← HZ.out]; exact hp
      have hnx : ∀ ty, (Instr.next (.pointer (some ⟨w.heap.size, 0, none⟩)) true ty).run Try.prog wr = _ := fun ty => Lib.run_next_any_at wr w.heap.size s pos ty hit hps
      have hwd := width_pos s pos hps
      have hd1 := decode_le s pos
      have hit2 := Lib.iterAt_heap wr w.heap.size s pos (pos + (Utf8.decode s pos).2) hit
      have hbw2 := Lib.below_iterAt hbw (k := w.heap.size) (by omega) s (pos + (Utf8.decode s pos).2)
      have hown2 := ownsRow_iterAt hown (k := w.heap.size) (by omega) s (pos + (Utf8.decode s pos).2)
      have hsz2 : w.heap.size + 1 ≤ (wr.iterAt w.heap.size s (pos + (Utf8.decode s pos).2)).heap.size := by rw [Lib.iterAt_size]; exact hsz
      have hns := step_no_slash s pos
      have hbb : (Utf8.decode s pos).1 = 47 ↔ bt s pos = 47 := by
        rcases decode_wid s pos hps with ⟨_, e, _⟩ | ⟨h, e, _⟩ | ⟨h, h2, _⟩
        · rw [e]
        · rw [e]; omega
        · omega
      have hw1 : (Utf8.decode s pos).1 = 47 → (Utf8.decode s pos).2 = 1 := fun e => by
        rcases decode_wid s pos hps with ⟨_, e2, _⟩ | ⟨h, _⟩ | ⟨h, _⟩
        · rw [e2]
        · have := hbb.1 e; omega
        · have := hbb.1 e; omega
      have hpd : pos + (Utf8.decode s pos).2 ≤ z := by
        have hz := HZ.out
        have := hns ((Utf8.decode s pos).2 - 1) hps
        by_cases h1 : (Utf8.decode s pos).2 = 1
        · omega
        · have := this (by omega) (by omega); omega
      generalize hW2 : wr.iterAt w.heap.size s (pos + (Utf8.decode s pos).2) = wr2 at *
      by_cases h47 : (Utf8.decode s pos).1 = 47
      · have hd2 := hw1 h47
        rw [hd2] at hit2 hpd
        obtain ⟨f, rfl⟩ : ∃ f, fuel = f + 1 := ⟨fuel - 1, by omega⟩
        have HN : Hid (parts s = (l ++ [s.extract start pos]) ++ pieces s f (pos + 1) (pos + 1)) := by
          have := HP.out
          rw [pieces_slash s f start pos hps (hbb.1 h47)] at this
          show _ = _
          rw [this]; simp
        have hsl : ∀ wx : World, (Instr.slice 9 (.string s) (some (.int .i64 (start : Int))) (some (.int .i64 (pos : Int))) none).run Try.prog wx = .ok (.string (s.extract start pos)) wx := fun wx => by
          have := run_slice_string (P := Try.prog) wx 9 s .i64 .i64 (start : Int) (pos : Int) Try.underlying9 (by omega) (by omega) (by omega)
          simpa using this
        generalize (Utf8.decode s pos).1 = ch at *
        subst h47
        clear HP hps hns hbb hw1 hwd hd1
        generalize s.extract start pos = x at HN hsl
        have hb0 : Strs (w.heap.size + 1) _ l wr2 wr2 := ⟨hown2, Below.refl _ _, hsz2⟩
        obtain ⟨m, hm⟩ : ∃ m, m = (l ++ [x]).length := ⟨_, rfl⟩
        have hm2 : m ≤ 8 := by rw [hm]; simp; omega
        have HM : Hid (m = (l ++ [x]).length) := hm
        clear hm
        by_cases hl7 : m = 8
        · subst hl7
          go_wp2_with (at_builtin; refine wpList_str rfl (.tmp 16) (.tmp 21) rfl (w.heap.size + 1) _ l rfl wr2 wr2 x hb0 rfl (by omega) ?_; intro v' w1 hb1; obtain ⟨a1, cap1, rfl, hc1, hcm1, hl1⟩ := hb1.liesN HM.out)
          go_ret2
          have hr : r = false := by
            rw [HR.out, isPath, HN.out]
            exact arePath_many _ _ (by rw [← HM.out]; omega) (pieces_ne s f _ _)
          subst hr
          obtain rfl : L = [] := HL.out
          exact ⟨_, rfl, World.ownsRow_nil _ _ 9 1, hbw2.trans (hb1.2.1.mono (by omega)), by have := hb1.2.2; omega⟩
        · have hne : ((m : Int) == 8) = false := by simp; omega
          go_wp2_with (at_builtin; refine wpList_str rfl (.tmp 16) (.tmp 21) rfl (w.heap.size + 1) _ l rfl wr2 wr2 x hb0 rfl (by omega) ?_; intro v' w1 hb1; obtain ⟨a1, cap1, rfl, hc1, hcm1, hl1⟩ := hb1.liesN HM.out)
          have hit3 : w1.heap[w.heap.size]? = some (.stringIter s (pos + 1)) := (hb1.2.1.block _ (by omega)).trans hit2
          go_roundw
          case rel => exact ⟨rfl, rfl, pos + 1, pos + 1, f, l ++ [x], by go_num, by omega, by omega, by rw [← HM.out]; omega, hb1.1, hit3, hbw2.trans (hb1.2.1.mono (by omega)), by omega, HN⟩
          case measure =>
            simp only [World.iterPos, hit3, hit]
            omega
      · have hskip : ∀ j, j < (Utf8.decode s pos).2 → pos + j < s.size ∧ bt s (pos + j) ≠ 47 := fun j hj => by
          by_cases h0 : j = 0
          · subst h0
            exact ⟨hps, fun e => h47 (hbb.2 e)⟩
          · exact hns j hps (by omega) hj
        have HN : Hid (parts s = l ++ pieces s fuel start (pos + (Utf8.decode s pos).2)) := by
          have hz := HZ.out
          have := HP.out
          rw [pieces_fuel s fuel (fuel + (Utf8.decode s pos).2) start pos (by omega) (by omega), pieces_skip s fuel start pos _ hskip] at this
          exact this
        have hne : (((Utf8.decode s pos).1 : Int) == 47) = false := by simp; omega
        clear HP hps hns hbb hw1 hskip
        go_wp2
        go_roundw
        case rel => exact ⟨rfl, rfl, pos + (Utf8.decode s pos).2, start, fuel, l, rfl, by omega, by omega, hl8, hown2, hit2, hbw2, by omega, HN⟩
        case measure =>
          simp only [World.iterPos, hit2, hit]
          omega
    · have hps : ¬ pos < s.size := by rw [← HZ.out]; exact hp
      have hnx : ∀ ty, (Instr.next (.pointer (some ⟨w.heap.size, 0, none⟩)) true ty).run Try.prog wr = _ := fun ty => Lib.run_next_end_at wr w.heap.size s pos ty hit hps
      have HN : Hid (parts s = l ++ [s.extract start z]) := by
        have := HP.out
        rw [pieces_end s fuel start pos hps, ← HZ.out] at this
        exact this
      have hsl : ∀ wx : World, (Instr.slice 9 (.string s) (some (.int .i64 (start : Int))) none none).run Try.prog wx = .ok (.string (s.extract start z)) wx := fun wx => by
        have hz := HZ.out
        rw [run_slice_string_from_if (P := Try.prog) wx 9 s .i64 (start : Int) Try.underlying9, if_pos ⟨by omega, by omega⟩, hz]
        rfl
      have hb0 : Strs (w.heap.size + 1) _ l wr wr := ⟨hown, Below.refl _ _, hsz⟩
      clear HP hps
      generalize s.extract start z = x at HN hsl
      obtain ⟨m, hm⟩ : ∃ m, m = (l ++ [x]).length := ⟨_, rfl⟩
      have hm2 : m ≤ 8 := by rw [hm]; simp; omega
      have HM : Hid (m = (l ++ [x]).length) := hm
      clear hm
      have hap : Hid (∀ a1 cap1 w1, Lies w1 a1 (l ++ [x]) → Calls Try.prog 77 #[.slice a1 m cap1] w1 fun e w' => e = .returned (.bool r) ∧ Below w1.heap.size w1 w') := fun a1 cap1 w1 h1 => by
        have := arePath_any a1 (l ++ [x]) m cap1 w1 HM.out h1 (by omega)
        rw [← HN.out, show arePath (parts s) = r from HR.out.symm] at this
        exact this
      cases r with
      | true =>
        go_wp2_with (first | (at_builtin; refine wpList_str rfl (.tmp 28) (.tmp 32) rfl (w.heap.size + 1) _ l rfl wr wr x hb0 rfl (by omega) ?_; intro v' w1 hb1; obtain ⟨a1, cap1, rfl, hc1, hcm1, hl1⟩ := hb1.liesN HM.out) | (go_at_call 77; refine (hap.out a1 cap1 w1 hl1).mono ?_; rintro e w2 ⟨rfl, hb2⟩))
        go_ret2
        have hbT := hb1.later hb2
        exact ⟨_, rfl, by
          rw [show L = l ++ [x] from HL.out.trans HN.out]
          exact ⟨own_mono hbT.1 (by omega), hbw.trans (hbT.2.1.mono (by omega)), by have := hbT.2.2; omega⟩⟩
      | false =>
        go_wp2_with (first | (at_builtin; refine wpList_str rfl (.tmp 28) (.tmp 32) rfl (w.heap.size + 1) _ l rfl wr wr x hb0 rfl (by omega) ?_; intro v' w1 hb1; obtain ⟨a1, cap1, rfl, hc1, hcm1, hl1⟩ := hb1.liesN HM.out) | (go_at_call 77; refine (hap.out a1 cap1 w1 hl1).mono ?_; rintro e w2 ⟨rfl, hb2⟩))
        go_ret2
        have hbT := hb1.later hb2
        obtain rfl : L = [] := HL.out
        exact ⟨_, rfl, World.ownsRow_nil _ _ 9 1, hbw.trans (hbT.2.1.mono (by omega)), by have := hbT.2.2; omega⟩
end Go.Proofs.Ytlpgdfdadkljfaa.Route
