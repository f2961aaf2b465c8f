/-
  Differ, told.
-/
import Derived.Test.YtlpgdfdadkljfaaImParts2
namespace Go.Proofs.Ytlpgdfdadkljfaa.Img
open Go.RowKit Route Tree Order Cat

theorem inv_own' {S : List Snap} (h : Inv S) (i : Nat) : Inv (ownS i S) := by
  have hm : ∀ s ∈ ownS i S, s ∈ S := fun s hs => (List.mem_filter.1 hs).1
  refine ⟨fun s hs => h.client s (hm s hs), fun s hs => h.name s (hm s hs), fun s hs => h.tree s (hm s hs), fun s hs => h.ents s (hm s hs), h.once.filter _, fun c => ?_⟩
  have h1 := h.most c
  unfold count at *
  unfold ownS
  rw [List.filter_filter]
  refine Nat.le_trans (Nat.le_trans ?_ (List.length_filter_le (fun s : Snap => decide (s.1 = (i : Int))) (S.filter (mine c)))) h1
  rw [List.filter_filter]
  refine Nat.le_of_eq (congrArg List.length ?_)
  congr 1
  funext s
  exact Bool.and_comm _ _

/-- The clients below j whose snapshots differ. -/
def difL (A B : List Snap) (j : Nat) : List Nat := (List.range j).filter fun k => decide (encI (ownS k A) ≠ encI (ownS k B))
theorem difL_same {A B : List Snap} {j : Nat} (h : encI (ownS j A) = encI (ownS j B)) : difL A B (j + 1) = difL A B j := by
  unfold difL
  rw [List.range_succ, List.filter_append]
  simp [List.filter, h]
theorem difL_not {A B : List Snap} {j : Nat} (h : encI (ownS j A) ≠ encI (ownS j B)) : difL A B (j + 1) = difL A B j ++ [j] := by
  unfold difL
  rw [List.range_succ, List.filter_append]
  congr 1
  simp [List.filter, h]
theorem difL_pre {A B : List Snap} {j m : Nat} : ∃ X, difL A B (j + m) = difL A B j ++ X := by
  unfold difL
  rw [List.range_add, List.filter_append]
  exact ⟨_, rfl⟩
theorem difL_at {A B : List Snap} {j : Nat} (hj : j < 8) (h : encI (ownS j A) ≠ encI (ownS j B)) : (difL A B j).length < (difL A B 8).length ∧ (difL A B 8).getD (difL A B j).length 0 = j := by
  obtain ⟨X, hX⟩ := difL_pre (A := A) (B := B) (j := j + 1) (m := 7 - j)
  rw [show j + 1 + (7 - j) = 8 by omega, difL_not h] at hX
  rw [hX]
  constructor
  · simp
  · simp [List.getD_eq_getElem?_getD]
theorem difL_len (A B : List Snap) (j : Nat) : (difL A B j).length ≤ j := by
  have := List.length_filter_le (fun k => decide (encI (ownS k A) ≠ encI (ownS k B))) (List.range j)
  simpa [difL] using this

theorem enc_inj {A B : List Snap} (hA : Inv A) (hB : Inv B) {k : Nat} (h2 : encI (ownS k A) = encI (ownS k B)) : ownS k A = ownS k B := by
  have d1 := dec_inv (inv_own' hA k)
  have d2 := dec_inv (inv_own' hB k)
  rw [h2, d2] at d1
  exact (congrArg Prod.fst d1).symm
theorem part_inj {a b : List UInt8} (h : (⟨a.toArray⟩ : ByteArray) = ⟨b.toArray⟩) : a = b := by
  have h1 : a.toArray = b.toArray := by injection h
  simpa using congrArg Array.toList h1

def iv (D : List Nat) : List Value := D.map fun (k : Nat) => Value.int .i64 (k : Int)
/-- A row of numbers of one's own. -/
structure Ir (w W : World) (v : Value) (D : List Nat) : Prop where
  own : W.ownsRow w.heap.size 3 1 v D.length (iv D)
  bel : Below w.heap.size w W
theorem infoInt : (Try.prog.info? 3).map (fun i => (i.zero, i.size, i.bytes)) = some (some (.int .i64 0), 1, 8) := by kernel_rfl
theorem Ir.later {w W W' : World} {v : Value} {D : List Nat} (h : Ir w W v D) (hb : Below W.heap.size W W') : Ir w W' v D :=
  ⟨own30_later h.own hb, h.bel.trans (hb.mono h.bel.size)⟩
theorem Ir.tell {w W : World} {v : Value} {D : List Nat} (h : Ir w W v D) : ∃ a c, v = .slice a D.length c ∧ ∀ j, j < D.length → ∃ g, a = some ⟨g, 0, none⟩ ∧ W.cell? ⟨g, j, none⟩ = some (.int .i64 ((D.getD j 0 : Nat) : Int)) := by
  rcases h.own.2 with ⟨rfl, h0⟩ | ⟨g, cap, cur, rfl, _, _, hc, hm, _⟩
  · have e0 : D = [] := List.eq_nil_of_length_eq_zero h0
    subst e0
    exact ⟨none, 0, rfl, fun j hj => by simp at hj⟩
  · refine ⟨_, cap, rfl, fun j hj => ⟨g, rfl, ?_⟩⟩
    rw [h.own.cellAt j (by omega)]
    simp [iv, List.getD_eq_getElem?_getD, hj]

theorem wpList_int {ops : Array Oper} {rest : List Oper} {o : Oper} {a : Act} {Q : Exit → Act → World → Prop} (hgd : o.guard = none) (s x : Operand)
    (ho : o.op = .call { callee := .builtin .append, args := #[s, x], argTypes := #[45, 45] })
    {w w0 : World} {v : Value} {D : List Nat} {k : Nat} (hs : a.eval s = v) (hb : Ir w w0 v D)
    (hx : a.eval x = .slice (some ⟨w0.heap.size, 0, none⟩) 1 1) (hlen : D.length + 1 ≤ 1000000)
    (h : ∀ v' w', Hid (Ir w w' v' (D ++ [k])) → wpList Try.prog ops Q rest (a.put o.dst v') w') : wpList Try.prog ops Q (o :: rest) a (w0.alloc (.cells #[.int .i64 (k : Int)] 3)) := by
  refine wpList_plain hgd fun K hK => ?_
  obtain ⟨i0, hi, hz0, hz1, hz2⟩ := info_parts infoInt
  have hbl : Below w0.heap.size w0 (w0.alloc (.cells #[.int .i64 (k : Int)] 3)) := (Below.refl _ _).alloc (Nat.le_refl _) _
  have h' := hb.later hbl
  obtain ⟨v', w', hr, h2, h3, _, _⟩ := run_append_own_at (P := Try.prog) (w0.alloc (.cells #[.int .i64 (k : Int)] 3)) w.heap.size 45 o.type 3 i0 (.int .i64 0) 1 8 Try.underlying45 hi hz0 hz1 hz2 rfl (by decide) v D.length (iv D) h'.own ⟨w0.heap.size, 0, none⟩ 1 1 [.int .i64 (k : Int)] rfl
    (by
      intro j u hj
      match j, hj with
      | 0, hj => simp at hj; subst hj; simp [Addr.add]
      | (j + 1), hj => simp at hj)
    (by
      intro u hu
      simp at hu
      subst hu
      rfl)
    (by unfold maxLen; omega) (by omega) h'.bel.size
  unfold Oper.wp execOp
  simp only [ho, resolve, invoke, builtin, Sem.run_bind, Sem.run_pure, Result.andThen_ok, List.map_toArray, List.map_cons, List.map_nil, hs, hx, hr]
  refine hK _ _ (h v' w' ⟨?_, h'.bel.grown h3 h'.bel.size fun k hk => (h'.own.lt k hk).1⟩)
  rw [List.length_append, show iv (D ++ [k]) = iv D ++ [.int .i64 (k : Int)] by simp [iv]]
  exact h2

set_option maxHeartbeats 4000000 in
set_option maxRecDepth 100000 in
theorem differ_told {B p B2 p2 : Nat} {v v2 : Value} {Z Z2 : List SZ} {A A2 : List Snap} {w : World} (h : Cat B p v Z w) (h2 : Cat B2 p2 v2 Z2 w) (e1 : Z.map snapOf = A) (e2 : Z2.map snapOf = A2) (hI : Inv A) (hI2 : Inv A2) :
    Calls Try.prog 18 #[.pointer (some ⟨p, 0, none⟩), .pointer (some ⟨p2, 0, none⟩)] w fun e w' => ∃ v', e = .returned (.tuple #[v', .nilIface]) ∧ Hid (∃ w0, Ir w0 w' v' (difL A A2 8) ∧ Below w.heap.size w w0) := by
  have HP2 : Hid (Calls _ _ _ _ _) := partsOf_any h2 (by rw [e2]; exact hI2)
  rw [e2] at HP2
  have HC : Hid (Cat B p v Z w ∧ Z.map snapOf = A) := ⟨h, e1⟩
  have HI : Hid (Inv A ∧ Inv A2) := ⟨hI, hI2⟩
  clear h h2 hI hI2 e1 e2
  go_enter Try.func18, Try.ntmps18
  go_wp2_with fail
  refine HP2.out.mono ?_
  rintro e w1 ⟨v1, rfl, hs1⟩
  have HP1 : Hid (Calls _ _ _ _ _) := partsOf_any (HC.out.1.below hs1.2.1) (by rw [HC.out.2]; exact HI.out.1)
  rw [HC.out.2] at HP1
  obtain ⟨g1, c1, rfl, -, -, -, -, hc1⟩ := hs1.formN (n := 8) (parts_len _).symm (by omega)
  have HK1 : Hid (∀ j, j < 8 → w1.cell? ⟨g1, j, none⟩ = some (.string ((partsL A2).getD j ByteArray.empty))) := fun j hj => hc1 j (by rw [parts_len]; exact hj)
  have HB1 : Hid (Below w.heap.size w w1) := hs1.2.1
  clear hs1 hc1 HP2 HC
  go_wp2_with fail
  refine HP1.out.mono ?_
  rintro e w2 ⟨v3, rfl, hs2⟩
  obtain ⟨g2, c2, rfl, -, -, -, -, hc2⟩ := hs2.formN (n := 8) (parts_len _).symm (by omega)
  have HK2 : Hid (∀ j, j < 8 → w2.cell? ⟨g1, j, none⟩ = some (.string ⟨(encI (ownS j A2)).toArray⟩) ∧ w2.cell? ⟨g2, j, none⟩ = some (.string ⟨(encI (ownS j A)).toArray⟩)) := fun j hj => by
    have q1 := cell_below hs2.2.1 (Nat.le_refl _) (HK1.out j hj)
    have q2 := hc2 j (by rw [parts_len]; exact hj)
    rw [show (partsL A2).getD j ByteArray.empty = ⟨(encI (ownS j A2)).toArray⟩ by simp [partsL, List.getD_eq_getElem?_getD, hj]] at q1
    rw [show (partsL A).getD j ByteArray.empty = ⟨(encI (ownS j A)).toArray⟩ by simp [partsL, List.getD_eq_getElem?_getD, hj]] at q2
    exact ⟨q1, q2⟩
  have HB2 : Hid (Below w.heap.size w w2) := HB1.out.trans (hs2.2.1.mono HB1.out.size)
  clear hs2 hc2 HP1 HK1 HB1
  go_wp2
  go_loopw [7, 22] (fun t7 t22 wr => ∃ j : Nat, t22 = .int .i64 (j : Int) ∧ j ≤ 8 ∧ Hid (Ir w2 wr t7 (difL A A2 j))) (fun _ t22 _ => 8 - (intOf t22).toNat)
  case atStart => exact ⟨0, rfl, Nat.zero_le _, World.ownsRow_nil _ _ _ _, Below.refl _ _⟩
  case round =>
    obtain ⟨j, rfl, hj, HR⟩ := hrel
    by_cases hj8 : j < 8
    · obtain ⟨k1, k2⟩ := HK2.out j hj8
      have k1 := cell_below HR.out.bel (Nat.le_refl _) k1
      have k2 := cell_below HR.out.bel (Nat.le_refl _) k2
      have HDL : Hid ((difL A A2 j).length + 1 ≤ 1000000) := by have := difL_len A A2 j; show _ ≤ _; omega
      by_cases he : encI (ownS j A) = encI (ownS j A2)
      · have HD : Hid (difL A A2 (j + 1) = difL A A2 j) := difL_same he
        rw [← he] at k1
        generalize (⟨(encI (ownS j A)).toArray⟩ : ByteArray) = s at k1 k2
        clear HK2 he
        go_wp2
        go_roundw
        case rel => exact ⟨j + 1, by go_num, by omega, by rw [HD.out]; exact HR⟩
        case measure => simp [intOf]; omega
      · have HD : Hid (difL A A2 (j + 1) = difL A A2 j ++ [j]) := difL_not he
        have hne : ((⟨(encI (ownS j A)).toArray⟩ : ByteArray).toList == (⟨(encI (ownS j A2)).toArray⟩ : ByteArray).toList) = false := by
          rw [str_eq]; exact decide_eq_false fun q => he (part_inj q)
        generalize (⟨(encI (ownS j A)).toArray⟩ : ByteArray) = s at k2 hne
        generalize (⟨(encI (ownS j A2)).toArray⟩ : ByteArray) = s2 at k1 hne
        clear HK2 he
        go_wp2_with (at_builtin; refine wpList_int rfl (.tmp 33) (.tmp 35) rfl rfl HR.out rfl HDL.out ?_; intro v' w4 hb4)
        go_roundw
        case rel => exact ⟨j + 1, by go_num, by omega, by rw [HD.out]; exact hb4⟩
        case measure => simp [intOf]; omega
    · have hje : j = 8 := by omega
      subst hje
      go_wp2
      go_ret2
      exact ⟨_, rfl, w2, HR.out, HB2.out⟩
end Go.Proofs.Ytlpgdfdadkljfaa.Img
