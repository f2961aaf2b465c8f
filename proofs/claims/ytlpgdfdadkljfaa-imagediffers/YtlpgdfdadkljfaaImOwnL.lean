/-
  The reference's Own, of any snapshots that lie.
-/
import Derived.Test.YtlpgdfdadkljfaaImPut
namespace Go.Proofs.Ytlpgdfdadkljfaa.Img
open Go.RowKit Route Tree Order Cat

theorem ownS_snoc (c : Nat) (S : List Snap) (s : Snap) : S.filter (fun s => decide (s.1 = (c : Int))) ++ [s].filter (fun s => decide (s.1 = (c : Int))) = (S ++ [s]).filter fun s => decide (s.1 = (c : Int)) := by rw [List.filter_append]

/-- A snapshot, and its row of entries as it lies. -/
abbrev SV := Snap × Value
def svc (z : SV) : List Value := [.int .i64 z.1.1, .string z.1.2.1, .bool z.1.2.2.1, z.2]
def svs (Z : List SV) : List Value := Z.flatMap svc
def svAt (Z : List SV) (j : Nat) : SV := Z.getD j (noSnap, .nilIface)
theorem svs_len (Z : List SV) : (svs Z).length = Z.length * 4 := by
  induction Z with
  | nil => rfl
  | cons z Z ih => simp only [svs, List.flatMap_cons, List.length_append, List.length_cons] at *; rw [ih]; simp [svc]; omega
theorem svs_at : ∀ (Z : List SV) (j c : Nat), j < Z.length → c < 4 → (svs Z)[j * 4 + c]? = (svc (svAt Z j))[c]?
  | [], j, c, h, _ => by simp at h
  | z :: Z, 0, c, _, hc => by
    have e : svs (z :: Z) = svc z ++ svs Z := by simp [svs]
    rw [e, Nat.zero_mul, Nat.zero_add, List.getElem?_append_left (by simp [svc]; omega)]
    rfl
  | z :: Z, j + 1, c, h, hc => by
    have e : svs (z :: Z) = svc z ++ svs Z := by simp [svs]
    rw [e, List.getElem?_append_right (by simp [svc]; omega)]
    have e2 : (j + 1) * 4 + c - (svc z).length = j * 4 + c := by simp [svc]; omega
    rw [e2, svs_at Z j c (by simpa using h) hc]
    rfl

def Fin4 (w : World) (z : SV) : Prop := ∃ ea ec, z.2 = .slice ea z.1.2.2.2.length ec ∧ z.1.2.2.2.length ≤ ec ∧ (ea = none → ec = 0) ∧ LiesE w ea z.1.2.2.2

/-- Own's row so far. -/
structure Oz (w W : World) (v : Value) (Z : List SV) : Prop where
  own : W.ownsRow w.heap.size 52 4 v Z.length (svs Z)
  bel : Below w.heap.size w W
  fin : ∀ z ∈ Z, Fin4 w z
theorem Oz.later {w W W' : World} {v : Value} {Z : List SV} (h : Oz w W v Z) (hb : Below W.heap.size W W') : Oz w W' v Z :=
  ⟨own30_later h.own hb, h.bel.trans (hb.mono h.bel.size), h.fin⟩
theorem Oz.lies {w W : World} {v : Value} {Z : List SV} (h : Oz w W v Z) : ∃ a cap, v = .slice a Z.length cap ∧ LiesN W a (Z.map (·.1)) := by
  rcases h.own.2 with ⟨rfl, h0⟩ | ⟨g, cap, cur, rfl, _, _, hc, hm, _⟩
  · have e0 : Z = [] := List.eq_nil_of_length_eq_zero h0
    subst e0
    exact ⟨none, 0, rfl, .inl rfl⟩
  · refine ⟨_, cap, rfl, .inr ⟨_, rfl, fun j hj => ?_⟩⟩
    have hj' : j < Z.length := by simpa using hj
    have ea : ∀ m, (⟨g, 0, none⟩ : Addr).add m = ⟨g, m, none⟩ := fun m => by unfold Addr.add; split <;> simp_all
    have hc := fun c (hc : c < 4) => (h.own.cellAt (j * 4 + c) (by omega)).trans (svs_at Z j c hj' hc)
    have hz := h.fin (svAt Z j) (by simp [svAt, List.getD_eq_getElem?_getD, hj'])
    obtain ⟨a, cap', e1, e2, e3, e4⟩ := hz
    have es : snapAt (Z.map (·.1)) j = (svAt Z j).1 := by simp [snapAt, svAt, List.getD_eq_getElem?_getD, hj']
    rw [ea, es]
    refine ⟨hc 0 (by decide), hc 1 (by decide), hc 2 (by decide), a, cap', ?_, e2, e3, e4.below h.bel (Nat.le_refl _)⟩
    rw [← e1]
    exact hc 3 (by decide)

theorem wpList_sv {ops : Array Oper} {rest : List Oper} {o : Oper} {a : Act} {Q : Exit → Act → World → Prop} (hgd : o.guard = none) (s x : Operand)
    (ho : o.op = .call { callee := .builtin .append, args := #[s, x], argTypes := #[22, 22] })
    {w w0 : World} {v : Value} {Y : List SV} {c : Int} {nm : ByteArray} {d : Bool} {E : List Ent} {u : Value} (hs : a.eval s = v) (hb : Oz w w0 v Y) (hone : u.oneCell' = true) (hf : Fin4 w ((c, nm, d, E), u))
    (hx : a.eval x = .slice (some ⟨w0.heap.size, 0, none⟩) 1 1) (hlen : Y.length + 1 ≤ 1000000)
    (h : ∀ v' w', Hid (Oz w w' v' (Y ++ [((c, nm, d, E), u)])) → wpList Try.prog ops Q rest (a.put o.dst v') w') : wpList Try.prog ops Q (o :: rest) a (w0.alloc (.cells #[.int .i64 c, .string nm, .bool d, u] 52)) := by
  refine wpList_plain hgd fun K hK => ?_
  obtain ⟨i0, hi, hz0, hz1, hz2⟩ := info_parts info52
  have hbl : Below w0.heap.size w0 (w0.alloc (.cells #[.int .i64 c, .string nm, .bool d, u] 52)) := (Below.refl _ _).alloc (Nat.le_refl _) _
  have h' := hb.later hbl
  obtain ⟨v', w', hr, h2, h3, _, _⟩ := run_append_own_at (P := Try.prog) (w0.alloc (.cells #[.int .i64 c, .string nm, .bool d, u] 52)) w.heap.size 22 o.type 52 i0 (.agg #[.int .i64 0, .string ByteArray.empty, .bool false, .slice none 0 0]) 4 56 Try.underlying22 hi hz0 hz1 hz2 rfl (by decide) v Y.length (svs Y) h'.own ⟨w0.heap.size, 0, none⟩ 1 1 [.int .i64 c, .string nm, .bool d, u] rfl
    (by
      intro j u hj
      match j, hj with
      | 0, hj => simp at hj; subst hj; simp [Addr.add]
      | 1, hj => simp at hj; subst hj; simp [Addr.add]
      | 2, hj => simp at hj; subst hj; simp [Addr.add]
      | 3, hj => simp at hj; subst hj; simp [Addr.add]
      | (j + 4), hj => simp at hj)
    (by
      intro u hu
      simp at hu
      rcases hu with rfl | rfl | rfl | rfl
      · rfl
      · rfl
      · rfl
      · exact hone)
    (by unfold maxLen; omega) (by omega) h'.bel.size
  unfold Oper.wp execOp
  simp only [ho, resolve, invoke, builtin, Sem.run_bind, Sem.run_pure, Result.andThen_ok, List.map_toArray, List.map_cons, List.map_nil, hs, hx, hr]
  refine hK _ _ (h v' w' ⟨?_, h'.bel.grown h3 h'.bel.size fun k hk => (h'.own.lt k hk).1, fun z hz => ?_⟩)
  · rw [List.length_append, show svs (Y ++ [((c, nm, d, E), u)]) = svs Y ++ [.int .i64 c, .string nm, .bool d, u] by simp [svs, svc]]
    exact h2
  · rcases List.mem_append.1 hz with hz | hz
    · exact hb.fin z hz
    · rw [List.mem_singleton.1 hz]; exact hf

set_option maxHeartbeats 2000000 in
set_option maxRecDepth 100000 in
theorem own_lies {a : Option Addr} {n cap : Nat} {S : List Snap} {w : World} (c : Nat) (hl : LiesN w a S) (hn : n = S.length) (hm : n ≤ 1000) :
    Calls Try.prog 13 #[.slice a n cap, .int .i64 (c : Int)] w fun e w' => ∃ a' n' c', e = .returned (.slice a' n' c') ∧ Hid (n' = (S.filter fun s => decide (s.1 = (c : Int))).length ∧ LiesN w' a' (S.filter fun s => decide (s.1 = (c : Int))) ∧ Below w.heap.size w w') := by
  have HN : Hid (n = S.length) := hn
  have HL : Hid (LiesN w a S) := hl
  have HO : Hid (∃ Y : List SV, Oz w w (.slice none 0 0) Y ∧ Y.map (·.1) = (S.take 0).filter fun s => decide (s.1 = (c : Int))) := ⟨[], ⟨World.ownsRow_nil _ _ _ _, Below.refl _ _, fun z hz => by cases hz⟩, by simp⟩
  clear hl hn
  go_enter Try.func13, Try.ntmps13
  go_wp2
  go_loopw [5, 6] (fun t5 t6 wr => ∃ j : Nat, t6 = .int .i64 (j : Int) ∧ j ≤ n ∧ Hid (∃ Y : List SV, Oz w wr t5 Y ∧ Y.map (·.1) = (S.take j).filter fun s => decide (s.1 = (c : Int)))) (fun _ t6 _ => n - (intOf t6).toNat)
  case atStart => exact ⟨0, rfl, Nat.zero_le _, HO⟩
  case round =>
    obtain ⟨j, rfl, hj, HQ⟩ := hrel
    clear HO
    obtain ⟨Y, hY, hYm⟩ := HQ.out
    have HY : Hid (Oz w wr u5 Y) := hY
    have HYM : Hid (Y.map (·.1) = (S.take j).filter fun s => decide (s.1 = (c : Int))) := hYm
    clear HQ hY hYm
    by_cases hjn : j < n
    · have hjs : j < S.length := by rw [← HN.out]; exact hjn
      obtain ⟨x, hx, hsi⟩ := HL.out.at (j := j) hjs
      subst hx
      have hsi2 := hsi
      obtain ⟨-, -, -, ea, ec, g3', q1, q2, q3⟩ := hsi2
      obtain ⟨g0, g1, g2, ea', ec', g3, -, -, -⟩ := hsi.below HY.out.bel (Nat.le_refl _)
      have e3 := (cell_below HY.out.bel (Nat.le_refl _) g3').symm.trans g3
      simp only [Option.some.injEq, Value.slice.injEq] at e3
      obtain ⟨rfl, -, rfl⟩ := e3
      have hix := index_snap x n cap j hjn
      generalize x.add (j * 4) = q at g0 g1 g2 g3 hix
      have hst : (S.take (j + 1)).filter (fun s => decide (s.1 = (c : Int))) = (S.take j).filter (fun s => decide (s.1 = (c : Int))) ++ [snapAt S j].filter fun s => decide (s.1 = (c : Int)) := by
        rw [ownS_snoc, List.take_succ_eq_append_getElem hjs, snapAt_get hjs]
      have HYL : Hid (Y.length + 1 ≤ 1000000) := by
        have h1 := congrArg List.length HYM.out
        rw [List.length_map] at h1
        have h2 := List.length_filter_le (fun s : Snap => decide (s.1 = (c : Int))) (S.take j)
        rw [List.length_take] at h2
        show _ ≤ _
        omega
      generalize snapAt S j = s at g0 g1 g2 g3 q1 q3 hst
      obtain ⟨cl, nm, d, E⟩ := s
      simp only at g0 g1 g2 g3 q1 q3
      obtain ⟨en, hen⟩ : ∃ en, en = E.length := ⟨_, rfl⟩
      rw [← hen] at g3 q1
      have HFI : Hid (Fin4 w ((cl, nm, d, E), .slice ea en ec)) := ⟨ea, ec, by rw [hen], by rw [← hen]; exact q1, q2, q3⟩
      clear hsi q1 q2 q3 g3' hen
      by_cases hcl : cl = (c : Int)
      · subst hcl
        have HS1 : Hid ((S.take (j + 1)).filter (fun s => decide (s.1 = (c : Int))) = (S.take j).filter (fun s => decide (s.1 = (c : Int))) ++ [((c : Int), nm, d, E)]) := by rw [hst, List.filter_cons_of_pos (by simp)]; rfl
        clear hst
        go_wp2_with (at_builtin; refine wpList_sv rfl (.tmp 20) (.tmp 25) rfl rfl HY.out rfl HFI.out rfl HYL.out ?_; intro v' w4 hb4)
        go_roundw
        case rel => exact ⟨j + 1, by go_num, by omega, _, hb4.out, by rw [HS1.out, List.map_append, HYM.out]; rfl⟩
        case measure => simp [intOf]; omega
      · have HS1 : Hid ((S.take (j + 1)).filter (fun s => decide (s.1 = (c : Int))) = (S.take j).filter (fun s => decide (s.1 = (c : Int)))) := by
          have e0 : [((cl, nm, d, E) : Snap)].filter (fun s => decide (s.1 = (c : Int))) = [] := by simp [List.filter, hcl]
          show _ = _
          rw [hst, e0, List.append_nil]
        clear hst
        go_wp2
        go_roundw
        case rel => exact ⟨j + 1, by go_num, by omega, Y, HY.out, by rw [HS1.out]; exact HYM.out⟩
        case measure => simp [intOf]; omega
    · obtain ⟨a2, c2, rfl, hl2⟩ := HY.out.lies
      have hYS : Y.map (·.1) = S.filter fun s => decide (s.1 = (c : Int)) := by
        rw [HYM.out, List.take_of_length_le (by rw [← HN.out]; omega)]
      rw [hYS] at hl2
      have HF : Hid (Y.length = (S.filter fun s => decide (s.1 = (c : Int))).length ∧ LiesN wr a2 (S.filter fun s => decide (s.1 = (c : Int))) ∧ Below w.heap.size w wr) := ⟨by rw [← hYS, List.length_map], hl2, HY.out.bel⟩
      clear hl2 hYS HYM HY
      go_wp2
      go_ret
      exact ⟨_, _, _, rfl, HF⟩
end Go.Proofs.Ytlpgdfdadkljfaa.Img
