/-
  The contract of Winner: who has won, or nobody.
-/
import Derived.Test.YtimacmimibpgpaaVtWho
namespace Go.Proofs.Ytimacmimibpgpaa.Vote
open Go.RowKit Go.Maps Go.ChangeMaps

theorem clone_any (s : ByteArray) (w : World) (hs : s.size ≤ 281474976710656) :
    Calls Try.prog 16 #[.string s] w fun e w' => e = .returned (.string s) ∧ Below w.heap.size w w' := by
  go_enter Try.func16, Try.ntmps16
  go_wp2_with fail
  refine (Try.stringslite_Clone s w hs).mono ?_
  rintro e w' ⟨rfl, hb⟩
  go_wp2
  go_ret
  exact ⟨rfl, hb⟩

theorem winner_no (a : Option Addr) (n cap : Nat) (need : Int) (w : World) (h : need < 1) :
    Calls Try.prog 11 #[.slice a n cap, .int .i64 need] w fun e w' => e = .returned (.tuple #[.string ByteArray.empty, .bool false]) ∧ w' = w := by
  go_enter Try.func11, Try.ntmps11
  go_wp2
  go_ret2
  exact ⟨rfl, rfl⟩

theorem VSet.old {w : World} {m n : Nat} {S : List Vt} {v : Vt} (h : VSet w m n S) (hv : v ∈ S) : VSet w m (n + 1) (S ++ [v]) := by
  obtain ⟨D, h1, h2, h3⟩ := h
  refine ⟨D, h1.mono (Nat.le_succ _), h2, fun u hu => ?_⟩
  rw [h3 u hu, List.mem_append, List.mem_singleton]
  constructor
  · exact .inl
  · rintro (h | rfl)
    · exact h
    · exact hv
theorem keyVLit (v : Vt) : WideAt.IsKeyLit (keyV v) := by trivial
theorem keyLLit (s : ByteArray) : WideAt.IsKeyLit (keyL s) := by trivial
theorem VSet.new {D : DataW Unit} {S : List Vt} {v : Vt} (hv : VOk v) (h2 : IsMap D) (h3 : ∀ u, VOk u → (has D (keyV u) = true ↔ u ∈ S)) (u : Vt) (hu : VOk u) : has (D.put (keyV v) (.agg [])) (keyV u) = true ↔ u ∈ S ++ [v] := by
  rw [List.mem_append, List.mem_singleton]
  by_cases e : u = v
  · subst e
    rw [has_put_same h2 (keyVLit u)]
    simp
  · rw [has_put_other (fun e2 => e (keyV_inj hu hv e2)), h3 u hu]
    simp [e]
theorem VCnt.mono {w : World} {m n n' : Nat} {f g : ByteArray → Nat} (h : VCnt w m n f) (hn : n ≤ n') (hf : ∀ t, g t = f t) : VCnt w m n' g := by
  obtain ⟨D, h1, h2, h3⟩ := h
  exact ⟨D, h1.mono hn, h2, fun t => by rw [h3, hf]⟩

theorem box_world (w : World) (o p : Obj) : ((w.alloc o).alloc p).heap[w.heap.size]? = some o := by
  rw [Below.heap_alloc _ _ _ (by simp)]
  exact (MapKept.heap_alloc w o).1

set_option maxHeartbeats 1000000 in
set_option maxRecDepth 100000 in
theorem winner_any (a : Option Addr) (n cap : Nat) (l : List Vt) (need : Int) (w : World) (h : VGiven w a n l) (hn1 : 1 ≤ need) :
    Calls Try.prog 11 #[.slice a n cap, .int .i64 need] w fun e w' => (∃ x ok, e = .returned (.tuple #[.string x, .bool ok]) ∧ Hid (Win l need x ok)) ∧ Below w.heap.size w w' := by
  have hmm := @run_makeMap Try.prog
  have HG : Hid (VGiven w a n l) := h
  have hnm := h.few
  clear h
  go_enter Try.func11, Try.ntmps11
  go_wp2
  go_loopw [4, 5, 9, 10, 11, 18] (fun t4 t5 _ _ _ t18 wr => ∃ (i : Nat), t4 = .string ⟨#[]⟩ ∧ t5 = .bool false ∧ t18 = .int .i64 (i : Int) ∧ i ≤ n ∧ Hid (VSet wr w.heap.size i (l.take i)) ∧ Hid (VCnt wr (w.heap.size + 1) i fun t => cnt (l.take i) t) ∧ Hid (Below w.heap.size w wr) ∧ Hid (∀ t, (cnt (l.take i) t : Int) < need)) (fun _ _ _ _ _ t18 _ => n - (intOf t18).toNat)
  case atStart =>
    refine ⟨0, rfl, rfl, rfl, Nat.zero_le _, ?_, ?_, ((Below.refl _ _).alloc (Nat.le_refl _) _).alloc (by simp) _, fun t => ?_⟩
    · exact (VSet.made w).keep (Below.heap_alloc _ _ _ (by simp))
    · have := VCnt.made (w.alloc (.map #[] 0))
      simp at this
      exact this
    · rw [List.take_zero]; show ((0 : Nat) : Int) < need; omega
  case round =>
    obtain ⟨i, rfl, rfl, rfl, hi, HS, HC, HB, HF⟩ := hrel
    by_cases hin : i < n
    · have hil : i < l.length := by rw [← HG.out.len]; exact hin
      obtain ⟨x, hx, h0, h1⟩ := (HG.out.lies.below HB.out).at (j := i) hil
      subst hx
      have HT : Hid (l.take (i + 1) = l.take i ++ [vtAt l i]) := take_snoc hil
      have HK := HG.out.ok _ (vt_mem hil)
      have HW : Hid (∀ k0 : Nat, cnt (l.take i) (vtAt l i).2 = k0 → need ≤ (k0 : Int) + 1 → vtAt l i ∉ l.take i → Win l need (vtAt l i).2 true) := fun k0 hk hle hnm => .inl ⟨rfl, i, hil, HF.out, by rw [HT.out, cnt_new hnm, hk]; omega, rfl⟩
      generalize vtAt l i = v at h0 h1 HT HK HW
      obtain ⟨f, s⟩ := v
      simp only at h0 h1 HW
      have hix := index_vote x n cap i hin
      generalize x.add (i * 2) = q at h0 h1 hix
      have hld := load_vote q (.int .i64 f) (.string s) wr h0 h1
      have hkey : keyOf Try.prog 31 (.agg #[.int .i64 f, .string s]) = some (keyV (f, s)) := keyV_ok HK
      have hkey9 := keyL_ok (show s.size ≤ maxLen by have := HK.2; unfold maxLen; simp only at this; omega)
      obtain ⟨D, hD, hM, hH⟩ := HS.out
      have HDM : Hid (IsMap D ∧ ∀ u, VOk u → (has D (keyV u) = true ↔ u ∈ l.take i)) := ⟨hM, hH⟩
      have hhas := hH _ HK
      clear hM hH
      by_cases hm : ((f, s) : Vt) ∈ l.take i
      · have hb : has D (keyV (f, s)) = true := hhas.2 hm
        have HC2 : Hid (VCnt wr (w.heap.size + 1) (i + 1) fun t => cnt (l.take (i + 1)) t) := HC.out.mono (Nat.le_succ _) fun t => by rw [HT.out, cnt_old hm]
        have HS2 : Hid (VSet wr w.heap.size (i + 1) (l.take (i + 1))) := by show VSet _ _ _ _; rw [HT.out]; exact HS.out.old hm
        have HF2 : Hid (∀ t, (cnt (l.take (i + 1)) t : Int) < need) := fun t => by rw [HT.out, cnt_old hm]; exact HF.out t
        clear hhas hm HC HS HF HT HW hkey9 HDM
        go_wp2_with (at_lookup; refine wpList_lookup_own_unit _ rfl _ _ 40 rfl 31 42 keyed31 Try.underlying40 (zero42 _) w.heap.size i D rfl (hD.alloc _) _ _ rfl hkey ?_; rw [hb])
        go_roundw
        case rel =>
          have hba : Below wr.heap.size wr ((wr.alloc (.cells #[.int .i64 f, .string s] 31)).alloc (.cells #[] 42)) := ((Below.refl _ _).alloc (Nat.le_refl _) _).alloc (by simp) _
          exact ⟨i + 1, rfl, rfl, by go_num, by omega, HS2.out.keep (hba.block _ HS2.out.lt), HC2.out.keep (hba.block _ HC2.out.lt), HB.out.trans (hba.mono HB.out.size), HF2⟩
        case measure => simp [intOf]; omega
      · have hb : has D (keyV (f, s)) = false := by
          cases e : has D (keyV (f, s)) with
          | false => rfl
          | true => exact absurd (hhas.1 e) hm
        have HNM : Hid (((f, s) : Vt) ∉ l.take i) := hm
        obtain ⟨DC, hDC, hMC, hHC⟩ := HC.out
        have HCM : Hid (IsMap DC ∧ ∀ t, DC.atKey (keyL t) (.lit (.int .i64 0)) = .lit (.int .i64 (cnt (l.take i) t : Int))) := ⟨hMC, hHC⟩
        obtain ⟨k0, hk0⟩ : ∃ k0, k0 = cnt (l.take i) s := ⟨_, rfl⟩
        have HK0 : Hid (cnt (l.take i) s = k0) := hk0.symm
        have hk0i : k0 ≤ 1000000 := by
          have := who_len (l.take i) s
          rw [List.length_take] at this
          have h3 : k0 ≤ min i l.length := by rw [hk0]; exact this
          omega
        have hat0 : DC.atKey (keyL s) (.lit (.int .i64 0)) = .lit (.int .i64 (k0 : Int)) := by rw [hHC, hk0]
        have HNE : Hid (w.heap.size + 1 < wr.heap.size) := HC.out.lt
        clear hhas hm hk0 hMC hHC HC HS
        have hs48 : s.size ≤ 281474976710656 := HK.2
        have HK2 : Hid (VOk (f, s)) := HK
        obtain ⟨W, hW⟩ : ∃ W, W = (wr.alloc (.cells #[.int .i64 f, .string s] 31)).alloc (.cells #[] 42) := ⟨_, rfl⟩
        have hwS : W.heap[wr.heap.size]? = some (.cells #[.int .i64 f, .string s] 31) := by rw [hW]; exact box_world _ _ _
        have hwZ : W.heap.size = wr.heap.size + 2 := by rw [hW]; simp
        have HX2 : Hid (∀ w2, World.grownBy ((wr.alloc (.cells #[.int .i64 f, .string s] 31)).alloc (.cells #[] 42)) w2 (some w.heap.size) → w2.cell? ⟨wr.heap.size, 1, none⟩ = some (.string s)) := fun w2 hg => by
          rw [← hW] at hg
          have hb := hg.block wr.heap.size (by omega) (fun e => by have := HNE.out; have := Option.some.inj e; omega)
          simp [World.cell?, hb, hwS]
        have HX3 : Hid (∀ w2 w3, World.grownBy ((wr.alloc (.cells #[.int .i64 f, .string s] 31)).alloc (.cells #[] 42)) w2 (some w.heap.size) → w2.grownBy w3 (some (w.heap.size + 1)) → w3.cell? ⟨wr.heap.size, 1, none⟩ = some (.string s)) := fun w2 w3 hg hg3 => by
          rw [← hW] at hg
          have hb := hg.block wr.heap.size (by omega) (fun e => by have := HNE.out; have := Option.some.inj e; omega)
          have hb3 := hg3.block wr.heap.size (by have := hg.size; omega) (fun e => by have := HNE.out; have := Option.some.inj e; omega)
          simp [World.cell?, hb3, hb, hwS]
        have HC0 : Hid (∀ c, DC.atKey (keyL s) (.lit (.int .i64 0)) = .lit (.int .i64 c) → (k0 : Int) = c) := fun c h => by
          rw [hat0] at h
          simpa using h
        have HC1 : Hid (∀ c, (DC.put (keyL s) (.lit (.int .i64 ((k0 : Int) + 1)))).atKey (keyL s) (.lit (.int .i64 0)) = .lit (.int .i64 c) → (k0 : Int) + 1 = c) := fun c h => by
          rw [atKey_put_same HCM.out.1 (keyLLit s)] at h
          simpa using h
        have HBX : Hid (∀ w2 w3, World.grownBy ((wr.alloc (.cells #[.int .i64 f, .string s] 31)).alloc (.cells #[] 42)) w2 (some w.heap.size) → w2.grownBy w3 (some (w.heap.size + 1)) → Below w.heap.size w w3) := fun w2 w3 hg hg3 => by
          have hb : Below w.heap.size w ((wr.alloc (.cells #[.int .i64 f, .string s] 31)).alloc (.cells #[] 42)) := HB.out.trans ((((Below.refl _ _).alloc (Nat.le_refl _) _).alloc (by simp) _).mono HB.out.size)
          have hb2 := hb.grown hg hb.size (fun k hk => by cases hk; exact Nat.le_refl _)
          exact hb2.grown hg3 hb2.size (fun k hk => by cases hk; exact Nat.le_succ _)
        clear hat0 hwS hwZ hW
        by_cases hneed : need = (k0 : Int) + 1
        · subst hneed
          have HWI : Hid (Win l ((k0 : Int) + 1) s true) := HW.out k0 HK0.out (Int.le_refl _) HNM.out
          clear HW HF HDM HCM HK0 HNM HT HK
          go_wp2_with (first
          | (at_lookup; refine wpList_lookup_own_unit _ rfl _ _ 40 rfl 31 42 keyed31 Try.underlying40 (zero42 _) w.heap.size i D rfl (hD.alloc _) _ _ rfl hkey ?_; rw [hb])
          | (at_mapUpdate; refine wpList_mapUpdate_own _ rfl _ _ _ 40 rfl 31 42 keyed31 Try.underlying40 (unitElem (H := Unit)) w.heap.size i D rfl ((hD.alloc _).alloc _) (by unfold maxLen; omega) _ _ _ rfl rfl hkey _ [] unitElem_mk ?_; intro w2 hown2 hgrow2; have g1 := HX2.out w2 hgrow2; have hDC2 := ((hDC.alloc (.cells #[.int .i64 f, .string s] 31)).alloc (.cells #[] 42)).kept hgrow2 (by simp))
          | (at_lookup; refine wpList_lookup_own_int _ rfl _ _ 41 rfl 9 3 .i64 keyed9 Try.underlying41 Try.underlying3 (zero3 _) (w.heap.size + 1) i DC rfl hDC2 _ _ rfl hkey9 ?_; intro c hat hwc; have hc := HC0.out c hat; subst hc)
          | (at_mapUpdate; refine wpList_mapUpdate_own _ rfl _ _ _ 41 rfl 9 3 keyed9 Try.underlying41 (plainElem Try.prog 3) (w.heap.size + 1) i DC rfl hDC2 (by unfold maxLen; omega) _ _ _ rfl rfl hkey9 _ [] (plainElem_int Try.underlying3 (WalkArith.wf_i64 (by omega))) ?_; intro w3 hown3 hgrow3; have g3 := HX3.out w2 w3 hgrow2 hgrow3)
          | (at_lookup; refine wpList_lookup_own_int _ rfl _ _ 41 rfl 9 3 .i64 keyed9 Try.underlying41 Try.underlying3 (zero3 _) (w.heap.size + 1) (i + 1) _ rfl hown3 _ _ rfl hkey9 ?_; intro c2 hat2 hwc2; have hc2 := HC1.out c2 hat2; subst hc2)
          | (go_at_call 16; refine (clone_any s _ hs48).mono ?_; rintro e w4 ⟨rfl, hb4⟩))
          go_ret2
          exact ⟨⟨_, _, rfl, HWI.out⟩, (HBX.out w2 w3 hgrow2 hgrow3).trans (hb4.mono (HBX.out w2 w3 hgrow2 hgrow3).size)⟩
        · have hne : (((k0 : Int) + 1) == need) = false := by simp; omega
          have HF2 : Hid (∀ t, (cnt (l.take (i + 1)) t : Int) < need) := few_next hil HF.out (by
            have e : vtAt l i = (f, s) := by
              have := HT.out
              rw [take_snoc hil] at this
              exact (List.append_cancel_left this : [vtAt l i] = [(f, s)]) |> List.cons.inj |>.1
            rw [HT.out, e, cnt_new HNM.out, HK0.out]
            have h1 := HF.out s
            rw [HK0.out] at h1
            omega)
          clear HW HK
          go_wp2_with (first
          | (at_lookup; refine wpList_lookup_own_unit _ rfl _ _ 40 rfl 31 42 keyed31 Try.underlying40 (zero42 _) w.heap.size i D rfl (hD.alloc _) _ _ rfl hkey ?_; rw [hb])
          | (at_mapUpdate; refine wpList_mapUpdate_own _ rfl _ _ _ 40 rfl 31 42 keyed31 Try.underlying40 (unitElem (H := Unit)) w.heap.size i D rfl ((hD.alloc _).alloc _) (by unfold maxLen; omega) _ _ _ rfl rfl hkey _ [] unitElem_mk ?_; intro w2 hown2 hgrow2; have g1 := HX2.out w2 hgrow2; have hDC2 := ((hDC.alloc (.cells #[.int .i64 f, .string s] 31)).alloc (.cells #[] 42)).kept hgrow2 (by simp))
          | (at_lookup; refine wpList_lookup_own_int _ rfl _ _ 41 rfl 9 3 .i64 keyed9 Try.underlying41 Try.underlying3 (zero3 _) (w.heap.size + 1) i DC rfl hDC2 _ _ rfl hkey9 ?_; intro c hat hwc; have hc := HC0.out c hat; subst hc)
          | (at_mapUpdate; refine wpList_mapUpdate_own _ rfl _ _ _ 41 rfl 9 3 keyed9 Try.underlying41 (plainElem Try.prog 3) (w.heap.size + 1) i DC rfl hDC2 (by unfold maxLen; omega) _ _ _ rfl rfl hkey9 _ [] (plainElem_int Try.underlying3 (WalkArith.wf_i64 (by omega))) ?_; intro w3 hown3 hgrow3; have g3 := HX3.out w2 w3 hgrow2 hgrow3)
          | (at_lookup; refine wpList_lookup_own_int _ rfl _ _ 41 rfl 9 3 .i64 keyed9 Try.underlying41 Try.underlying3 (zero3 _) (w.heap.size + 1) (i + 1) _ rfl hown3 _ _ rfl hkey9 ?_; intro c2 hat2 hwc2; have hc2 := HC1.out c2 hat2; subst hc2)
          | (go_at_call 16; refine (clone_any s _ hs48).mono ?_; rintro e w4 ⟨rfl, hb4⟩))
          go_roundw
          case rel =>
            have hb3 := HBX.out w2 w3 hgrow2 hgrow3
            refine ⟨i + 1, rfl, rfl, by go_num, by omega, ⟨_, hown2.kept hgrow3 (by simp), hown2.isMap, ?_⟩, ⟨_, hown3, hown3.isMap, ?_⟩, hb3, HF2⟩
            · rw [HT.out]
              exact VSet.new HK2.out HDM.out.1 HDM.out.2
            · intro t
              show _ = DataW.lit (Lit.int IntKind.i64 ((cnt (List.take (i + 1) l) t : Nat) : Int))
              rw [HT.out]
              by_cases e : t = s
              · subst e
                have hcn : cnt (l.take i ++ [(f, t)]) t = k0 + 1 := (cnt_new HNM.out).trans (congrArg (· + 1) HK0.out)
                rw [atKey_put_same HCM.out.1 (keyLLit _), hcn]
                rfl
              · rw [atKey_put_other (fun e2 => e (keyL_eq.1 e2)), HCM.out.2, cnt_other (fun e2 => e e2.symm)]
          case measure => simp [intOf]; omega
    · have hT : l.take i = l := List.take_of_length_le (by rw [← HG.out.len]; omega)
      have HWI : Hid (Win l need ⟨#[]⟩ false) := .inr ⟨rfl, rfl, by rw [← hT]; exact HF.out⟩
      clear HS HC HF hT
      go_wp2
      go_ret2
      exact ⟨⟨_, _, rfl, HWI.out⟩, HB.out⟩
end Go.Proofs.Ytimacmimibpgpaa.Vote
