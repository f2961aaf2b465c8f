/-
  The document's example, at the head of all statements: it holds.
-/
import Derived.Test.YtcjkficpiedpfabDoorTrBuild2
import Derived.Test.YtcjkficpiedpfabDoorTrErr
namespace Go.Proofs.YtcjkficpiedpfabDoor.Tree
open Go.RowKit Route Chunk

theorem path_a : isPath ⟨#[97]⟩ = true := by kernel_rfl
theorem path_none : isPath ⟨#[]⟩ = false := by kernel_rfl
theorem chunks_xyz : chunks 2 2 0 ⟨#[120, 121, 122]⟩ = [⟨#[120, 121]⟩, ⟨#[122]⟩] := by kernel_rfl

theorem up_build (g : Nat) (W : World) (h0 : W.cell? ⟨g, 0, none⟩ = some (.string ⟨#[97]⟩)) (h1 : W.cell? ⟨g, 1, none⟩ = some (.string ⟨#[120, 121, 122]⟩)) :
    Calls Tryd.prog 7 #[.slice (some ⟨g, 0, none⟩) 1 1, .agg #[.int .i64 2, .int .i64 2, .int .i64 0]] W fun e w' => ∃ gr cap ka kc, e = .returned (.tuple #[.slice (some ⟨gr, 0, none⟩) 1 cap, .nilIface]) ∧ w'.cell? ⟨gr, 1, none⟩ = some (.int .i64 3) ∧ w'.cell? ⟨gr, 2, none⟩ = some (.slice (some ⟨ka, 0, none⟩) 2 kc) ∧ w'.cell? ⟨ka, 1, none⟩ = some (.string ⟨#[122]⟩) ∧ Below W.heap.size W w' := by
  have hc : codeF ([(⟨#[97]⟩, ⟨#[120, 121, 122]⟩)].take 0) (fileOf [(⟨#[97]⟩, ⟨#[120, 121, 122]⟩)] 0) = 0 := by
    show codeF [] (⟨#[97]⟩, ⟨#[120, 121, 122]⟩) = 0
    rw [codeF, if_neg (by rw [path_a]; simp), if_neg (by show ¬ 1024 < 3; omega), if_neg (by simp)]
  refine build_core _ (some ⟨g, 0, none⟩) 1 1 [(⟨#[97]⟩, ⟨#[120, 121, 122]⟩)] 2 2 0 W (by omega) (by omega) (by omega) (by omega) (by omega) ⟨rfl, by omega, ?_⟩ (.inr ⟨_, rfl, ?_⟩) (by omega) ?_ ?_
  · intro j hj
    obtain rfl : j = 0 := by omega
    exact ⟨by show 1 ≤ 2000; omega, by show 3 ≤ 3000; omega⟩
  · intro j hj
    obtain rfl : j = 0 := by simpa using hj
    exact ⟨h0, h1⟩
  · intro j hj _ hne
    obtain rfl : j = 0 := by omega
    exact absurd hc hne
  · intro _ v Y w' hen _ hp
    have hY : Y.map (·.1) = [entF 2 2 0 (⟨#[97]⟩, ⟨#[120, 121, 122]⟩)] := List.perm_singleton.1 hp
    obtain ⟨z, rfl, hz⟩ : ∃ z, Y = [z] ∧ z.1 = entF 2 2 0 (⟨#[97]⟩, ⟨#[120, 121, 122]⟩) := by
      have hl := congrArg List.length hY
      rw [List.length_map, List.length_singleton] at hl
      obtain ⟨z, rfl⟩ := List.length_eq_one_iff.1 hl
      exact ⟨z, rfl, by simpa using hY⟩
    have hk := hen.2.2.2 z (List.mem_singleton.2 rfl)
    obtain ⟨e, kv⟩ := z
    simp only at hz
    subst hz
    rcases hen.1.2 with ⟨_, h⟩ | ⟨gr, cap, cur, rfl, _, _, _, _, _, _⟩
    · simp at h
    · have c1 := hen.1.cellAt 1 (by simp)
      have c2 := hen.1.cellAt 2 (by simp)
      have ez : cellsOf [(entF 2 2 0 (⟨#[97]⟩, ⟨#[120, 121, 122]⟩), kv)] = [.string ⟨#[97]⟩, .int .i64 3, kv] := by
        simp only [cellsOf, List.flatMap_cons, List.flatMap_nil, List.append_nil]
        rw [enc_key hk]; rfl
      rw [ez] at c1 c2
      have hk' : w'.ownsRow W.heap.size 9 1 kv 2 (sv [⟨#[120, 121]⟩, ⟨#[122]⟩]) := by
        have h2 := hk
        unfold KeyRow at h2
        have e2 : (entF 2 2 0 (⟨#[97]⟩, ⟨#[120, 121, 122]⟩)).2.2 = [⟨#[120, 121]⟩, ⟨#[122]⟩] := chunks_xyz
        rw [e2] at h2
        exact h2
      rcases hk'.2 with ⟨_, h⟩ | ⟨ka, kc, cur', rfl, _, _, _, _, _, _⟩
      · omega
      · have c3 := hk'.cellAt 1 (by simp)
        exact ⟨gr, cap, ka, kc, rfl, c1, c2, c3, hen.2.1⟩

theorem up_check (g : Nat) (W : World) (h0 : W.cell? ⟨g, 0, none⟩ = some (.string ⟨#[]⟩)) (h1 : W.cell? ⟨g, 1, none⟩ = some (.int .i64 0)) (h2 : W.cell? ⟨g, 2, none⟩ = some (.slice none 0 0)) :
    Calls Tryd.prog 12 #[.slice (some ⟨g, 0, none⟩) 1 1] W fun e w' => ∃ b, e = .returned (.iface 49 (.pointer (some ⟨b, 0, none⟩))) ∧ w'.cell? ⟨b, 0, none⟩ = some (.int .i64 ((0 : Nat) : Int)) ∧ w'.cell? ⟨b, 1, none⟩ = some (.iface 43 (.int .i64 ((2 : Nat) : Int))) ∧ Below W.heap.size W w' := by
  have hsh : shortE noEnt := ⟨by show 0 ≤ 2000; omega, by show 0 ≤ 1200; omega, fun k hk => by simp [noEnt] at hk⟩
  refine (check_ans (some ⟨g, 0, none⟩) 1 1 [noEnt] W ⟨rfl, by omega, ?_⟩ (.inr ⟨_, rfl, ?_⟩) (by omega)).mono ?_
  · intro j hj
    obtain rfl : j = 0 := by omega
    exact hsh
  · intro j hj
    obtain rfl : j = 0 := by simpa using hj
    exact ⟨h0, h1, none, 0, h2, .inl rfl, Nat.le_refl _, Nat.zero_le _, fun _ => rfl⟩
  · rintro e w' ⟨⟨v, rfl, hv⟩, hb⟩
    have ec : codeOf ([noEnt].take 0) (entOf [noEnt] 0) = 2 := by
      show codeOf [] noEnt = 2
      rw [codeOf, if_pos (show isPath noEnt.1 = false from path_none)]
    have ea : checkAns [noEnt] = (2, some 0) := by
      rw [checkAns, if_neg (by simp), List.length_singleton, firstBad, if_neg (by rw [ec]; decide), ec]
    rw [ea] at hv
    rcases hv with ⟨h, _⟩ | ⟨_, h, _⟩ | ⟨_, i, b, hi, rfl, _, c0, c1⟩
    · cases h
    · cases h
    · simp only [Option.some.injEq] at hi
      subst hi
      exact ⟨b, rfl, c0, c1, hb⟩

set_option maxHeartbeats 4000000 in
set_option maxRecDepth 100000 in
theorem up_any (w : World) (hg : Known w) : Calls Tryd.prog 5 #[] w fun e w' => e = .returned (.bool true) ∧ Below w.heap.size w w' := by
  have HG : Hid (Known w) := hg
  have HB : Hid (Calls Tryd.prog 7 #[.slice (some ⟨w.heap.size, 0, none⟩) 1 1, .agg #[.int .i64 2, .int .i64 2, .int .i64 0]] (w.alloc (.cells #[.string ⟨#[97]⟩, .string ⟨#[120, 121, 122]⟩] 24)) fun e w' => ∃ gr cap ka kc, e = .returned (.tuple #[.slice (some ⟨gr, 0, none⟩) 1 cap, .nilIface]) ∧ w'.cell? ⟨gr, 1, none⟩ = some (.int .i64 3) ∧ w'.cell? ⟨gr, 2, none⟩ = some (.slice (some ⟨ka, 0, none⟩) 2 kc) ∧ w'.cell? ⟨ka, 1, none⟩ = some (.string ⟨#[122]⟩) ∧ Below w.heap.size w w') := by
    refine (up_build w.heap.size _ (by simp) (by simp)).mono ?_
    rintro e w' ⟨gr, cap, ka, kc, rfl, c1, c2, c3, hb⟩
    exact ⟨gr, cap, ka, kc, rfl, c1, c2, c3, ((Below.refl _ _).alloc (Nat.le_refl _) _).trans (hb.mono (by simp))⟩
  have HC : Hid (∀ W, Calls Tryd.prog 12 #[.slice (some ⟨W.heap.size, 0, none⟩) 1 1] (W.alloc (.cells #[.string ⟨#[]⟩, .int .i64 0, .slice none 0 0] 37)) fun e w' => ∃ b, e = .returned (.iface 49 (.pointer (some ⟨b, 0, none⟩))) ∧ w'.cell? ⟨b, 0, none⟩ = some (.int .i64 ((0 : Nat) : Int)) ∧ w'.cell? ⟨b, 1, none⟩ = some (.iface 43 (.int .i64 ((2 : Nat) : Int))) ∧ Below W.heap.size W w') := by
    intro W
    refine (up_check W.heap.size _ (by simp) (by simp) (by simp)).mono ?_
    rintro e w' ⟨b, rfl, c0, c1, hb⟩
    exact ⟨b, rfl, c0, c1, ((Below.refl _ _).alloc (Nat.le_refl _) _).trans (hb.mono (by simp))⟩
  clear hg
  go_enter Tryd.func5, Tryd.ntmps5
  go_wp2_with fail
  refine HB.out.mono ?_
  rintro e w1 ⟨gr, cap, ka, kc, rfl, c1, c2, c3, hb1⟩
  go_wp2_with fail
  refine (HC.out w1).mono ?_
  rintro e w2 ⟨b, rfl, d0, d1, hb2⟩
  have e1 := cell_kept hb2 c1
  have e2 := cell_kept hb2 c2
  have e3 := cell_kept hb2 c3
  have HI : Hid (Calls Tryd.prog 11 #[.iface 49 (.pointer (some ⟨b, 0, none⟩)), .int .i64 0, .int .i64 2] w2 fun e w' => e = .returned (.bool true) ∧ Below w2.heap.size w2 w') :=
    is_yes b 2 0 w2 (HG.out.below (hb1.trans (hb2.mono hb1.size)) (Nat.le_refl _)) (.inr (.inl rfl)) d0 d1
  have HBB : Hid (Below w.heap.size w w2) := hb1.trans (hb2.mono hb1.size)
  clear c1 c2 c3 d0 d1 hb1 hb2 HB HC
  go_wp2_with (go_at_call 11; refine HI.out.mono ?_; rintro e w3 ⟨rfl, hb3⟩)
  go_ret
  exact ⟨rfl, HBB.out.trans (hb3.mono HBB.out.size)⟩
end Go.Proofs.YtcjkficpiedpfabDoor.Tree
