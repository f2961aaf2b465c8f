/-
  Parts, and the reference's Own; a text's bytes.
-/
import Derived.Test.YtlpgdfdadkljfaaGreatImParts2
import Derived.Test.YtlpgdfdadkljfaaGreatCtPrune
import Derived.Lib.ConvBytes
namespace Go.Proofs.YtlpgdfdadkljfaaGreat.Img
open Go.RowKit Route Tree Order Cat

theorem inv_own {S : List Snap} (h : Inv S) (i : Nat) : Inv (ownS i S) := by
  have hm : ∀ s ∈ ownS i S, s ∈ S := fun s hs => (List.mem_filter.1 hs).1
  refine ⟨fun s hs => h.client s (hm s hs), fun s hs => h.name s (hm s hs), fun s hs => h.tree s (hm s hs), fun s hs => h.ents s (hm s hs), h.once.filter _, fun c => ?_⟩
  have h1 := h.most c
  unfold count at *
  unfold ownS
  rw [List.filter_filter]
  refine Nat.le_trans (Nat.le_trans ?_ (List.length_filter_le (fun s : Snap => decide (s.1 = (i : Int))) (S.filter (mine c)))) h1
  rw [List.filter_filter]
  refine Nat.le_of_eq (congrArg List.length ?_)
  congr 1
  funext s
  exact Bool.and_comm _ _

theorem own_len (i : Nat) (S : List Snap) : (ownS i S).length ≤ S.length := List.length_filter_le _ _

theorem parts_any {B p : Nat} {v : Value} {Z : List SZ} {w : World} (h : Cat B p v Z w) (hI : Inv (Z.map snapOf)) :
    Calls Tryz.prog 15 #[.pointer (some ⟨p, 0, none⟩)] w fun e w' => ∃ v', e = .returned (.tuple #[v', .nilIface]) ∧ Strs w.heap.size v' (partsL (Z.map snapOf)) w w' := by
  have HP : Hid (Calls _ _ _ _ _) := partsOf_any h hI
  clear h hI
  go_enter Tryz.func15, Tryz.ntmps15
  go_wp2_with fail
  refine HP.out.mono ?_
  rintro e w1 ⟨v', rfl, hs⟩
  have HS : Hid (Strs _ _ _ _ _) := hs
  clear hs HP
  go_wp2
  go_ret2
  exact ⟨_, rfl, HS.out⟩

/-- A text's bytes, in a block of their own. -/
theorem text_bytes (l : List UInt8) (hl : l.length ≤ 100000000) (w : World) : ∃ cap w', (convert 9 23 (.string ⟨l.toArray⟩)).run Tryz.prog w = .ok (.slice (some ⟨w.heap.size, 0, none⟩) l.length cap) w' ∧
    Hid (Below w.heap.size w w' ∧ Go.Proofs.YtlpgdfdadkljfaaGreat.Lies w' (some ⟨w.heap.size, 0, none⟩) l ∧ l.length ≤ cap ∧ cap ≤ maxLen ∧ w.heap.size < w'.heap.size) := by
  have hs : (⟨l.toArray⟩ : ByteArray).size = l.length := by simp [ByteArray.size]
  have hr := Lib.run_convert_string_bytes (P := Tryz.prog) w 9 23 5 (⟨l.toArray⟩ : ByteArray) Tryz.underlying9 Tryz.underlying23 Tryz.underlying5
  rw [hs] at hr
  refine ⟨_, _, hr, ⟨rfl, rfl, rfl, by rw [Lib.bytesWorld_size]; omega, fun k hk => Lib.bytesWorld_at_old w _ _ k hk⟩, .inr ⟨_, rfl, fun j u hj => ?_⟩, grownCap_ge _ _ _ _, grownCap_le_maxLen _ _ _ _ (by unfold maxLen; omega), by rw [Lib.bytesWorld_size]; omega⟩
  have hj' : j < l.length := by
    have := (List.getElem?_eq_some_iff.1 hj).1
    simpa [bv] using this
  have ea : (⟨w.heap.size, 0, none⟩ : Addr).add j = ⟨w.heap.size, j, none⟩ := by unfold Addr.add; split <;> simp_all
  rw [ea, Lib.bytesWorld_cell w _ _ j (by rw [hs]; exact hj')]
  simp [bv, hj'] at hj
  rw [← hj]
  simp [List.getD_eq_getElem?_getD, hj']

theorem sz_own_step {c : Nat} {Z : List SZ} {j : Nat} (h : j < Z.length) : ownZ c (Z.take (j + 1)) = if (szAt Z j).1 = (c : Int) then ownZ c (Z.take j) ++ [szAt Z j] else ownZ c (Z.take j) := by
  rw [sz_take h, ownZ_snoc]

theorem apart_own {c : Nat} {Z : List SZ} {j : Nat} (h : j < Z.length) (hp : Z.Pairwise Apart) : ∀ y ∈ ownZ c (Z.take j), Apart y (szAt Z j) := fun y hy => by
  have hy := (List.mem_filter.1 hy).1
  have h1 : (Z.take (j + 1)).Pairwise Apart := List.Pairwise.sublist (List.take_sublist _ _) hp
  rw [sz_take h] at h1
  exact (List.pairwise_append.1 h1).2.2 y hy _ (List.mem_singleton.2 rfl)

/-- What Own has so far. -/
structure Ow (B0 : Nat) (v : Value) (Z : List SZ) (w W : World) : Prop where
  row : SRow B0 v Z W
  bel : Below w.heap.size w W
  blk : ∀ k, v.ownBlock = some k → w.heap.size ≤ k

theorem Ow.grown {B0 : Nat} {v v' : Value} {Z Z' : List SZ} {w W W1 : World} (h : Ow B0 v Z w W) {o : Obj} (hr : SRow B0 v' Z' W1) (hg : (W.alloc o).grownBy W1 v.ownBlock) (hn : v'.ownBlock = v.ownBlock ∨ v'.ownBlock = some (W.heap.size + 1)) : Ow B0 v' Z' w W1 := by
  have hs := h.bel.size
  refine ⟨hr, (h.bel.alloc hs o).grown hg (by simp; omega) h.blk, fun k hk => ?_⟩
  rcases hn with e | e
  · exact h.blk k (e ▸ hk)
  · rw [hk] at e
    have := Option.some.inj e
    omega

set_option maxHeartbeats 2000000 in
set_option maxRecDepth 100000 in
theorem own_ref {B0 : Nat} {a : Option Addr} {n cap : Nat} {Z : List SZ} {w : World} (c : Nat) (h : SRow B0 (.slice a n cap) Z w) (hn : n = Z.length) (hB : B0 ≤ w.heap.size) (hm : n ≤ 1000) :
    Calls Tryz.prog 16 #[.slice a n cap, .int .i64 (c : Int)] w fun e w' => ∃ v', e = .returned v' ∧ SRow B0 v' (ownZ c Z) w' ∧ Below w.heap.size w w' := by
  have HN : Hid (n = Z.length) := hn
  have HR : Hid (SRow B0 (.slice a n cap) Z w) := h
  have HB : Hid (B0 ≤ w.heap.size) := hB
  have HO : Hid (Ow B0 (.slice none 0 0) (ownZ c (Z.take 0)) w w) := ⟨by simpa [ownZ] using SRow.nil B0 w, Below.refl _ _, fun k hk => by simp [Value.ownBlock] at hk⟩
  clear h hn hB
  go_enter Tryz.func16, Tryz.ntmps16
  go_wp2
  go_loopw [5, 6] (fun t5 t6 wr => ∃ j : Nat, t6 = .int .i64 (j : Int) ∧ j ≤ n ∧ Hid (Ow B0 t5 (ownZ c (Z.take j)) w wr)) (fun _ t6 _ => n - (intOf t6).toNat)
  case atStart => exact ⟨0, rfl, Nat.zero_le _, HO⟩
  case round =>
    obtain ⟨j, rfl, hj, HQ⟩ := hrel
    clear HO
    by_cases hjn : j < n
    · have hjz : j < Z.length := by rw [← HN.out]; exact hjn
      have HRW : Hid (SRow B0 (.slice a n cap) Z wr) := HR.out.below HQ.out.bel
      obtain ⟨a1, c1, e1, -, -, hls⟩ := row_lies HRW.out.own
      simp only [Value.slice.injEq] at e1
      obtain ⟨rfl, -, rfl⟩ := e1
      obtain ⟨x, hx, g0, g1, g2, g3⟩ := hls.at hjz
      subst hx
      have hz := HRW.out.ents _ (sz_mem hjz)
      rw [fix_own hz.1] at g3
      obtain ⟨ea, en, ec, hea⟩ : ∃ ea en ec, (szAt Z j).2.2.2.1 = .slice ea en ec := by
        rcases hz.1.2 with ⟨e, _⟩ | ⟨g, cap, cur, e, _⟩
        · exact ⟨_, _, _, e⟩
        · exact ⟨_, _, _, e⟩
      have HZE : Hid (ERow B0 wr (szAt Z j)) := hz
      have HAP : Hid (∀ y ∈ ownZ c (Z.take j), Apart y (szAt Z j)) := apart_own hjz HRW.out.apart
      have HST : Hid (_ = _) := sz_own_step (c := c) hjz
      have HLN : Hid ((ownZ c (Z.take j)).length + 1 ≤ 1000000) := by
        have : (ownZ c (Z.take j)).length ≤ (Z.take j).length := List.length_filter_le _ _
        rw [List.length_take] at this
        show _ ≤ _
        omega
      have HBW : Hid (B0 ≤ wr.heap.size) := Nat.le_trans HB.out HQ.out.bel.size
      generalize szAt Z j = z at *
      obtain ⟨cl, nm, dn, vz, Y⟩ := z
      simp only at hea g0 g1 g2 g3
      subst hea
      have hix := index_snap x n cap j hjn
      generalize x.add (j * 4) = q at g0 g1 g2 g3 hix
      clear hls hz
      by_cases hcl : cl = (c : Int)
      · have HS1 : Hid (ownZ c (Z.take (j + 1)) = ownZ c (Z.take j) ++ [(cl, nm, dn, .slice ea en ec, Y)]) := by rw [HST.out]; exact if_pos hcl
        subst hcl
        go_wp2_with (at_builtin; refine wpList_snap2 rfl (.tmp 20) (.tmp 25) rfl B0 _ (ownZ c (Z.take j)) rfl wr ((c : Int), nm, dn, .slice ea en ec, Y) HQ.out.row HBW.out HZE.out HAP.out rfl HLN.out ?_; intro v' w4 hb4 hg4)
        go_roundw
        case rel => exact ⟨j + 1, by go_num, by omega, by rw [HS1.out]; exact HQ.out.grown hb4.out hg4.out.1 hg4.out.2⟩
        case measure => simp [intOf]; omega
      · have HS1 : Hid (ownZ c (Z.take (j + 1)) = ownZ c (Z.take j)) := by rw [HST.out]; exact if_neg hcl
        go_wp2
        go_roundw
        case rel => exact ⟨j + 1, by go_num, by omega, by rw [HS1.out]; exact HQ⟩
        case measure => simp [intOf]; omega
    · have HF : Hid (Ow B0 u5 (ownZ c Z) w wr) := by
        have h := HQ.out
        rw [List.take_of_length_le (by rw [← HN.out]; omega)] at h
        exact h
      clear HQ
      go_wp2
      go_ret
      exact ⟨_, rfl, HF.out.row, HF.out.bel⟩
end Go.Proofs.YtlpgdfdadkljfaaGreat.Img
