/-
  Prune: what it tells, and what it leaves behind.
-/
import Derived.Test.YtlpgdfdadkljfaaGreatCtOps3
namespace Go.Proofs.YtlpgdfdadkljfaaGreat.Cat
open Go.RowKit Route Tree

def keptZ (c : Int) (z : SZ) : Bool := decide (z.1 = c) && z.2.2.1
theorem kept_snap (c : Int) (z : SZ) : kept c (snapOf z) = keptZ c z := rfl

/-- Without the first k of those that are committed, as pairs of what is left and how many went, up to i. -/
def prunedZ (c : Int) : Nat → List SZ → List SZ
  | _, [] => []
  | k, z :: Z => if keptZ c z = true ∧ 0 < k then prunedZ c (k - 1) Z else z :: prunedZ c k Z

theorem prunedZ_map (c : Int) : ∀ (Z : List SZ) (k : Nat), (prunedZ c k Z).map snapOf = pruned c k (Z.map snapOf)
  | [], k => by cases k <;> rfl
  | z :: Z, k => by
    rw [List.map_cons, pruned, prunedZ, kept_snap]
    split
    · exact prunedZ_map c Z (k - 1)
    · rw [List.map_cons, prunedZ_map c Z k]

theorem prunedZ_sub (c : Int) : ∀ (Z : List SZ) (k : Nat), (prunedZ c k Z).Sublist Z
  | [], k => by cases k <;> exact List.Sublist.slnil
  | z :: Z, k => by
    rw [prunedZ]
    split
    · exact (prunedZ_sub c Z (k - 1)).cons z
    · exact (prunedZ_sub c Z k).cons_cons z

/-- How many of the first ones went. -/
def goneN (c : Int) (k : Nat) (Z : List SZ) : Nat := min k (Z.countP (keptZ c))

theorem prunedZ_snoc (c : Int) : ∀ (Z : List SZ) (k : Nat) (z : SZ), prunedZ c k (Z ++ [z]) = prunedZ c k Z ++ (if keptZ c z = true ∧ goneN c k Z < k then [] else [z])
  | [], k, z => by
    simp only [List.nil_append, prunedZ, goneN, List.countP_nil, Nat.min_zero]
  | y :: Z, k, z => by
    rw [List.cons_append, prunedZ, prunedZ]
    by_cases h : keptZ c y = true ∧ 0 < k
    · rw [if_pos h, if_pos h, prunedZ_snoc c Z (k - 1) z]
      have e : (keptZ c z = true ∧ goneN c (k - 1) Z < k - 1) ↔ (keptZ c z = true ∧ goneN c k (y :: Z) < k) := by
        unfold goneN
        rw [List.countP_cons_of_pos h.1]
        have := h.2
        exact and_congr_right fun _ => by omega
      simp only [e]
    · rw [if_neg h, if_neg h, prunedZ_snoc c Z k z, List.cons_append]
      have e : (keptZ c z = true ∧ goneN c k Z < k) ↔ (keptZ c z = true ∧ goneN c k (y :: Z) < k) := by
        unfold goneN
        by_cases hy : keptZ c y = true
        · have : k = 0 := by
            rcases Nat.eq_zero_or_pos k with h0 | h0
            · exact h0
            · exact absurd ⟨hy, h0⟩ h
          subst this; simp
        · rw [List.countP_cons_of_neg hy]
      simp only [e]

theorem goneN_snoc (c : Int) (k : Nat) (Z : List SZ) (z : SZ) : goneN c k (Z ++ [z]) = if keptZ c z = true ∧ goneN c k Z < k then goneN c k Z + 1 else goneN c k Z := by
  unfold goneN
  rw [List.countP_append]
  by_cases h : keptZ c z = true
  · have : List.countP (keptZ c) [z] = 1 := by simp [h]
    rw [this]
    split <;> rename_i h1
    · have := h1.2; omega
    · have : ¬ min k (List.countP (keptZ c) Z) < k := fun h2 => h1 ⟨h, h2⟩
      omega
  · have : List.countP (keptZ c) [z] = 0 := by simp [h]
    rw [this, if_neg (fun h1 => h h1.1)]; rfl

theorem sz_take {Z : List SZ} {i : Nat} (h : i < Z.length) : Z.take (i + 1) = Z.take i ++ [szAt Z i] := by
  rw [List.take_succ_eq_append_getElem h]
  simp [szAt, List.getD_eq_getElem?_getD, h]

theorem names_count (c : Int) (Z : List SZ) : (names c (Z.map snapOf)).length = Z.countP (keptZ c) := by
  unfold names
  rw [List.length_map, ← List.countP_eq_length_filter, List.countP_map]
  rfl

/-- 'append(l, s)', with where the row lies then. -/
theorem wpList_snap2 {ops : Array Oper} {rest : List Oper} {o : Oper} {a : Act} {Q : Exit → Act → World → Prop} (hgd : o.guard = none) (s x : Operand)
    (ho : o.op = .call { callee := .builtin .append, args := #[s, x], argTypes := #[44, 44] })
    (B : Nat) (v : Value) (Z : List SZ) (hs : a.eval s = v) (w0 : World) (z : SZ) (hb : SRow B v Z w0) (hB : B ≤ w0.heap.size) (hz : ERow B w0 z) (ha : ∀ y ∈ Z, Apart y z)
    (hx : a.eval x = .slice (some ⟨w0.heap.size, 0, none⟩) 1 1) (hlen : Z.length + 1 ≤ 1000000)
    (h : ∀ v' w', Hid (SRow B v' (Z ++ [z]) w') → Hid ((w0.alloc (.cells #[.int .i64 z.1, .string z.2.1, .bool z.2.2.1, z.2.2.2.1] 71)).grownBy w' v.ownBlock ∧ (v'.ownBlock = v.ownBlock ∨ v'.ownBlock = some (w0.heap.size + 1))) → wpList Tryz.prog ops Q rest (a.put o.dst v') w') : wpList Tryz.prog ops Q (o :: rest) a (w0.alloc (.cells #[.int .i64 z.1, .string z.2.1, .bool z.2.2.1, z.2.2.2.1] 71)) := by
  refine wpList_plain hgd fun K hK => ?_
  obtain ⟨v', w', hr, h1, h2, h3⟩ := run_snap (ty := o.type) hb hB hz ha hlen
  unfold Oper.wp execOp
  simp only [ho, resolve, invoke, builtin, Sem.run_bind, Sem.run_pure, Result.andThen_ok, List.map_toArray, List.map_cons, List.map_nil, hs, hx, hr]
  exact hK _ _ (h v' w' h1 ⟨h2, h3⟩)

/-- A catalog's snapshot as it lies. -/
theorem Cat.at {B p : Nat} {a : Option Addr} {n cap : Nat} {Z : List SZ} {w : World} (h : Cat B p (.slice a n cap) Z w) {i : Nat} (hi : i < Z.length) : ∃ x ea ec, a = some x ∧ (szAt Z i).2.2.2.1 = .slice ea (szAt Z i).2.2.2.2.length ec ∧ ∀ W, Below w.heap.size w W → W.cell? (x.add (i * 4)) = some (.int .i64 (szAt Z i).1) ∧ W.cell? ⟨(x.add (i * 4)).block, (x.add (i * 4)).off + 1, none⟩ = some (.string (szAt Z i).2.1) ∧ W.cell? ⟨(x.add (i * 4)).block, (x.add (i * 4)).off + 2, none⟩ = some (.bool (szAt Z i).2.2.1) ∧ W.cell? ⟨(x.add (i * 4)).block, (x.add (i * 4)).off + 3, none⟩ = some (.slice ea (szAt Z i).2.2.2.2.length ec) := by
  obtain ⟨g, cap', e, _⟩ := h.form (by omega)
  simp at e
  obtain ⟨rfl, rfl, rfl⟩ := e
  obtain ⟨ea, ec, e1, _⟩ := erow_lies (h.ents _ (sz_mem hi)).1 (h.ents _ (sz_mem hi)).2
  have hc := fun c (hc : c < 4) => (h.row.cellAt (i * 4 + c) (by omega)).trans (scells_at Z i c hi hc)
  have hf := fix_own (h.ents _ (sz_mem hi)).1
  refine ⟨_, ea, ec, rfl, e1, fun W hb => ?_⟩
  have ead : (⟨g, 0, none⟩ : Addr).add (i * 4) = ⟨g, i * 4, none⟩ := by rw [Addr.add_lit, Nat.zero_add]
  rw [ead]
  refine ⟨cell_kept hb (hc 0 (by decide)), cell_kept hb (hc 1 (by decide)), cell_kept hb (hc 2 (by decide)), cell_kept hb ?_⟩
  have h3 := hc 3 (by decide)
  have e3 : (encS (szAt Z i))[3]? = some (szAt Z i).2.2.2.1 := by simp [encS, hf]
  rw [e3, e1] at h3
  exact h3

/-- A catalog's row in new memory, of snapshots that it had. -/
theorem next_new {B p : Nat} {v : Value} {Z : List SZ} {w w1 : World} {v1 : Value} {Z1 : List SZ} (h : Cat B p v Z w) (hb : Below w.heap.size w w1) (h1 : SRow B v1 Z1 w1) (hv : ∀ k, v1.ownBlock = some k → w.heap.size ≤ k) (hz : ∀ z ∈ Z1, z ∈ Z) :
    Next B p v Z w v1 Z1 (w1.setCell ⟨p, 0, none⟩ v1) :=
  (next_row h h1 ⟨hb.os, hb.tape, hb.output, hb.size, fun k hk _ => hb.block k hk⟩ (fun k hk => .inr (hv k hk)) hz).1

set_option maxHeartbeats 8000000 in
set_option maxRecDepth 100000 in
theorem prune_any (B p : Nat) (v : Value) (Z : List SZ) (c : Int) (k : Nat) (w : World) (h : Cat B p v Z w) (hB : B ≤ w.heap.size) (hn : Z.length + 1 ≤ 1000000) (hk : k ≤ 100) (hs : ∀ z ∈ Z, z.2.1.size ≤ 1000000) :
    Calls Tryz.prog 27 #[.pointer (some ⟨p, 0, none⟩), .int .i64 c, .int .i64 (k : Int)] w fun e w' => ∃ v', e = .returned (.int .i64 (((names c (Z.map snapOf)).length - k : Nat) : Int)) ∧ Next B p v Z w v' (prunedZ c ((names c (Z.map snapOf)).length - k) Z) w' := by
  obtain ⟨a, n, cap, rfl, hse⟩ := h.see
  have hnl : n = Z.length := by have := hse.len; rwa [List.length_map] at this
  have HC : Hid (Calls _ _ _ _ _) := committed_any p a n cap _ c w hse (by omega) (fun s hs' => by
    obtain ⟨z, hz, rfl⟩ := List.mem_map.1 hs'
    exact hs z hz)
  have HNC : Hid ((names c (Z.map snapOf)).length = Z.countP (keptZ c)) := names_count c Z
  have hle : (names c (Z.map snapOf)).length ≤ Z.length := by have := names_le c (Z.map snapOf); rwa [List.length_map] at this
  generalize hM : names c (Z.map snapOf) = M at *
  obtain ⟨m, hm⟩ : ∃ m, m = M.length := ⟨_, rfl⟩
  have HM : Hid (m = M.length) := hm
  have hml : m ≤ 1000000 := by omega
  have HH : Hid (Cat B p (.slice a n cap) Z w) := h
  have HBB : Hid (B ≤ w.heap.size) := hB
  have HN : Hid (n = Z.length) := hnl
  have hnm : n ≤ 1000000 := by omega
  have HG : Hid (goneN c (m - k) Z = m - k) := by
    show _ = _
    unfold goneN
    rw [← HNC.out, ← hm]; omega
  have HBox : Hid (∀ W, Below w.heap.size w W → W.cell? ⟨p, 0, none⟩ = some (.slice a n cap) ∧ W.frozen? ⟨p, 0, none⟩ = false) := fun W hb => by
    have hcW := HH.out.below hb
    exact ⟨by rw [cell_of_row W p 0 _ _ (0, 0) hcW.box]; rfl, frozen_of_row W p 0 _ _ hcW.box⟩
  rw [← hm]
  clear h hB hn hs hse hnl hM hm hle
  obtain ⟨k0, hk0⟩ : ∃ k0, k0 = m - k := ⟨_, rfl⟩
  have HK0 : Hid (k0 = m - k) := hk0
  rw [← hk0] at HG ⊢
  have hk01 : k0 ≤ 1000000 := by omega
  have hmk : ((m : Int) - (k : Int) ≤ (k0 : Int)) := by omega
  have hmk2 : (k ≤ m ∧ (m : Int) - (k : Int) = (k0 : Int)) ∨ (m < k ∧ k0 = 0) := by omega
  have HMK : Hid ((k ≤ m ∧ (m : Int) - (k : Int) = (k0 : Int)) ∨ (m < k ∧ k0 = 0)) := hmk2
  clear hmk hmk2 hk0
  go_enter Tryz.func27, Tryz.ntmps27
  go_wp2_with fail
  refine HC.out.mono ?_
  rintro e w1 ⟨v1, rfl, hst⟩
  obtain ⟨a1, cap1, rfl, _⟩ := hst.liesN HM.out
  have HB1 : Hid (Below w.heap.size w w1) := hst.2.1
  have c0 := (HBox.out w1 hst.2.1).1
  clear hst HC
  go_wp2_with fail
  rw [show max (0 : Int) ((m : Int) - (k : Int)) = (k0 : Int) from by rcases HMK.out with ⟨_, h⟩ | ⟨_, h⟩ <;> omega]
  go_loopw [8, 9, 24] (fun t8 t9 t24 wr => ∃ (i j : Nat), t24 = .int .i64 (i : Int) ∧ t8 = .int .i64 (j : Int) ∧ i ≤ n ∧ j ≤ k0 ∧ Hid (j = goneN c k0 (Z.take i)) ∧ Hid (SRow B t9 (prunedZ c k0 (Z.take i)) wr) ∧ Hid (∀ k, t9.ownBlock = some k → w.heap.size ≤ k) ∧ Hid (Below w.heap.size w wr)) (fun _ _ t24 _ => n - (intOf t24).toNat)
  case atStart => exact ⟨0, 0, rfl, rfl, Nat.zero_le _, Nat.zero_le _, (by simp [goneN] : 0 = goneN c k0 (Z.take 0)), (by simpa [prunedZ] using SRow.nil B w1 : SRow B (.slice none 0 0) (prunedZ c k0 (Z.take 0)) w1), (fun k hk => by simp [Value.ownBlock] at hk), HB1⟩
  case round =>
    obtain ⟨i, j, rfl, rfl, hi, hj, HJ, HR, HO, HB⟩ := hrel
    clear c0 HB1
    by_cases hin : i < n
    · have hiz : i < Z.length := by rw [← HN.out]; exact hin
      obtain ⟨x, ea, ec, hx, hev, hcs⟩ := HH.out.at hiz
      obtain ⟨g0, g1, g2, g3⟩ := hcs wr HB.out
      subst hx
      have HP1 : Hid (prunedZ c k0 (Z.take (i + 1)) = prunedZ c k0 (Z.take i) ++ (if keptZ c (szAt Z i) = true ∧ goneN c k0 (Z.take i) < k0 then [] else [szAt Z i])) := by
        show _ = _
        rw [sz_take hiz, prunedZ_snoc]
      have HG1 : Hid (goneN c k0 (Z.take (i + 1)) = if keptZ c (szAt Z i) = true ∧ goneN c k0 (Z.take i) < k0 then goneN c k0 (Z.take i) + 1 else goneN c k0 (Z.take i)) := by
        show _ = _
        rw [sz_take hiz, goneN_snoc]
      have HER : Hid (∀ W, Below w.heap.size w W → ERow B W (szAt Z i)) := fun W hb => ((HH.out.below hb).ents _ (sz_mem hiz))
      have HAP : Hid (∀ y ∈ prunedZ c k0 (Z.take i), Apart y (szAt Z i)) := fun y hy => by
        have hy' := (prunedZ_sub c _ _).subset hy
        obtain ⟨t, ht, rfl⟩ := List.mem_take_iff_getElem.1 hy'
        rw [sz_at hiz]
        exact List.pairwise_iff_getElem.1 HH.out.apart t i (by omega) hiz (by omega)
      have HPL : Hid ((prunedZ c k0 (Z.take i)).length + 1 ≤ 1000000) := by
        have h1 := (prunedZ_sub c (Z.take i) k0).length_le
        rw [List.length_take] at h1
        show _ ≤ _
        omega
      rw [← HJ.out] at HP1 HG1
      generalize hz : szAt Z i = z at *
      obtain ⟨c1, n1, d1, ev, ey⟩ := z
      simp only at g0 g1 g2 g3 hev
      subst hev
      generalize hP : prunedZ c k0 (Z.take i) = P at *
      have hix := index_snap x n cap i hin
      generalize x.add (i * 4) = q at g0 g1 g2 g3 hix
      generalize hey : ey.length = en at *
      have HBA : Hid (Below w.heap.size w (wr.alloc (.cells #[.int .i64 c1, .string n1, .bool d1, .slice ea en ec] 71))) := HB.out.alloc HB.out.size _
      have HRA : Hid (SRow B u9 P (wr.alloc (.cells #[.int .i64 c1, .string n1, .bool d1, .slice ea en ec] 71))) := HR.out.below ((Below.refl _ _).alloc (Nat.le_refl _) _)
      clear hz hP hey hcs HR hiz
      have hkz : keptZ c (c1, n1, d1, .slice ea en ec, ey) = (decide (c1 = c) && d1) := rfl
      rw [hkz] at HP1 HG1
      clear hkz
      by_cases hgo : (c1 = c ∧ d1 = true) ∧ j < k0
      · obtain ⟨⟨rfl, rfl⟩, hjk⟩ := hgo
        rw [if_pos ⟨by simp, hjk⟩, List.append_nil] at HP1
        rw [if_pos ⟨by simp, hjk⟩] at HG1
        go_wp2
        go_roundw
        case rel => exact ⟨i + 1, j + 1, by go_num, by go_num, by omega, by omega, HG1.out.symm, (by rw [HP1.out]; exact HRA.out), HO, HBA⟩
        case measure => simp [intOf]; omega
      · have hne : ¬ ((decide (c1 = c) && d1) = true ∧ j < k0) := fun h => hgo ⟨by simpa using h.1, h.2⟩
        rw [if_neg hne] at HP1 HG1
        have HPN : Hid (P ++ [(c1, n1, d1, Value.slice ea en ec, ey)] = prunedZ c k0 (Z.take (i + 1))) := HP1.out.symm
        have hsz0 := HB.out.size
        have HPost : Hid (∀ (v' : Value) (w' : World), ((wr.alloc (.cells #[.int .i64 c1, .string n1, .bool d1, .slice ea en ec] 71)).alloc (.cells #[.int .i64 c1, .string n1, .bool d1, .slice ea en ec] 71)).grownBy w' u9.ownBlock → (v'.ownBlock = u9.ownBlock ∨ v'.ownBlock = some ((wr.alloc (.cells #[.int .i64 c1, .string n1, .bool d1, .slice ea en ec] 71)).heap.size + 1)) → (∀ k, v'.ownBlock = some k → w.heap.size ≤ k) ∧ Below w.heap.size w w') := by
          intro v' w' hg hat
          refine ⟨fun k hk => ?_, (HBA.out.alloc HBA.out.size _).grown hg (Nat.le_trans HBA.out.size ((Below.refl _ _).alloc (Nat.le_refl _) _).size) (fun k hk => HO.out k hk)⟩
          rcases hat with e | e
          · exact HO.out k (by rw [← e]; exact hk)
          · rw [e] at hk
            have h1 := HBA.out.size
            simp only [Option.some.injEq] at hk
            omega
        have HE1 : Hid (ERow B (wr.alloc (.cells #[.int .i64 c1, .string n1, .bool d1, .slice ea en ec] 71)) (c1, n1, d1, Value.slice ea en ec, ey)) := HER.out _ HBA.out
        have HXX : Hid ((wr.alloc (.cells #[.int .i64 c1, .string n1, .bool d1, .slice ea en ec] 71)).heap.size = wr.heap.size + 1) := by show _ = _; simp
        have HBX : Hid (B ≤ (wr.alloc (.cells #[.int .i64 c1, .string n1, .bool d1, .slice ea en ec] 71)).heap.size) := Nat.le_trans HBB.out HBA.out.size
        clear HP1 HER hne
        have hcase : (¬ j < k0) ∨ (j < k0 ∧ ¬ c1 = c) ∨ (j < k0 ∧ c1 = c ∧ d1 = false) := by
          by_cases h1 : j < k0
          · by_cases h2 : c1 = c
            · cases d1 with
              | true => exact absurd ⟨⟨h2, rfl⟩, h1⟩ hgo
              | false => exact .inr (.inr ⟨h1, h2, rfl⟩)
            · exact .inr (.inl ⟨h1, h2⟩)
          · exact .inl h1
        clear hgo hsz0
        rcases hcase with hjk | ⟨hjk, hcc⟩ | ⟨hjk, rfl, rfl⟩
        · go_wp2_with (at_builtin; refine wpList_snap2 rfl (.tmp 43) (.tmp 45) rfl B _ P rfl (wr.alloc (.cells #[.int .i64 c1, .string n1, .bool d1, .slice ea en ec] 71)) (c1, n1, d1, Value.slice ea en ec, ey) HRA.out HBX.out HE1.out HAP.out (by rw [HXX.out]; rfl) HPL.out ?_; intro v' w4 hb4 hg4)
          go_roundw
          case rel => exact ⟨i + 1, j, by go_num, rfl, by omega, by omega, HG1.out.symm, (by rw [← HPN.out]; exact hb4.out), (HPost.out v' w4 hg4.out.1 hg4.out.2).1, (HPost.out v' w4 hg4.out.1 hg4.out.2).2⟩
          case measure => simp [intOf]; omega
        · have hd : (c1 == c) = false := by simp [hcc]
          clear hcc
          go_wp2_with (at_builtin; refine wpList_snap2 rfl (.tmp 43) (.tmp 45) rfl B _ P rfl (wr.alloc (.cells #[.int .i64 c1, .string n1, .bool d1, .slice ea en ec] 71)) (c1, n1, d1, Value.slice ea en ec, ey) HRA.out HBX.out HE1.out HAP.out (by rw [HXX.out]; rfl) HPL.out ?_; intro v' w4 hb4 hg4)
          go_roundw
          case rel => exact ⟨i + 1, j, by go_num, rfl, by omega, by omega, HG1.out.symm, (by rw [← HPN.out]; exact hb4.out), (HPost.out v' w4 hg4.out.1 hg4.out.2).1, (HPost.out v' w4 hg4.out.1 hg4.out.2).2⟩
          case measure => simp [intOf]; omega
        · go_wp2_with (at_builtin; refine wpList_snap2 rfl (.tmp 43) (.tmp 45) rfl B _ P rfl (wr.alloc (.cells #[.int .i64 c1, .string n1, .bool false, .slice ea en ec] 71)) (c1, n1, false, Value.slice ea en ec, ey) HRA.out HBX.out HE1.out HAP.out (by rw [HXX.out]; rfl) HPL.out ?_; intro v' w4 hb4 hg4)
          go_roundw
          case rel => exact ⟨i + 1, j, by go_num, rfl, by omega, by omega, HG1.out.symm, (by rw [← HPN.out]; exact hb4.out), (HPost.out v' w4 hg4.out.1 hg4.out.2).1, (HPost.out v' w4 hg4.out.1 hg4.out.2).2⟩
          case measure => simp [intOf]; omega
    · have hnz : Z.take i = Z := List.take_of_length_le (by rw [← HN.out]; omega)
      have HJE : Hid (k0 = j) := by
        have := HJ.out
        rw [hnz, HG.out] at this
        exact this.symm
      obtain ⟨c0, cf⟩ := HBox.out wr HB.out
      have HRE : Hid (SRow B u9 (prunedZ c k0 Z) wr) := by have := HR.out; rw [hnz] at this; exact this
      obtain ⟨a9, cap9, e9, _⟩ := rows_see HRE.out.own HRE.out.ents
      have HNX : Hid (Next B p (.slice a n cap) Z w u9 (prunedZ c k0 Z) (wr.setCell ⟨p, 0, none⟩ u9)) := next_new HH.out HB.out HRE.out HO.out fun z hz => (prunedZ_sub c Z k0).subset hz
      generalize (prunedZ c k0 Z).length = n9 at e9
      subst e9
      clear hnz HR HRE
      go_wp2
      go_ret
      exact ⟨_, by rw [HJE.out]; rfl, HNX.out⟩
end Go.Proofs.YtlpgdfdadkljfaaGreat.Cat
