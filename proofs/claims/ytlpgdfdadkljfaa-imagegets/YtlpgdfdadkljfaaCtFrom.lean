/-
  From: a catalog of snapshots that are handed in, or none.
-/
import Derived.Test.YtlpgdfdadkljfaaCtImg
namespace Go.Proofs.Ytlpgdfdadkljfaa.Cat
open Go.RowKit Route Tree Order

/-- May these be a catalog's, one behind the other? -/
def May (S : List Snap) : Prop := ∀ i, i < S.length → takes (S.take i) (snapAt S i) = true

theorem rest_keys {sz : Int} : ∀ {l : List ByteArray} {s : Nat}, restB sz s l = true → ∀ k ∈ l, k.size ≤ 64
  | [], _, _, k, hk => by cases hk
  | x :: l, s, h, k, hk => by
    rw [restB, Bool.and_eq_true, decide_eq_true_eq] at h
    rcases List.mem_cons.1 hk with rfl | hk
    · exact h.1.2
    · exact rest_keys h.2 k hk

theorem takes_iff {T : List Snap} {s : Snap} : takes T s = true ↔ (0 ≤ s.1 ∧ s.1 ≤ 7) ∧ isPart s.2.1 = true ∧ count s.1 T < 8 ∧ place s.1 s.2.1 T = none ∧ isTree s.2.2.2 ∧ ∀ e ∈ s.2.2.2, e.2.2.length ≤ 16 := by
  have hp : (!(place s.1 s.2.1 T).isSome) = true ↔ place s.1 s.2.1 T = none := by
    cases place s.1 s.2.1 T <;> simp
  unfold takes
  rw [Bool.and_eq_true, Bool.and_eq_true, Bool.and_eq_true, Bool.and_eq_true, decide_eq_true_eq, decide_eq_true_eq, hp, entsB_iff]
  constructor
  · rintro ⟨⟨⟨⟨h1, h2⟩, h3⟩, h4⟩, h5⟩
    exact ⟨h1, h2, h3, h4, h5⟩
  · rintro ⟨h1, h2, h3, h4, h5⟩
    exact ⟨⟨⟨⟨h1, h2⟩, h3⟩, h4⟩, h5⟩

theorem inv_take {T : List Snap} {s : Snap} (h : Inv T) (ht : takes T s = true) : Inv (T ++ [s]) := by
  obtain ⟨hc, hn, hm, hp, hE, hk⟩ := takes_iff.1 ht
  have hpn := place_none hp
  have hts := treeL_iff.1 hE
  have hmem : ∀ x ∈ T ++ [s], x ∈ T ∨ x = s := fun x hx => by
    rcases List.mem_append.1 hx with h | h
    · exact .inl h
    · exact .inr (List.mem_singleton.1 h)
  refine ⟨fun x hx => ?_, fun x hx => ?_, fun x hx => ?_, fun x hx => ?_, ?_, fun c => ?_⟩
  · rcases hmem x hx with hx | rfl
    · exact h.client x hx
    · exact hc
  · rcases hmem x hx with hx | rfl
    · exact h.name x hx
    · exact hn
  · rcases hmem x hx with hx | rfl
    · exact h.tree x hx
    · exact hE
  · rcases hmem x hx with hx | rfl
    · exact h.ents x hx
    · exact fun e he => ⟨path_size (hts.2.1 e he).1, hk e he, rest_keys (hts.2.1 e he).2⟩
  · refine List.pairwise_append.2 ⟨h.once, by simp, fun a ha b hb => ?_⟩
    rw [List.mem_singleton.1 hb]
    exact fun h1 h2 => hpn a ha ⟨h1, h2⟩
  · rw [count_app]
    by_cases e : s.1 = c
    · subst e
      have : count s.1 [s] = 1 := by simp [count, mine]
      rw [this]; omega
    · have : count c [s] = 0 := by simp [count, mine, e]
      rw [this]; exact h.most c

theorem may_inv {S : List Snap} (h : May S) : ∀ i, i ≤ S.length → Inv (S.take i)
  | 0, _ => by rw [List.take_zero]; exact Inv.nil
  | i + 1, hi => by
    rw [List.take_succ_eq_append_getElem (by omega), ← snapAt_get (by omega)]
    exact inv_take (may_inv h i (by omega)) (h i (by omega))

theorem May.inv {S : List Snap} (h : May S) : Inv S := by
  have := may_inv h S.length (Nat.le_refl _)
  rwa [List.take_length] at this

theorem inv_may {S : List Snap} (h : Inv S) : May S := by
  intro i hi
  have hs := snapAt_mem hi
  have hcat : S.take (i + 1) = S.take i ++ [snapAt S i] := by rw [List.take_succ_eq_append_getElem hi, snapAt_get hi]
  have h2 := h.sub (List.take_sublist (i + 1) S)
  rw [hcat] at h2
  refine takes_iff.2 ⟨h.client _ hs, h.name _ hs, ?_, ?_, h.tree _ hs, fun e he => (h.ents _ hs e he).2.1⟩
  · have := h2.most (snapAt S i).1
    rw [count_app] at this
    have h1 : count (snapAt S i).1 [snapAt S i] = 1 := by simp [count, mine]
    omega
  · refine place_no fun s hs' => ?_
    have := (List.pairwise_append.1 h2.once).2.2 s hs' _ (List.mem_singleton.2 rfl)
    cases q : isOne (snapAt S i).1 (snapAt S i).2.1 s with
    | false => rfl
    | true =>
      simp only [isOne, Bool.and_eq_true, decide_eq_true_eq] at q
      exact absurd q.2 (this q.1)

theorem Inv.given {S : List Snap} (h : Inv S) : ∀ s ∈ S, SGiven s := fun s hs => ⟨by have := part_size (h.name s hs); omega, EntsFit.ok ⟨h.tree s hs, h.ents s hs⟩⟩

theorem given_short {s : Snap} (h : SGiven s) : SShort s := by
  refine ⟨h.1, by have := h.2.2.1; omega, fun e he => ?_⟩
  obtain ⟨j, hj, rfl⟩ := List.mem_iff_getElem.1 he
  have := h.2.2.2 j hj
  rw [ent_get hj] at this
  exact ⟨by have := this.1; omega, by have := this.2.1; omega, fun k hk => by have := this.2.2 k hk; omega⟩

/-- A snapshot put behind, and stored. -/
theorem take_done {p : Nat} {v v5 : Value} {Z : List SZ} {z : SZ} {w w5 : World} (h : Cat p p v Z w) (h5 : SRow p v5 (Z ++ [z]) w5) (hg : (w.alloc (.cells #[.int .i64 z.1, .string z.2.1, .bool z.2.2.1, z.2.2.2.1] 52)).grownBy w5 v.ownBlock) :
    Cat p p v5 (Z ++ [z]) (w5.setCell ⟨p, 0, none⟩ v5) ∧ w5.heap[p]? = w.heap[p]? ∧ Below p w (w5.setCell ⟨p, 0, none⟩ v5) := by
  have hp := (h.owns (.inl rfl : Owns p v Z p)).2
  have hbp : Below w.heap.size w (w.alloc (.cells #[.int .i64 z.1, .string z.2.1, .bool z.2.2.1, z.2.2.2.1] 52)) := (Below.refl _ _).alloc (Nat.le_refl _) _
  have hvp : v.ownBlock ≠ some p := fun e => by
    rcases h.row.2 with ⟨rfl, _⟩ | ⟨g, cap, cur, rfl, _, hgg, _⟩
    · simp [Value.ownBlock] at e
    · simp [Value.ownBlock] at e
      subst e
      rw [h.box] at hgg
      simp at hgg
  have hwp : w5.heap[p]? = w.heap[p]? := (hg.block p (Nat.lt_of_lt_of_le hp hbp.size) fun e => hvp e.symm).trans (hbp.block p hp)
  obtain ⟨s1, s2, s3, s4, s5⟩ := heap_setCell (w := w5) (r := p) (i := 0) (x := v5)
  have hbox : (w5.setCell ⟨p, 0, none⟩ v5).heap[p]? = some (.cells #[v5] 60 (0, 0)) := by
    have := heap_setCell_same w5 p 0 _ 60 v5 (hwp.trans h.box)
    simpa using this
  have hne : ∀ {e : TypeId} {s n : Nat} {u : Value} {us : List Value}, w5.ownsRow p e s u n us → e ≠ 60 → (w5.setCell ⟨p, 0, none⟩ v5).ownsRow p e s u n us := fun {e s n u us} h1 hte => by
    refine own_keep h1 fun g hg => s1 g fun e1 => ?_
    subst e1
    rcases h1.2 with ⟨rfl, _⟩ | ⟨g', cap, cur, rfl, _, hgg, _⟩
    · simp [Value.ownBlock] at hg
    · simp [Value.ownBlock] at hg
      subst hg
      rw [hwp, h.box] at hgg
      simp at hgg
      exact hte hgg.2.symm
  refine ⟨⟨hbox, h.low, hne h5.own (by decide), fun z hz => ⟨hne (h5.ents z hz).1 (by decide), fun y hy => hne ((h5.ents z hz).2 y hy) (by decide)⟩, h5.apart⟩, hwp, ⟨s3.trans (hg.os.trans hbp.os), s4.trans (hg.tape.trans hbp.tape), s5.trans (hg.output.trans hbp.output), by rw [s2]; exact Nat.le_trans hbp.size hg.size, fun k hk => ?_⟩⟩
  rw [s1 k (by omega)]
  refine (hg.block k (by have := hbp.size; omega) fun e => ?_).trans (hbp.block k (by omega))
  have := (h.row.lt k e.symm).1
  omega

/-- What From tells. -/
def FromP (S : List Snap) (w : World) (e : Ending) (w' : World) : Prop :=
  (May S ∧ ∃ v Z, e = .returned (.tuple #[.pointer (some ⟨w.heap.size, 0, none⟩), .nilIface]) ∧ Z.map snapOf = S ∧ Cat w.heap.size w.heap.size v Z w' ∧ Below w.heap.size w w') ∨
  (¬ May S ∧ e = .returned (.tuple #[.pointer none, .iface 36 (.int .i64 1)]) ∧ Below w.heap.size w w')

theorem FromP.yes {S : List Snap} {w w' : World} {e : Ending} {v : Value} {Z : List SZ} (h : May S) (he : e = .returned (.tuple #[.pointer (some ⟨w.heap.size, 0, none⟩), .nilIface])) (h1 : Z.map snapOf = S) (h2 : Cat w.heap.size w.heap.size v Z w') (h3 : Below w.heap.size w w') : FromP S w e w' := .inl ⟨h, v, Z, he, h1, h2, h3⟩
theorem FromP.not {S : List Snap} {w w' : World} {e : Ending} (h : ¬ May S) (he : e = .returned (.tuple #[.pointer none, .iface 36 (.int .i64 1)])) (h3 : Below w.heap.size w w') : FromP S w e w' := .inr ⟨h, he, h3⟩

set_option maxHeartbeats 8000000 in
set_option maxRecDepth 100000 in
theorem from_any (a : Option Addr) (n cap : Nat) (S : List Snap) (w : World) (hn : n = S.length) (hl : LiesN w a S) (hm : n ≤ 100000) (hS : ∀ s ∈ S, SGiven s) :
    Calls Try.prog 9 #[.slice a n cap] w (FromP S w) := by
  have HN : Hid (n = S.length) := hn
  have HL : Hid (LiesN w a S) := hl
  have HSG : Hid (∀ s ∈ S, SGiven s) := hS
  clear hn hl hS
  go_enter Try.func9, Try.ntmps9
  go_wp2_with fail
  refine (new_any w).mono ?_
  rintro e w1 ⟨rfl, hw1⟩
  have HC1 : Hid (Cat w.heap.size w.heap.size (.slice none 0 0) [] w1 ∧ Below w.heap.size w w1) := by
    rw [hw1]; exact ⟨cat_new (Nat.le_refl _), (Below.refl _ _).alloc (Nat.le_refl _) _⟩
  obtain ⟨p, hp⟩ : ∃ p, p = w.heap.size := ⟨_, rfl⟩
  have HP : Hid (p = w.heap.size) := hp
  rw [← hp] at HC1
  rw [← hp]
  clear hw1 hp
  go_wp2
  go_loopw [2, 3, 6, 10] (fun t2 t3 _ t10 wr => ∃ (i : Nat) (v : Value) (Z : List SZ), t2 = .pointer none ∧ t3 = .nilIface ∧ t10 = .int .i64 (i : Int) ∧ i ≤ n ∧ Hid (Cat p p v Z wr ∧ Below p w wr) ∧ Hid (Z.map snapOf = S.take i ∧ ∀ j, j < i → takes (S.take j) (snapAt S j) = true)) (fun _ _ _ t10 _ => n - (intOf t10).toNat)
  case atStart => exact ⟨0, _, _, rfl, rfl, rfl, Nat.zero_le _, HC1, (rfl : List.map snapOf [] = []), fun j hj => by omega⟩
  case round =>
    obtain ⟨i, v, Z, rfl, rfl, rfl, hi, HC, HZ⟩ := hrel
    clear HC1
    by_cases hin : i < n
    · have hlow : w.heap.size ≤ p := by rw [HP.out]; exact Nat.le_refl _
      obtain ⟨x, hx, g0, g1, g2, ea, ec, g3, hec, _, hle⟩ := (HL.out.below HC.out.2 hlow).at (j := i) (by rw [← HN.out]; exact hin)
      subst hx
      have HG : Hid (SGiven (snapAt S i)) := HSG.out _ (snapAt_mem (by rw [← HN.out]; exact hin))
      have HT : Hid (S.take (i + 1) = S.take i ++ [snapAt S i]) := snap_take (by rw [← HN.out]; exact hin)
      have hix := index_snap x n cap i hin
      generalize hs : snapAt S i = s at g0 g1 g2 g3 hec hle HG HT
      have HSI : Hid (snapAt S i = s) := hs
      obtain ⟨c, nm, d, es⟩ := s
      simp only at g0 g1 g2 g3 hec hle
      generalize x.add (i * 4) = q at g0 g1 g2 g3 hix
      have hba : Below wr.heap.size wr (wr.alloc (.cells #[.int .i64 c, .string nm, .bool d, .slice ea es.length ec] 52)) := (Below.refl _ _).alloc (Nat.le_refl _) _
      obtain ⟨a1, n1, cap1, hv, hsee⟩ := (HC.out.1.below hba).see
      rw [HZ.out.1] at hsee
      have HMT : Hid (Calls _ _ _ _ _) := mayTake_any p a1 n1 cap1 (S.take i) c nm d ea es.length ec es _ hsee HG.out.1 HG.out.2 (hle.below hba (Nat.le_refl _)) hec
      have HEC : Hid (LiesE wr ea es) := hle
      obtain ⟨en, hen⟩ : ∃ en, en = es.length := ⟨_, rfl⟩
      have HEN : Hid (en = es.length) := hen
      rw [← hen] at g3 HMT
      subst hv
      clear hs hsee hba hec hle hen hlow
      go_wp2_with fail
      refine HMT.out.mono ?_
      rintro e w3 ⟨rfl, hb3⟩
      have HB3 : Hid (Below _ _ w3) := hb3
      clear hb3 HMT g0 g1 g2 g3 hix
      obtain ⟨tk, htk⟩ : ∃ tk, takes (S.take i) (c, nm, d, es) = tk := ⟨_, rfl⟩
      rw [htk]
      have HTK : Hid (takes (S.take i) (c, nm, d, es) = tk) := htk
      clear htk
      have hb0 : Below wr.heap.size wr (wr.alloc (.cells #[.int .i64 c, .string nm, .bool d, .slice ea en ec] 52)) := (Below.refl _ _).alloc (Nat.le_refl _) _
      have HBW : Hid (Below wr.heap.size wr w3) := hb0.trans (HB3.out.mono hb0.size)
      clear hb0
      cases tk
      · have HNM : Hid (¬ May S) := fun h => by
          have := h i (by rw [← HN.out]; exact hin)
          rw [HSI.out, HTK.out] at this
          cases this
        have HBE : Hid (Below w.heap.size w w3) := by
          have := HC.out.2.trans (HBW.out.mono (Nat.le_of_lt (HC.out.1.owns (.inl rfl)).2))
          rwa [HP.out] at this
        go_wp2
        go_ret2
        exact FromP.not HNM.out rfl HBE.out
      · have c0 : w3.cell? ⟨p, 0, none⟩ = some (.slice a1 n1 cap1) := by
          rw [cell_of_row w3 p 0 _ _ (0, 0) (HC.out.1.below HBW.out).box]; rfl
        have b0 : w3.cell? ⟨wr.heap.size, 0, none⟩ = some (.int .i64 c) := cell_kept HB3.out (by simp)
        have b1 : w3.cell? ⟨wr.heap.size, 1, none⟩ = some (.string nm) := cell_kept HB3.out (by simp)
        have b2 : w3.cell? ⟨wr.heap.size, 2, none⟩ = some (.bool d) := cell_kept HB3.out (by simp)
        have b3 : w3.cell? ⟨wr.heap.size, 3, none⟩ = some (.slice ea en ec) := cell_kept HB3.out (by simp)
        have HCS : Hid (∀ W, Below w3.heap.size w3 W → Calls Try.prog 24 #[.agg #[.int .i64 c, .string nm, .bool d, .slice ea en ec]] W fun e w' => ∃ a3 cap3, e = .returned (.agg #[.int .i64 c, .string nm, .bool d, .slice a3 en cap3]) ∧ w'.cell? ⟨p, 0, none⟩ = some (.slice a1 n1 cap1) ∧ (w'.alloc (.cells #[.int .i64 c, .string nm, .bool d, .slice a3 en cap3] 52)).cell? ⟨p, 0, none⟩ = some (.slice a1 n1 cap1) ∧
            ∃ a5 n5 cap5 w5, (Builtin.append_ #[22, 22] 22 #[.slice a1 n1 cap1, .slice (some ⟨w'.heap.size, 0, none⟩) 1 1]).run Try.prog (w'.alloc (.cells #[.int .i64 c, .string nm, .bool d, .slice a3 en cap3] 52)) = .ok (.slice a5 n5 cap5) w5 ∧ w5.cell? ⟨p, 0, none⟩ = some (.slice a1 n1 cap1) ∧ w5.frozen? ⟨p, 0, none⟩ = false ∧
              Hid (∃ Z5, Z5.map snapOf = S.take (i + 1) ∧ Cat p p (.slice a5 n5 cap5) Z5 (w5.setCell ⟨p, 0, none⟩ (.slice a5 n5 cap5)) ∧ Below p w (w5.setCell ⟨p, 0, none⟩ (.slice a5 n5 cap5)))) := by
          intro W hW
          have hbW : Below wr.heap.size wr W := HBW.out.trans (hW.mono HBW.out.size)
          rw [HEN.out]
          refine (copySnap_any c nm d ea es.length ec es W (given_short HG.out) rfl (HEC.out.below hbW (Nat.le_refl _))).mono ?_
          rintro e w' ⟨v3, Y, rfl, hY, he⟩
          have hl3 : es.length = Y.length := by rw [← hY, List.length_map]
          obtain ⟨a3, cap3, rfl, _, _⟩ := he.liesN hl3
          have hbw' : Below wr.heap.size wr w' := hbW.trans (he.2.1.mono hbW.size)
          have hcat := HC.out.1.below hbw'
          have hzrow : ERow p w' (c, nm, d, .slice a3 es.length cap3, Y) := ⟨own_any he.1 (by have := (HC.out.1.owns (.inl rfl)).2; have := hbW.size; omega), fun y hy => own_any (he.2.2.2 y hy) (by have := (HC.out.1.owns (.inl rfl)).2; have := hbW.size; omega)⟩
          have hap : ∀ y ∈ Z, Apart y (c, nm, d, .slice a3 es.length cap3, Y) := fun y hy => by
            unfold Apart
            cases hb : y.2.2.2.1.ownBlock with
            | none => exact .inl rfl
            | some g =>
              right
              intro e
              have h1 := ((HC.out.1.ents y hy).1.lt g hb).2
              have h2 := (he.1.lt g e.symm).1
              have := hbW.size
              omega
          have hlen : Z.length + 1 ≤ 1000000 := by
            have := congrArg List.length HZ.out.1
            rw [List.length_map, List.length_take] at this
            omega
          obtain ⟨v5, w5, hr, h5, hg5, _⟩ := run_snap (ty := 22) (z := (c, nm, d, .slice a3 es.length cap3, Y)) hcat.srow (Nat.le_trans (Nat.le_of_lt (HC.out.1.owns (.inl rfl)).2) hbw'.size) hzrow hap hlen
          obtain ⟨hcat5, hwp, hbel⟩ := take_done hcat h5 hg5
          obtain ⟨a5, cap5, e5, _⟩ := rows_see h5.own h5.ents
          subst e5
          have hbx : ∀ W' : World, W'.heap[p]? = wr.heap[p]? → W'.cell? ⟨p, 0, none⟩ = some (.slice a1 n1 cap1) ∧ W'.frozen? ⟨p, 0, none⟩ = false := fun W' hW' => by
            have hbp : W'.heap[p]? = some (.cells #[.slice a1 n1 cap1] 60 (0, 0)) := hW'.trans HC.out.1.box
            exact ⟨by rw [cell_of_row W' p 0 _ _ (0, 0) hbp]; rfl, frozen_of_row W' p 0 _ _ hbp⟩
          have hpl := (HC.out.1.owns (.inl rfl : Owns p (.slice a1 n1 cap1) Z p)).2
          have hp1 : w'.heap[p]? = wr.heap[p]? := hbw'.block p hpl
          have hp2 : (w'.alloc (.cells #[.int .i64 c, .string nm, .bool d, .slice a3 es.length cap3] 52)).heap[p]? = wr.heap[p]? := (((Below.refl w'.heap.size w').alloc (Nat.le_refl _) _).block p (Nat.lt_of_lt_of_le hpl hbw'.size)).trans hp1
          refine ⟨a3, cap3, rfl, (hbx _ hp1).1, (hbx _ hp2).1, a5, _, cap5, w5, hr, (hbx _ (hwp.trans hp1)).1, (hbx _ (hwp.trans hp1)).2, _, ?_, hcat5, ?_⟩
          · rw [HT.out, List.map_append, HZ.out.1]
            simp [snapOf, hY]
          · exact (HC.out.2.trans (hbw'.mono (Nat.le_of_lt hpl))).trans (hbel.mono (Nat.le_refl _))
        have HTA : Hid (∀ j, j < i + 1 → takes (S.take j) (snapAt S j) = true) := fun j hj => by
          by_cases e : j = i
          · subst e; rw [HSI.out]; exact HTK.out
          · exact HZ.out.2 j (by omega)
        clear HC HZ HB3 HBW HEC HG HT HSI HTK HEN
        go_wp2_with fail
        go_region_law
          (first
            | (go_simp; go_at_call 24; refine (HCS.out _ ?_).mono ?_; first | exact Below.refl _ _ | exact (Below.refl _ _).drew; rintro e w4 ⟨a3, cap3, rfl, c4, c4', a5, n5, cap5, w5, hrun5, c5, f5, HN5⟩)
            | (refine step_run (by rfl) _ _ _ (by rfl) _ _ _ (by rfl) (by rfl) hrun5 ?_))
        all_goals
          obtain ⟨Z5, hz5, hc5, hb5⟩ := HN5.out
          have HA5 : Hid (Cat p p (.slice a5 n5 cap5) Z5 (w5.setCell ⟨p, 0, none⟩ (.slice a5 n5 cap5)) ∧ Below p w (w5.setCell ⟨p, 0, none⟩ (.slice a5 n5 cap5))) := ⟨hc5, hb5⟩
          have HZ5 : Hid (Z5.map snapOf = S.take (i + 1) ∧ ∀ j, j < i + 1 → takes (S.take j) (snapAt S j) = true) := ⟨hz5, HTA.out⟩
          clear HCS HN5 c4 c4' hrun5 c0 b0 b1 b2 b3 hz5 hc5 hb5 HTA
          go_wp2
          go_roundw
          case rel => exact ⟨i + 1, _, Z5, rfl, rfl, by go_num, by omega, HA5, HZ5⟩
          case measure => simp [intOf]; omega
    · have HF : Hid (May S ∧ Z.map snapOf = S) := by
        have e : i = S.length := by rw [← HN.out]; omega
        have h := HZ.out
        rw [e] at h
        rw [List.take_length] at h
        exact ⟨h.2, h.1⟩
      have HE : Hid (Cat w.heap.size w.heap.size v Z wr ∧ Below w.heap.size w wr) := by
        have := HC.out
        rwa [HP.out] at this
      go_wp2
      go_ret2
      exact FromP.yes HF.out.1 (by rw [HP.out]; rfl) HF.out.2 HE.out.1 HE.out.2
end Go.Proofs.Ytlpgdfdadkljfaa.Cat
