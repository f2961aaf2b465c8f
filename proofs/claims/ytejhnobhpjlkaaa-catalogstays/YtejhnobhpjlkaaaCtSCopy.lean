/-
  The answer's Copy of entries and of snapshots, and its Short of snapshots.
-/
import Derived.Test.YtejhnobhpjlkaaaCtDeed
import Derived.Test.YtejhnobhpjlkaaaCtTake
namespace Go.Proofs.Ytejhnobhpjlkaaa.Tree
open Go.RowKit Route Chunk Cat

theorem ent_box2 {w wr : World} {c0 c1 c2 : Value} (hb : Below (w.alloc (.cells #[c0, c1, c2] 39)).heap.size (w.alloc (.cells #[c0, c1, c2] 39)) wr) :
    (wr.cell? ⟨w.heap.size, 0, none⟩ = some c0 ∧ wr.cell? ⟨w.heap.size, 1, none⟩ = some c1 ∧ wr.cell? ⟨w.heap.size, 2, none⟩ = some c2) ∧ wr.frozen? ⟨w.heap.size, 0, none⟩ = false ∧ wr.frozen? ⟨w.heap.size, 1, none⟩ = false ∧ wr.frozen? ⟨w.heap.size, 2, none⟩ = false := by
  obtain ⟨h0, h1, h2, _, _⟩ := ent_box hb
  have hf : ∀ i, wr.frozen? ⟨w.heap.size, i, none⟩ = false := fun i => by
    rw [hb.frozen (by show w.heap.size < _; simp)]
    exact World.frozen?_alloc_at _ _ _ _ rfl
  exact ⟨⟨h0, h1, h2⟩, hf 0, hf 1, hf 2⟩

theorem wpList_ent_at {ops : Array Oper} {rest : List Oper} {o : Oper} {a : Act} {Q : Exit → Act → World → Prop} (hgd : o.guard = none) (s x : Operand)
    (ho : o.op = .call { callee := .builtin .append, args := #[s, x], argTypes := #[28, 28] })
    (B : Nat) (v : Value) (Z : List ((ByteArray × Int × List ByteArray) × Value)) (hs : a.eval s = v) (W0 w0 : World) (p : ByteArray) (sz : Int) (C : List ByteArray) (kv : Value) (hb : Ents B v Z W0 w0) (hk : KeyRow B w0 ((p, sz, C), kv)) (b : Nat)
    (hx : a.eval x = .slice (some ⟨b, 0, none⟩) 1 1) (hb0 : b = w0.heap.size) (hlen : Z.length + 1 ≤ 1000000)
    (h : ∀ v' w', Ents B v' (Z ++ [((p, sz, C), kv)]) W0 w' → wpList Try.prog ops Q rest (a.put o.dst v') w') : wpList Try.prog ops Q (o :: rest) a (w0.alloc (.cells #[.string p, .int .i64 sz, kv] 39)) := by
  subst hb0
  exact wpList_ent hgd s x ho B v Z hs W0 w0 ((p, sz, C), kv) hb hk hx hlen h

theorem fresh_texts (w : World) : Strs w.heap.size (.slice (some ⟨w.heap.size, 0, none⟩) 0 0) [] w (w.alloc (.cells #[] 9)) :=
  ⟨World.ownsRow_lit w #[] 0 (Nat.le_refl _) (Nat.zero_le _) rfl, (Below.refl _ _).alloc (Nat.le_refl _) _, Nat.le_of_lt (by simp)⟩

theorem fresh_at (w : World) (b : Nat) (h : b = w.heap.size) : Strs w.heap.size (.slice (some ⟨b, 0, none⟩) 0 0) [] w (w.alloc (.cells #[] 9)) := by
  subst h; exact fresh_texts w

set_option maxHeartbeats 4000000 in
set_option maxRecDepth 100000 in
theorem copy_any (a : Option Addr) (n cap : Nat) (l : List (ByteArray × Int × List ByteArray)) (w : World) (hn0 : n = l.length) (hl0 : LiesE w a l) (hnm : n ≤ 1000) (hks : ∀ j, j < n → (entOf l j).2.2.length ≤ 1000000) :
    Calls Try.prog 35 #[.slice a n cap] w fun e w' => ∃ v Z, e = .returned v ∧ Ents w.heap.size v Z w w' ∧ Z.map (·.1) = l := by
  have HN : Hid (n = l.length) := hn0
  have HL : Hid (LiesE w a l) := hl0
  have HK : Hid (∀ j, j < n → (entOf l j).2.2.length ≤ 1000000) := hks
  clear hn0 hl0 hks
  go_enter Try.func35, Try.ntmps35
  go_wp2
  go_loopw [3, 4, 5] (fun t3 t4 _ wr => ∃ (i : Nat) (Z : List ((ByteArray × Int × List ByteArray) × Value)), t4 = .int .i64 (i : Int) ∧ i ≤ n ∧ Ents w.heap.size t3 Z w wr ∧ Hid (Z.map (·.1) = l.take i)) (fun _ t4 _ _ => n - (intOf t4).toNat)
  case atStart => exact ⟨0, [], rfl, Nat.zero_le _, Ents.nil w, rfl⟩
  case round =>
    obtain ⟨i, Z, rfl, hi, hen, HZ⟩ := hrel
    by_cases hin : i < n
    · obtain ⟨x, hx, g0, g1, ka, kc, g2, hk⟩ := (HL.out.below hen.2.1 (Nat.le_refl _)).at (j := i) (by rw [← HN.out]; exact hin)
      subst hx
      have HZN : Hid (l.take (i + 1) = l.take i ++ [entOf l i]) := take_succ_ent (by rw [← HN.out]; exact hin)
      have hkl := HK.out i hin
      generalize entOf l i = en at g0 g1 g2 hk HZN hkl
      obtain ⟨p, sz, ks⟩ := en
      have hix := index_ent x n cap i hin
      simp only at g0 g1 g2 hk hkl
      obtain ⟨kn, hkn⟩ : ∃ kn, kn = ks.length := ⟨_, rfl⟩
      have HKN : Hid (kn = ks.length) := hkn
      rw [← hkn] at g2 hkl
      have HQL : Hid (∀ W, Below wr.heap.size wr W → W.cell? ⟨(x.add (i * 3)).block, (x.add (i * 3)).off + 2, none⟩ = some (.slice ka kn kc)) := fun W hb => cell_kept hb g2
      generalize x.add (i * 3) = q at g0 g1 g2 hix HQL
      obtain ⟨W5, hW5⟩ : ∃ W5, W5 = wr.alloc (.cells #[.string p, .int .i64 sz, .slice ka kn kc] 39) := ⟨_, rfl⟩
      have HW5 : Hid (wr.alloc (.cells #[.string p, .int .i64 sz, .slice ka kn kc] 39) = W5) := hW5.symm
      have HS5 : Hid (W5.heap.size = wr.heap.size + 1) := by rw [hW5]; show _ = _; simp
      have HB5 : Hid (Below wr.heap.size wr W5) := by rw [hW5]; exact (Below.refl _ _).alloc (Nat.le_refl _) _
      have HKI : Hid (KeysIn W5 ka kc ks) := hk.below HB5.out (Nat.le_refl _)
      have HEN : Hid (Ents w.heap.size u3 Z w wr) := hen
      have HZL : Hid (Z.length ≤ 1000) := by
        show _ ≤ _
        have := congrArg List.length HZ.out
        simp only [List.length_map, List.length_take] at this
        omega
      have hqb : q.block < wr.heap.size := World.block_lt_of_cell? wr _ g0
      rw [← HW5.out] at HKI HB5 HS5
      clear hen hk hkn hW5 HQL HW5
      go_wp2_with (first
        | (at_builtin; refine wpList_strs rfl (.tmp 16) (.tmp 21) rfl (wr.alloc (.cells #[.string p, .int .i64 sz, .slice ka kn kc] 39)).heap.size _ [] rfl (wr.alloc (.cells #[.string p, .int .i64 sz, .slice ka kn kc] 39)) (fresh_at _ _ (by simp)) ks ka kn kc rfl HKN.out (HKI.out.1.below ((Below.refl _ _).alloc (Nat.le_refl _) _) (Nat.le_refl _)) HKI.out.2.2.2 (by rw [HKN.out]; exact HKI.out.2.1) (by show 0 + kn ≤ _; omega) ?_; rw [List.nil_append]; intro v6 w6 hs6; obtain ⟨a6, cap6, rfl, _, _, _⟩ := hs6.liesN HKN.out; obtain ⟨⟨q0, q1, q2⟩, q3, q4, q5⟩ := ent_box2 hs6.2.1; have HS6 : Hid (Strs (wr.alloc (.cells #[.string p, .int .i64 sz, .slice ka kn kc] 39)).heap.size (.slice a6 kn cap6) ks (wr.alloc (.cells #[.string p, .int .i64 sz, .slice ka kn kc] 39)) w6) := hs6; clear hs6)
        | (at_builtin; refine wpList_ent_at rfl (.tmp 24) (.tmp 26) rfl w.heap.size _ Z rfl w (w6.setCell ⟨wr.heap.size, 2, none⟩ (.slice a6 kn cap6)) p sz ks (.slice a6 kn cap6) (HEN.out.later ((HB5.out.trans (HS6.out.2.1.mono (by have := HS5.out; omega))).setCell (show wr.heap.size ≤ wr.heap.size from Nat.le_refl _) _)) (own_any (own_far HS6.out.1 (by have := HS5.out; omega)) (Nat.le_trans HEN.out.2.2.1 (by have := HS5.out; omega))) _ rfl (by simp) (by have := HZL.out; omega) ?_; intro v7 w7 hb7))
      go_roundw
      case rel => exact ⟨i + 1, Z ++ [((p, sz, ks), .slice a6 kn cap6)], by go_num, by omega, hb7, by show _ = _; rw [HZN.out, List.map_append, HZ.out]; rfl⟩
      case measure => simp [intOf]; omega
    · have HE : Hid (Z.map (·.1) = l) := by
        have := HZ.out
        rw [List.take_of_length_le (by rw [← HN.out]; omega)] at this
        exact this
      go_wp2
      go_ret
      exact ⟨_, Z, rfl, hen, HE.out⟩

end Go.Proofs.Ytejhnobhpjlkaaa.Tree
namespace Go.Proofs.Ytejhnobhpjlkaaa.Cat
open Go.RowKit Route Tree Order

theorem wpList_snap_at {ops : Array Oper} {rest : List Oper} {o : Oper} {a : Act} {Q : Exit → Act → World → Prop} (hgd : o.guard = none) (s x : Operand)
    (ho : o.op = .call { callee := .builtin .append, args := #[s, x], argTypes := #[42, 42] })
    (B : Nat) (v : Value) (Z : List SZ) (hs : a.eval s = v) (w0 : World) (z : SZ) (hb : SRow B v Z w0) (hB : B ≤ w0.heap.size) (hz : ERow B w0 z) (ha : ∀ y ∈ Z, Apart y z)
    (bk : Nat) (hbk : bk = w0.heap.size) (hx : a.eval x = .slice (some ⟨bk, 0, none⟩) 1 1) (hlen : Z.length + 1 ≤ 1000000)
    (h : ∀ v' w', Hid (SRow B v' (Z ++ [z]) w') → Hid ((w0.alloc (.cells #[.int .i64 z.1, .string z.2.1, .bool z.2.2.1, z.2.2.2.1] 52)).grownBy w' v.ownBlock) → wpList Try.prog ops Q rest (a.put o.dst v') w') : wpList Try.prog ops Q (o :: rest) a (w0.alloc (.cells #[.int .i64 z.1, .string z.2.1, .bool z.2.2.1, z.2.2.2.1] 52)) := by
  subst hbk
  exact wpList_snap hgd s x ho B v Z hs w0 z hb hB hz ha hx hlen h

set_option maxHeartbeats 8000000 in
set_option maxRecDepth 100000 in
theorem copyS_any (a : Option Addr) (n cap : Nat) (S : List Snap) (w : World) (hn : n = S.length) (hl : LiesN w a S) (hm : n ≤ 100000) (hs : ∀ s ∈ S, SFew s) :
    Calls Try.prog 17 #[.slice a n cap] w fun e w' => ∃ v Z, e = .returned v ∧ Z.map snapOf = S ∧ SRow w.heap.size v Z w' ∧ Below w.heap.size w w' := by
  have HN : Hid (n = S.length) := hn
  have HL : Hid (LiesN w a S) := hl
  have HC : Hid (∀ i, i < n → ∀ (ea : Option Addr) (ec : Nat) W, LiesE W ea (snapAt S i).2.2.2 → Calls Try.prog 35 #[.slice ea (snapAt S i).2.2.2.length ec] W fun e w' => ∃ v Y, e = .returned v ∧ Ents W.heap.size v Y W w' ∧ Y.map (·.1) = (snapAt S i).2.2.2) := fun i hi ea ec W hle => by
    have hf := hs (snapAt S i) (snapAt_mem (by rw [← hn]; exact hi))
    exact copy_any ea _ ec _ W rfl hle hf.1 hf.2
  clear hn hl hs
  go_enter Try.func17, Try.ntmps17
  go_wp2
  go_loopw [3, 4, 5] (fun t3 t4 _ wr => ∃ (i : Nat) (Z : List SZ), t4 = .int .i64 (i : Int) ∧ i ≤ n ∧ Hid (Z.map snapOf = S.take i) ∧ Hid (SRow w.heap.size t3 Z wr) ∧ Hid (Below w.heap.size w wr)) (fun _ t4 _ _ => n - (intOf t4).toNat)
  case atStart => exact ⟨0, [], rfl, Nat.zero_le _, (by simp : List.map snapOf [] = S.take 0), SRow.nil _ _, Below.refl _ _⟩
  case round =>
    obtain ⟨i, Z, rfl, hi, HZ, HR, HB⟩ := hrel
    by_cases hin : i < n
    · obtain ⟨x, hx, g0, g1, g2, ea, ec, g3, _, _, hle⟩ := (HL.out.below HB.out (Nat.le_refl _)).at (j := i) (by rw [← HN.out]; exact hin)
      subst hx
      have hcc := HC.out i hin ea ec
      have HT : Hid (S.take (i + 1) = S.take i ++ [snapAt S i]) := snap_take (by rw [← HN.out]; exact hin)
      have HZL : Hid (Z.length + 1 ≤ 1000000) := by
        have := congrArg List.length HZ.out
        rw [List.length_map, List.length_take] at this
        show _ ≤ _
        omega
      generalize snapAt S i = s at g0 g1 g2 g3 hle hcc HT
      obtain ⟨c0, n0, d0, es⟩ := s
      simp only at g0 g1 g2 g3 hle hcc
      obtain ⟨en, hen⟩ : ∃ en, en = es.length := ⟨_, rfl⟩
      have HEN : Hid (en = es.length) := hen
      rw [← hen] at g3 hcc
      have hix := index_snap x n cap i hin
      generalize x.add (i * 4) = q at g0 g1 g2 g3 hix
      have hba : Below wr.heap.size wr (wr.alloc (.cells #[.int .i64 c0, .string n0, .bool d0, .slice ea en ec] 52)) := (Below.refl _ _).alloc (Nat.le_refl _) _
      have HCC : Hid (Calls _ _ _ _ _) := hcc (wr.alloc (.cells #[.int .i64 c0, .string n0, .bool d0, .slice ea en ec] 52)) (hle.below hba (Nat.le_refl _))
      have HBA : Hid (Below wr.heap.size wr (wr.alloc (.cells #[.int .i64 c0, .string n0, .bool d0, .slice ea en ec] 52))) := hba
      have G3 : (wr.alloc (.cells #[.int .i64 c0, .string n0, .bool d0, .slice ea en ec] 52)).cell? ⟨q.block, q.off + 3, none⟩ = some (.slice ea en ec) := cell_kept hba g3
      clear hcc hle hba hen
      go_wp2_with fail
      refine HCC.out.mono ?_
      rintro e w3 ⟨v3, Y3, rfl, he3, hY3⟩
      obtain ⟨a3, cap3, rfl, _, _⟩ := he3.liesN (HEN.out.trans (by rw [← hY3, List.length_map]))
      have hb3 := he3.2.1
      have b0 : w3.cell? ⟨wr.heap.size, 0, none⟩ = some (.int .i64 c0) := cell_kept hb3 (by simp)
      have b1 : w3.cell? ⟨wr.heap.size, 1, none⟩ = some (.string n0) := cell_kept hb3 (by simp)
      have b2 : w3.cell? ⟨wr.heap.size, 2, none⟩ = some (.bool d0) := cell_kept hb3 (by simp)
      have b3 : w3.cell? ⟨wr.heap.size, 3, none⟩ = some (.slice ea en ec) := cell_kept hb3 (by simp)
      have f3 : w3.frozen? ⟨wr.heap.size, 3, none⟩ = false := by
        rw [hb3.frozen (by show wr.heap.size < _; simp)]
        exact World.frozen?_alloc_at _ _ _ _ rfl
      have hbw : Below wr.heap.size wr w3 := HBA.out.trans (hb3.mono HBA.out.size)
      have hbs : Below wr.heap.size wr (w3.setCell ⟨wr.heap.size, 3, none⟩ (.slice a3 en cap3)) := hbw.setCell (show wr.heap.size ≤ wr.heap.size from Nat.le_refl _) _
      have HR4 : Hid (SRow w.heap.size u3 Z (w3.setCell ⟨wr.heap.size, 3, none⟩ (.slice a3 en cap3))) := HR.out.below hbs
      have HB4 : Hid (Below w.heap.size w (w3.setCell ⟨wr.heap.size, 3, none⟩ (.slice a3 en cap3))) := HB.out.trans (hbs.mono HB.out.size)
      have HE4 : Hid (ERow w.heap.size (w3.setCell ⟨wr.heap.size, 3, none⟩ (.slice a3 en cap3)) (c0, n0, d0, .slice a3 en cap3, Y3) ∧ ∀ y ∈ Z, Apart y (c0, n0, d0, .slice a3 en cap3, Y3)) := by
        have hlt : wr.heap.size < (wr.alloc (.cells #[.int .i64 c0, .string n0, .bool d0, .slice ea en ec] 52)).heap.size := by simp
        have hsz := HB.out.size
        refine ⟨⟨own_any (ownsRow_setCell_below he3.1 (a := ⟨wr.heap.size, 3, none⟩) hlt _) (by omega), fun y hy => own_any (ownsRow_setCell_below (he3.2.2.2 y hy) (a := ⟨wr.heap.size, 3, none⟩) hlt _) (by omega)⟩, fun y hy => ?_⟩
        unfold Apart
        cases hb : y.2.2.2.1.ownBlock with
        | none => exact .inl rfl
        | some g =>
          right
          intro e
          have h1 := ((HR.out.ents y hy).1.lt g hb).2
          have h2 := (he3.1.lt g e.symm).1
          omega
      have HZ4 : Hid ((Z ++ [(c0, n0, d0, Value.slice a3 en cap3, Y3)]).map snapOf = S.take (i + 1)) := by
        show List.map snapOf (Z ++ [(c0, n0, d0, Value.slice a3 en cap3, Y3)]) = S.take (i + 1)
        rw [HT.out, List.map_append, HZ.out, List.map_cons, List.map_nil]
        unfold snapOf
        simp only [hY3]
      have hfit : w.heap.size ≤ (w3.setCell ⟨wr.heap.size, 3, none⟩ (.slice a3 en cap3)).heap.size := HB4.out.size
      clear he3 hY3 hb3 hbw hbs HCC HBA HR HB HZ HT HEN G3 g0 g1 g2 g3 hix
      go_wp2_with (at_builtin; refine wpList_snap_at rfl (.tmp 23) (.tmp 25) rfl w.heap.size _ Z rfl (w3.setCell ⟨wr.heap.size, 3, none⟩ (.slice a3 en cap3)) (c0, n0, d0, .slice a3 en cap3, Y3) HR4.out hfit HE4.out.1 HE4.out.2 w3.heap.size (by simp [World.setCell]) rfl HZL.out ?_; intro v' w4 hb4 hg4)
      have HB5 : Hid (Below w.heap.size w w4) := (HB4.out.alloc HB4.out.size _).grown hg4.out (Nat.le_trans HB4.out.size ((Below.refl _ _).alloc (Nat.le_refl _) _).size) (fun k hk => (HR4.out.own.lt k hk).1)
      clear HB4 HR4 HE4 hg4 b0 b1 b2 b3 f3 hfit
      go_roundw
      case rel => exact ⟨i + 1, _, by go_num, by omega, HZ4, hb4, HB5⟩
      case measure => simp [intOf]; omega
    · have HH : Hid (Z.map snapOf = S) := by
        have h9 := HZ.out
        rw [List.take_of_length_le (by rw [← HN.out]; omega)] at h9
        exact h9
      go_wp2
      go_ret
      exact ⟨_, Z, rfl, HH.out, HR.out, HB.out⟩

/-- What Short tells of snapshots. -/
def ShS (n : Nat) (S : List Snap) (w : World) (e : Ending) (w' : World) : Prop := ∃ b, e = .returned (.bool b) ∧ w' = w ∧ Hid (b = true → n ≤ 100 ∧ ∀ j, j < n → SGiven (snapAt S j) ∧ (snapAt S j).2.1.size ≤ 2000)

set_option maxHeartbeats 4000000 in
set_option maxRecDepth 100000 in
theorem shortS_any (a : Option Addr) (n cap : Nat) (S : List Snap) (w : World) (hn : n = S.length) (hl : LiesN w a S) (hm : n ≤ 9223372036854775807) (hs : ∀ s ∈ S, s.2.1.size ≤ maxLen) :
    Calls Try.prog 16 #[.slice a n cap] w (ShS n S w) := by
  have HN : Hid (n = S.length) := hn
  have HL : Hid (LiesN w a S) := hl
  have HS : Hid (∀ s ∈ S, s.2.1.size ≤ maxLen) := hs
  clear hn hl hs
  go_enter Try.func16, Try.ntmps16
  by_cases hn100 : 100 < n
  · go_wp2
    go_ret
    exact ⟨_, rfl, rfl, fun e => (by cases e)⟩
  go_wp2
  go_loop [2, 3, 4] (fun t2 t3 _ => ∃ i : Nat, t2 = .bool false ∧ t3 = .int .i64 (i : Int) ∧ i ≤ n ∧ Hid (∀ j, j < i → SGiven (snapAt S j) ∧ (snapAt S j).2.1.size ≤ 2000)) (fun _ t3 _ => n - (intOf t3).toNat)
  case atStart => exact ⟨0, rfl, rfl, Nat.zero_le _, fun j hj => by omega⟩
  case round =>
    obtain ⟨i, rfl, rfl, hi, HI⟩ := hrel
    by_cases hin : i < n
    · obtain ⟨x, hx, g0, g1, g2, ea, ec, g3, _, _, hle⟩ := HL.out.at (j := i) (by rw [← HN.out]; exact hin)
      subst hx
      have HNS : Hid ((snapAt S i).2.1.size ≤ maxLen) := HS.out _ (snapAt_mem (by rw [← HN.out]; exact hin))
      have hix := index_snap x n cap i hin
      generalize hsn : snapAt S i = s at g0 g1 g2 g3 hle HNS
      have HSI : Hid (snapAt S i = s) := hsn
      obtain ⟨c0, n0, d0, es⟩ := s
      simp only at g0 g1 g2 g3 hle HNS
      obtain ⟨en, hen⟩ : ∃ en, en = es.length := ⟨_, rfl⟩
      have HEN : Hid (en = es.length) := hen
      rw [← hen] at g3
      have HSH : Hid (Calls _ _ _ _ _) := Tree.short_any ea en ec es w hen hle
      generalize x.add (i * 4) = q at g0 g1 g2 g3 hix
      obtain ⟨y, hy⟩ : ∃ y, y = n0.size := ⟨_, rfl⟩
      have HY : Hid (y = n0.size) := hy
      have hlen := Order.len_text n0 y hy
      have hym : y ≤ 9223372036854775807 := by rw [hy]; exact HNS.out
      clear hsn hen hle hy
      go_wp2_with fail
      refine HSH.out.mono ?_
      rintro e w3 ⟨⟨b, rfl, hb⟩, rfl⟩
      have HBB : Hid (b = true → en ≤ 100 ∧ ∀ j, j < en → shortE (entOf es j)) := hb
      clear hb HSH
      cases b
      · go_wp2
        go_ret
        exact ⟨_, rfl, rfl, fun e => (by cases e)⟩
      by_cases hy2 : 2000 < y
      · go_wp2
        go_ret
        exact ⟨_, rfl, rfl, fun e => (by cases e)⟩
      have HI2 : Hid (∀ j, j < i + 1 → SGiven (snapAt S j) ∧ (snapAt S j).2.1.size ≤ 2000) := fun j hj => by
        by_cases e : j = i
        · subst e
          rw [HSI.out]
          have hb := HBB.out (by simp)
          have hy3 : n0.size ≤ 2000 := by rw [← HY.out]; omega
          exact ⟨⟨by show n0.size ≤ _; omega, by show EntsOk es.length es; rw [← HEN.out]; exact ⟨HEN.out, hb.1, hb.2⟩⟩, hy3⟩
        · exact HI.out j (by omega)
      go_wp2
      go_round
      case rel => exact ⟨i + 1, rfl, by go_num, by omega, HI2⟩
      case measure => simp [intOf]; omega
    · go_wp2
      go_ret
      exact ⟨_, rfl, rfl, fun _ => ⟨by omega, fun j hj => HI.out j (by omega)⟩⟩
end Go.Proofs.Ytejhnobhpjlkaaa.Cat
