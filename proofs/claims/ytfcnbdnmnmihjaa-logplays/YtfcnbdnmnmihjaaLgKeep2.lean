/-
  What LogKeeps needs of memory, on: behind the tear; rows that were told, written over.
-/
import Derived.Test.YtfcnbdnmnmihjaaLgKeep1
import Derived.Test.YtfcnbdnmnmihjaaLgArgs
namespace Go.Proofs.Ytfcnbdnmnmihjaa
open Go.RowKit

/-- 'append(out, rows...)'. -/
theorem run_rows {ty : TypeId} {L L2 : Nat → Prop} {v : Value} {rs rs2 : List (List UInt8)} {w : World} {ad : Option Addr} {k c : Nat} (hb : Rws L w v rs) (hk : Hid (k = rs2.length)) (hr : SRows L2 w ad rs2) (hL : ∀ k, L2 k → L k ∧ v.ownBlock ≠ some k) (hnil : ad = none → k = 0 ∧ c = 0) (hlen : rs.length + k ≤ 1000000000000) :
    ∃ v' w', (Builtin.append_ #[32, 32] ty #[v, .slice ad k c]).run Try.prog w = .ok v' w' ∧ Rws (fun k => L k ∨ w.heap.size ≤ k) w' v' (rs ++ rs2) ∧ w.grownBy w' v.ownBlock ∧ (v'.ownBlock = v.ownBlock ∨ v'.ownBlock = some w.heap.size) := by
  obtain ⟨i0, hi, hz0, hz1, hz2⟩ := info_parts info31
  have hk' : k = rs2.length := hk
  cases ad with
  | none =>
    obtain ⟨h0, rfl⟩ := hnil rfl
    have hr0 : rs2 = [] := List.eq_nil_of_length_eq_zero (by omega)
    subst hr0; subst h0
    obtain ⟨us, hus⟩ := hb
    have hrun := run_append_owned_none (P := Try.prog) (w := w) 0 32 ty 31 i0 1 Try.underlying32 hi v rs.length us hus.1
    exact ⟨v, w, hrun, by rw [List.append_nil]; exact (show Rws L w v rs from ⟨us, hus⟩).mono fun _ h => .inl h, ⟨rfl, rfl, rfl, Nat.le_refl _, fun _ _ _ => rfl⟩, .inl rfl⟩
  | some x =>
    have hc : ∀ j, j < rs2.length → ∃ u, w.cell? (x.add j) = some u ∧ ∀ (h : j < rs2.length), Slc L2 w u rs2[j] := by
      intro j hj
      rcases hr with rfl | ⟨y, hy, _, h⟩
      · simp at hj
      · simp only [Option.some.injEq] at hy
        subst hy
        obtain ⟨u, h1, h2⟩ := h j hj
        exact ⟨u, h1, fun _ => h2⟩
    obtain ⟨us2, hl2, hp2⟩ := list_of (Value.slice none 0 0) (fun j u => w.cell? (x.add j) = some u ∧ ∀ (h : j < rs2.length), Slc L2 w u rs2[j]) rs2.length hc
    obtain ⟨us, hus⟩ := hb
    obtain ⟨v', w', hrun, h2, h3, _, h5⟩ := run_append_own_at (P := Try.prog) w 0 32 ty 31 i0 (.slice none 0 0) 1 24 Try.underlying32 hi hz0 hz1 hz2 rfl (by decide) v rs.length us hus.1 x k c us2 (by omega)
      (fun j u hj => by
        obtain ⟨hlt, e⟩ := List.getElem?_eq_some_iff.1 hj
        rw [← e]; exact (hp2 j hlt).1)
      (fun u hu => by
        obtain ⟨j, hj, e⟩ := List.getElem_of_mem hu
        rw [← e]; exact ((hp2 j hj).2 (by omega)).one) (by unfold maxLen; omega) (by omega) (Nat.zero_le _)
    refine ⟨v', w', hrun, ?_, h3, h5⟩
    have hU : RwsU (fun k => L k ∧ k < w.heap.size) w v us rs := by
      refine ⟨hus.1, fun g hg => ⟨hus.2.1 g hg, (hus.1.lt g hg).2⟩, fun j hj => ?_⟩
      obtain ⟨u, e, hs⟩ := hus.2.2 j hj
      exact ⟨u, e, hs.bound.mono fun k hk => ⟨⟨hk.1.1, hk.2⟩, hk.1.2⟩⟩
    rw [hk'] at h2
    refine hU.grown (us2 := us2) (rs2 := rs2) h2 h3 h5 (fun j hj => ?_) (fun k hk => .inl hk.1) (.inr (Nat.le_refl _))
    have hj2 : j < us2.length := by omega
    exact ⟨us2[j], List.getElem?_eq_getElem hj2, ((hp2 j hj2).2 hj).bound.mono fun k hk => ⟨⟨(hL k hk.1).1, hk.2⟩, (hL k hk.1).2⟩⟩

theorem wpList_run {ops : Array Oper} {rest : List Oper} {o : Oper} {a : Act} {Q : Exit → Act → World → Prop} {w w' : World} (hgd : o.guard = none) (s x : Operand) (t : TypeId)
    (ho : o.op = .call { callee := .builtin .append, args := #[s, x], argTypes := #[t, t] }) (vs vx v' : Value) (hs : a.eval s = vs) (hx : a.eval x = vx)
    (hrun : (Builtin.append_ #[t, t] o.type #[vs, vx]).run Try.prog w = .ok v' w') (h : wpList Try.prog ops Q rest (a.put o.dst v') w') : wpList Try.prog ops Q (o :: rest) a w := by
  refine wpList_plain hgd fun K hK => ?_
  unfold Oper.wp execOp
  simp only [ho, resolve, invoke, builtin, Sem.run_bind, Sem.run_pure, Result.andThen_ok, List.map_toArray, List.map_cons, List.map_nil, hs, hx, hrun]
  exact hK _ _ h

theorem Rws.fresh (w : World) : Rws (fun k => w.heap.size ≤ k) (w.alloc (.cells #[] 31)) (.slice (some ⟨w.heap.size, 0, none⟩) 0 0) [] :=
  ⟨[], World.ownsRow_made w #[] 0 (Nat.zero_le _) (Nat.zero_le _) rfl, fun g hg => by simp [Value.ownBlock] at hg; omega, fun j h => absurd h (by simp)⟩

/-- 'append(append([][]byte{}, rows...), b)': both of its steps. -/
theorem run_copy {L2 : Nat → Prop} {rs : List (List UInt8)} {w : World} {ad : Option Addr} {k c : Nat} {u : Value} {b : List UInt8} (hk : Hid (k = rs.length)) (hr : SRows L2 w ad rs) (hL : ∀ k, L2 k → k < w.heap.size) (hu : Slc (fun k => k < w.heap.size) w u b) (hnil : ad = none → k = 0 ∧ c = 0) (hlen : k ≤ 1000000000) :
    ∃ a1 k1 c1 w1, (Builtin.append_ #[32, 32] 32 #[.slice (some ⟨w.heap.size, 0, none⟩) 0 0, .slice ad k c]).run Try.prog (w.alloc (.cells #[] 31)) = .ok (.slice a1 k1 c1) w1 ∧
      ∃ a2 k2 c2 w2, (Builtin.append_ #[32, 32] 32 #[.slice a1 k1 c1, .slice (some ⟨w1.heap.size, 0, none⟩) 1 1]).run Try.prog (w1.alloc (.cells #[u] 31)) = .ok (.slice a2 k2 c2) w2 ∧
        Below w.heap.size w w1 ∧ Hid (k2 = (rs ++ [b]).length) ∧ Rws (fun _ => True) w2 (.slice a2 k2 c2) (rs ++ [b]) ∧ Below w.heap.size w w2 ∧ (a2 = none → k2 = 0 ∧ c2 = 0) := by
  have hba : Below w.heap.size w (w.alloc (.cells #[] 31)) := (Below.refl _ _).alloc (Nat.le_refl _) _
  have hF : Rws (fun _ => True) (w.alloc (.cells #[] 31)) (.slice (some ⟨w.heap.size, 0, none⟩) 0 0) [] := (Rws.fresh w).mono fun _ _ => trivial
  obtain ⟨v1, w1, hrun1, h1, g1, t1⟩ := run_rows (ty := 32) (L2 := L2) hF hk (hr.below hba (Nat.le_refl _)) (fun q hq => ⟨trivial, fun e => by simp [Value.ownBlock] at e; have := hL q hq; omega⟩) hnil (by simp; omega)
  have hb1 : Below w.heap.size w w1 := hba.grown g1 hba.size (fun g hg => by simp [Value.ownBlock] at hg; omega)
  have hv1 : ∀ g, v1.ownBlock = some g → w.heap.size ≤ g := fun g hg => by
    rcases t1 with e | e
    · rw [e] at hg; simp [Value.ownBlock] at hg; omega
    · rw [e] at hg; simp at hg; omega
  rw [List.nil_append] at h1
  obtain ⟨v2, w2, hrun2, h2, g2, _⟩ := run_row1 (ty := 32) (u := u) (r := b) h1 ((hu.below hb1 (Nat.le_refl _)).mono fun q hq => ⟨.inl trivial, fun e => by have := hv1 q e; omega⟩) (by have := hk.out; omega)
  have hb2 : Below w.heap.size w w2 := hb1.grown g2 hb1.size hv1
  obtain ⟨a1, k1, c1, rfl, _⟩ := h1.form
  obtain ⟨a2, k2, c2, rfl, hk2, _, _, _, hn2⟩ := h2.form
  exact ⟨a1, k1, c1, w1, hrun1, a2, k2, c2, w2, hrun2, hb1, hk2, h2.mono fun _ _ => trivial, hb2, hn2⟩

/-- Behind the tear: what is on the tape, and the law's own row. -/
def Kt (W0 w : World) (tp : Nat) (rs1 rs : List (List UInt8)) (v : Value) : Prop :=
  ∃ r l1 Z, St W0 w tp l1 l1.length r ∧ recs l1 = rs1 ∧ Rws Z w v rs ∧ (∀ k, Z k → Off (MT tp r) w k)

theorem torn_ks_not {W0 w : World} {tp lg n k cap : Nat} {a : Option Addr} {b : List UInt8} {rs : List (List UInt8)} {v : Value} {m : Int} (h : Ks W0 w tp lg rs n v) (hm : -9223372036854775808 ≤ m ∧ m ≤ 9223372036854775807) (hk : Hid (k = b.length)) (hb : Lies w a b) (hnil : a = none → k = 0 ∧ cap = 0) (h2 : k ≤ 2000) (hn : n ≤ 1000000)
    (hc : k < 1 ∨ min m.toNat (rec1 b).length < (rec1 b).length) :
    Calls Try.prog 12 #[.pointer (some ⟨lg, 0, none⟩), .slice a k cap, .int .i64 m] w fun e w' => ∃ ge, e = .returned ge ∧ Kt W0 w' tp rs rs v := by
  obtain ⟨r, rv, Z, hs, hg, hl, h4, h5, h6, h7⟩ := h
  by_cases h1 : 1 ≤ k
  · have hrs := rec1_small (b := b) (by rw [← hk.out]; omega)
    have hkb := hk.out
    refine (torn_ok hm hs rfl hk hb hnil h1 (by omega) (by omega)).mono ?_
    rintro e w' ⟨rfl, r', h', ht⟩
    refine ⟨_, rfl, r', _, Z, h'.1, ?_, h4.keep fun q hq => ht.kept (h6 q hq), fun q hq => ⟨(ht.off (h6 q hq)).1, fun hmt => (ht.off (h6 q hq)).2 (.inl hmt)⟩⟩
    rw [recs_laid rs _ hg, recs_no (whole_torn ⟨by omega, by omega⟩ (by omega)), List.append_nil]
  · obtain ⟨hst, L, hl', _⟩ := hs
    refine (torn_bad (write_arg hl' (.inl (by omega)))).mono ?_
    rintro e w' ⟨rfl, rfl⟩
    exact ⟨_, rfl, r, _, Z, hst, recs_back hg, h4, fun q hq => ⟨(h6 q hq).1, fun hmt => (h6 q hq).2 (.inl hmt)⟩⟩

theorem torn_ks_all {W0 w : World} {tp lg n k cap : Nat} {a : Option Addr} {b : List UInt8} {rs : List (List UInt8)} {v : Value} {m : Int} (h : Ks W0 w tp lg rs n v) (hm : -9223372036854775808 ≤ m ∧ m ≤ 9223372036854775807) (hk : Hid (k = b.length)) (hb : Lies w a b) (hnil : a = none → k = 0 ∧ cap = 0) (h1 : 1 ≤ k) (h2 : k ≤ 2000) (hn : n ≤ 1000000)
    (hc : ¬ min m.toNat (rec1 b).length < (rec1 b).length) :
    Calls Try.prog 12 #[.pointer (some ⟨lg, 0, none⟩), .slice a k cap, .int .i64 m] w fun e w' => e = .returned .nilIface ∧ Kt W0 w' tp (rs ++ [b]) rs v := by
  obtain ⟨r, rv, Z, hs, hg, hl, h4, h5, h6, h7⟩ := h
  have hrs := rec1_small (b := b) (by rw [← hk.out]; omega)
  have hkb := hk.out
  refine (torn_ok hm hs rfl hk hb hnil h1 (by omega) (by omega)).mono ?_
  rintro e w' ⟨rfl, r', h', ht⟩
  refine ⟨rfl, r', _, Z, h'.1, ?_, h4.keep fun q hq => ht.kept (h6 q hq), fun q hq => ⟨(ht.off (h6 q hq)).1, fun hmt => (ht.off (h6 q hq)).2 (.inl hmt)⟩⟩
  rw [show min m.toNat (rec1 b).length = (rec1 b).length by omega, List.take_length]
  have := recs_laid (rs ++ [b]) [] (fun c hc => by
    rcases List.mem_append.1 hc with hc | hc
    · exact hg c hc
    · simp only [List.mem_singleton] at hc; subst hc; exact ⟨by omega, by omega⟩)
  rw [List.append_nil, laid_snoc, recs_no whole_nil, List.append_nil] at this
  exact this

def MR (B C : Nat) (k : Nat) : Prop := B ≤ k ∧ k < C

/-- A log that nothing in M is of. -/
def OldX (M : Nat → Prop) (w : World) (lg : Nat) (rs : List (List UInt8)) : Prop := ∃ L tp torn rv, LogAt L w lg tp rs torn rv ∧ (∀ k, L k → Off M w k) ∧ rs.length ≤ 1048576 ∧ ∀ b ∈ rs, b.length ≤ 65536
theorem OldX.old {M : Nat → Prop} {w : World} {lg : Nat} {rs : List (List UInt8)} (h : OldX M w lg rs) : Old w lg rs := by
  obtain ⟨L, tp, torn, rv, h1, h2, h3⟩ := h; exact ⟨L, tp, torn, rv, h1, fun k hk => (h2 k hk).1, h3⟩
theorem OldX.turn {M : Nat → Prop} {w w' : World} {lg : Nat} {rs : List (List UInt8)} (h : OldX M w lg rs) (ht : Turn M M w w') : OldX M w' lg rs := by
  obtain ⟨L, tp, torn, rv, h1, h2, h3⟩ := h
  exact ⟨L, tp, torn, rv, h1.keep fun k hk => ht.kept (h2 k hk), fun k hk => ht.off (h2 k hk), h3⟩
theorem OldX.later {M : Nat → Prop} {w w' : World} {lg : Nat} {rs : List (List UInt8)} (h : OldX M w lg rs) (hb : Below w.heap.size w w') : OldX M w' lg rs := h.turn (Turn.of_below hb)

/-- Rows that were told, whatever they hold by now. -/
def OutsAny (B C : Nat) (w : World) (v : Value) (us : List Value) (n : Nat) : Prop :=
  w.ownsRow B 31 1 v n us ∧ (∀ g, v.ownBlock = some g → g < C) ∧ ∀ j, j < n → ∃ a k cap yl, us[j]? = some (.slice a k cap) ∧ Hid (k = yl.length) ∧ Row B w (.slice a k cap) yl ∧ ∀ g, (Value.slice a k cap).ownBlock = some g → v.ownBlock ≠ some g ∧ g < C

theorem Outs.any {B : Nat} {w : World} {v : Value} {rs : List (List UInt8)} {n : Nat} (h : Outs B w v rs) (hn : n = rs.length) : ∃ us, OutsAny B w.heap.size w v us n := by
  obtain ⟨us, h1, h2⟩ := h
  subst hn
  refine ⟨us, h1, fun g hg => (h1.lt g hg).2, fun j hj => ?_⟩
  obtain ⟨u, e, hr, hne⟩ := h2 j hj
  obtain ⟨a, k, cap, rfl, hk, _⟩ := hr.form
  exact ⟨a, k, cap, _, e, hk, hr, fun g hg => ⟨hne g hg, (hr.lt g hg).2⟩⟩

theorem OutsAny.keep {B C : Nat} {w w' : World} {v : Value} {us : List Value} {n : Nat} (h : OutsAny B C w v us n) (hk : ∀ k, B ≤ k → k < C → w'.heap[k]? = w.heap[k]?) : OutsAny B C w' v us n := by
  obtain ⟨h1, h2, h3⟩ := h
  refine ⟨own_keep h1 fun g hg => hk g (h1.lt g hg).1 (h2 g hg), h2, fun j hj => ?_⟩
  obtain ⟨a, k, cap, yl, e, hk', hr, hg⟩ := h3 j hj
  exact ⟨a, k, cap, yl, e, hk', hr.keep fun g hg' => hk g (hr.lt g hg').1 (hg g hg').2, hg⟩

/-- Two logs, and rows beside them. -/
def Kz (W0 : World) (B C : Nat) (w : World) (lgy lgz : Nat) (rs1 : List (List UInt8)) (v : Value) (us : List Value) (n : Nat) : Prop :=
  OldX (MR B C) w lgy rs1 ∧ OldX (MR B C) w lgz rs1 ∧ Below W0.heap.size W0 w ∧ W0.heap.size ≤ B ∧ OutsAny B C w v us n

theorem Kz.cell {W0 w : World} {B C lgy lgz n cap : Nat} {rs1 : List (List UInt8)} {a : Option Addr} {us : List Value} (h : Kz W0 B C w lgy lgz rs1 (.slice a n cap) us n) (j : Nat) (hj : j < n) :
    ∃ x aj kj cj, a = some x ∧ us[j]? = some (.slice aj kj cj) ∧ kj ≤ maxLen ∧ w.cell? (x.add j) = some (.slice aj kj cj) := by
  obtain ⟨_, _, _, _, h1, _, h3⟩ := h
  obtain ⟨aj, kj, cj, yl, e, _, hr, _⟩ := h3 j hj
  obtain ⟨a', k', cap', hv, _, h6, h7, _⟩ := hr.form
  simp only [Value.slice.injEq] at hv
  obtain ⟨rfl, rfl, rfl⟩ := hv
  rcases h1.2 with ⟨hv, hn⟩ | ⟨g, cap2, cur, hv, _⟩
  · omega
  · simp only [Value.slice.injEq] at hv
    obtain ⟨rfl, _, rfl⟩ := hv
    exact ⟨_, aj, kj, cj, rfl, e, Nat.le_trans h6 h7, World.ownsRow.cells h1 rfl j _ e⟩

theorem Kz.set {W0 w : World} {B C lgy lgz n : Nat} {rs1 : List (List UInt8)} {v : Value} {us : List Value} (h : Kz W0 B C w lgy lgz rs1 v us n) (q : Nat) (hq : q < n) {aq : Option Addr} {kq cq : Nat} (hu : us[q]? = some (.slice aq kq cq)) (j : Nat) (hj : j < kq) :
    ∃ g d : Nat, aq = some ⟨g, 0, none⟩ ∧ d < 256 ∧ w.cell? ⟨g, j, none⟩ = some (.int .u8 (d : Int)) ∧ w.frozen? ⟨g, j, none⟩ = false ∧ Hid (∀ c : Nat, c < 256 → Kz W0 B C (w.setCell ⟨g, j, none⟩ (.int .u8 (c : Int))) lgy lgz rs1 v us n) := by
  obtain ⟨hy, hz, hb, hWB, h1, h2, h3⟩ := h
  obtain ⟨a, k, cap, yl, e, hk, hr, hg⟩ := h3 q hq
  rw [hu] at e
  simp only [Option.some.injEq, Value.slice.injEq] at e
  obtain ⟨rfl, rfl, rfl⟩ := e
  obtain ⟨g, d, rfl, hd, hc, hf, hset⟩ := hr.at_ hk j hj
  refine ⟨g, d, rfl, hd, hc, hf, fun c hc6 => ?_⟩
  have ht := turn_set w g j (.int .u8 (c : Int))
  have hgB := (hr.lt g rfl).1
  have hgC := (hg g rfl).2
  have htM : Turn (MR B C) (MR B C) w (w.setCell ⟨g, j, none⟩ (.int .u8 (c : Int))) := ht.mono (fun i hi => by simp only [Option.some.injEq] at hi; subst hi; exact ⟨hgB, hgC⟩) (fun i hi => .inr (.inl hi))
  refine ⟨hy.turn htM, hz.turn htM, hb.setCell (p := ⟨g, j, none⟩) (by show _ ≤ g; omega) _, hWB, own_keep h1 fun g' hg' => ht.block g' (h1.lt g' hg').2 fun e => (hg g rfl).1 (by rw [hg', e]), h2, fun i hi => ?_⟩
  obtain ⟨a2, k2, cap2, yl2, e2, hk2, hr2, hg2⟩ := h3 i hi
  by_cases hs : (Value.slice a2 k2 cap2).ownBlock = some g
  · obtain ⟨a', k', cap', hv, _, _, _, _, hnil, hat⟩ := hr2.form
    simp only [Value.slice.injEq] at hv
    obtain ⟨rfl, rfl, rfl⟩ := hv
    cases a2 with
    | none => simp [Value.ownBlock] at hs
    | some x =>
      obtain ⟨g', rfl, _⟩ := hat x rfl
      simp only [Value.ownBlock, Option.some.injEq] at hs
      subst hs
      obtain ⟨yl', t1, t2⟩ := hr2.set hk2.out j c hc6
      exact ⟨_, k2, cap2, yl', e2, t1, t2, hg2⟩
  · exact ⟨a2, k2, cap2, yl2, e2, hk2, hr2.keep fun g' hg' => ht.block g' (hr2.lt g' hg').2 fun e => hs (by rw [hg', e]), hg2⟩
end Go.Proofs.Ytfcnbdnmnmihjaa
