/-
  The answer's Get, to the plain reader.
-/
import Derived.Test.YtlpgdfdadkljfaaImRGet0
import Derived.Test.YtlpgdfdadkljfaaImMay2
namespace Go.Proofs.Ytlpgdfdadkljfaa.Img
open Go.RowKit Route Tree Order Cat

/-- What stands while snapshots are read. -/
structure Snq (w W : World) (p : Nat) (a : Option Addr) (n cap : Nat) (l : List UInt8) (x : Nat) (f : Bool) (v : Value) (Z : List SZ) : Prop where
  rd : Rd 70 W p a n cap l x f
  tn : Tn p w W
  row : SRow w.heap.size v Z W
  old : p < w.heap.size

theorem Snq.next {w W W' : World} {p : Nat} {a : Option Addr} {n cap : Nat} {l : List UInt8} {x x' : Nat} {f f' : Bool} {v : Value} {Z : List SZ} {z : SZ} (h : Snq w W p a n cap l x f v Z) (hr : Rd 70 W' p a n cap l x' f') (ht : Tn p W W') (he : ERow W.heap.size W' z) :
    Snq w W' p a n cap l x' f' v Z ∧ ERow w.heap.size W' z ∧ ∀ y ∈ Z, Apart y z := by
  have hb := h.tn.size
  have ho := h.old
  have hrow := SRow.keep h.row (w' := W') fun g h1 h2 => ht.block g h2 (by omega)
  refine ⟨⟨hr, h.tn.trans ht, hrow, ho⟩, ⟨own_any he.1 hb, fun y hy => own_any (he.2 y hy) hb⟩, fun y hy => ?_⟩
  unfold Apart
  cases hbk : y.2.2.2.1.ownBlock with
  | none => exact .inl rfl
  | some g =>
    right
    intro e
    have h1 := ((h.row.ents y hy).1.lt g hbk).2
    have h2 := (he.1.lt g e.symm).1
    omega

theorem Snq.grown {w W W1 W' : World} {p : Nat} {a : Option Addr} {n cap : Nat} {l : List UInt8} {x : Nat} {f : Bool} {v v' : Value} {Z Z' : List SZ} (h : Snq w W p a n cap l x f v Z) (hb : Below W.heap.size W W1) (hr : SRow w.heap.size v' Z' W') (hg : W1.grownBy W' v.ownBlock) : Snq w W' p a n cap l x f v' Z' := by
  have ho := h.old
  have hs := h.tn.size
  have hk : ∀ k, k < w.heap.size → W'.heap[k]? = W.heap[k]? := fun k hk => by
    refine (hg.block k (by have := hb.size; omega) fun e => ?_).trans (hb.block k (by omega))
    have := (h.row.own.lt k e.symm).1
    omega
  exact ⟨h.rd.keep fun k hk' => hk k (by omega), ⟨(hg.os.trans hb.os).trans h.tn.os, (hg.tape.trans hb.tape).trans h.tn.tape, (hg.output.trans hb.output).trans h.tn.output, by have := hb.size; have := hg.size; omega, fun k h1 h2 => (hk k (by omega)).trans (h.tn.block k h1 h2)⟩, hr, ho⟩

/-- A text is read in a drawn region, and appended to the chunks. -/
theorem text_pushQ {w W : World} {p qb B : Nat} {a : Option Addr} {n cap : Nat} {l : List UInt8} {x : Nat} {f : Bool} {x0 x1 : Value} {ka : Option Addr} {kn kc : Nat} {ks : List ByteArray}
    (h : Sv 57 w W p qb B a n cap l x f #[x0, x1, .slice ka kn kc]) (hsm : n ≤ 1000000) (hrow : W.ownsRow B 9 1 (.slice ka kn kc) ks.length (sv ks)) (hlen : ks.length + 1 ≤ 1000000000) :
    Calls Try.prog 31 #[.pointer (some ⟨p, 0, none⟩)] W fun e w' => ∃ s, e = .returned (.string s) ∧ w'.cell? ⟨qb, 2, none⟩ = some (.slice ka kn kc) ∧ (w'.alloc (.cells #[.string s] 9)).cell? ⟨qb, 2, none⟩ = some (.slice ka kn kc) ∧
      ∃ a5 k5 c5 w5, (Builtin.append_ #[33, 33] 33 #[.slice ka kn kc, .slice (some ⟨w'.heap.size, 0, none⟩) 1 1]).run Try.prog (w'.alloc (.cells #[.string s] 9)) = .ok (.slice a5 k5 c5) w5 ∧ w5.cell? ⟨qb, 2, none⟩ = some (.slice ka kn kc) ∧ w5.frozen? ⟨qb, 2, none⟩ = false ∧
        Hid (Sv 57 w (w5.setCell ⟨qb, 2, none⟩ (.slice a5 k5 c5)) p qb B a n cap l (tex2 l x f).2.1 (tex2 l x f).2.2 #[x0, x1, .slice a5 k5 c5] ∧ (w5.setCell ⟨qb, 2, none⟩ (.slice a5 k5 c5)).ownsRow B 9 1 (.slice a5 k5 c5) (ks ++ [(tex2 l x f).1]).length (sv (ks ++ [(tex2 l x f).1]))) := by
  refine (refText_call h.rd hsm).mono ?_
  rintro e w' ⟨rfl, hr⟩
  have h1 := h.step hr.out
  have hrow1 := row_keep hrow (h.rows hr.out.2)
  have g1 := (cells3 h1.box).1.2.2
  have hlt : qb < w'.heap.size := (Array.getElem?_eq_some_iff.1 h1.box).1
  obtain ⟨i0, hi, hz0, hz1, hz2⟩ := info_parts info9
  generalize (tex2 l x f).1 = s
  obtain ⟨v5, w5, hrun, hown, hg, _, _⟩ := run_append_own_at (P := Try.prog) (w'.alloc (.cells #[.string s] 9)) B 33 33 9 i0 (.string ByteArray.empty) 1 16 Try.underlying33 hi hz0 hz1 hz2 rfl (by decide) (.slice ka kn kc) ks.length (sv ks) (hrow1.alloc _) ⟨w'.heap.size, 0, none⟩ 1 1 [.string s] rfl (cell_one_new w' (.string s) 9) (fun u hu => by simp at hu; subst hu; rfl) (by unfold maxLen; omega) (by omega) (by have := h1.big; simp; omega)
  have hown' : w5.ownsRow B 9 1 v5 (ks ++ [s]).length (sv (ks ++ [s])) := by
    have e : sv (ks ++ [s]) = sv ks ++ [.string s] := by simp [sv]
    rw [e]; simpa using hown
  have hsz : w'.heap.size + 1 ≤ w5.heap.size := by have := hg.size; simpa using this
  have hbig := h1.big
  obtain ⟨a5, c5, rfl, _⟩ := Strs.lies (W0 := w5) (w := w5) ⟨hown', Below.refl _ _, by omega⟩
  have hk : ∀ k, k < B → w5.heap[k]? = w'.heap[k]? := fun k hk => by
    refine (hg.block k (by simp; omega) fun e => ?_).trans (Below.heap_alloc _ _ _ (by omega))
    have := (hrow1.lt k e.symm).1
    omega
  have h5 := h1.grow hg.os hg.tape hg.output (by omega) hk
  have g5 := cells3 h5.box
  have h6 := h5.set 2 (.slice a5 (ks ++ [s]).length c5) rfl
  exact ⟨_, rfl, g1, by rw [World.cell?_alloc_lt _ _ _ hlt]; exact g1, a5, _, c5, w5, hrun, g5.1.2.2, g5.2 2, h6, row_keep hown' fun g hg' _ => h5.setRows 2 _ g hg'⟩

/-- An entry that was read is appended to the snapshot's. -/
theorem ent_pushQ {w W : World} {p qb B : Nat} {a : Option Addr} {n cap : Nat} {l : List UInt8} {x : Nat} {f : Bool} {x0 x1 x2 : Value} {ea : Option Addr} {en ec : Nat} {Y : List (Ent × Value)} {z : Ent × Value}
    (h : Sv 52 w W p qb B a n cap l x f #[x0, x1, x2, .slice ea en ec]) (hrow : ERw B (.slice ea en ec) Y W) (hz : KeyRow B W z) (hlen : Y.length + 1 ≤ 1000000) :
    ∃ a5 k5 c5 w5, (Builtin.append_ #[50, 50] 50 #[.slice ea en ec, .slice (some ⟨W.heap.size, 0, none⟩) 1 1]).run Try.prog (W.alloc (.cells #[.string z.1.1, .int .i64 z.1.2.1, z.2] 57)) = .ok (.slice a5 k5 c5) w5 ∧ w5.cell? ⟨qb, 3, none⟩ = some (.slice ea en ec) ∧ w5.frozen? ⟨qb, 3, none⟩ = false ∧
      Hid (Sv 52 w (w5.setCell ⟨qb, 3, none⟩ (.slice a5 k5 c5)) p qb B a n cap l x f #[x0, x1, x2, .slice a5 k5 c5] ∧ ERw B (.slice a5 k5 c5) (Y ++ [z]) (w5.setCell ⟨qb, 3, none⟩ (.slice a5 k5 c5))) := by
  obtain ⟨a5, k5, c5, w5, hrun, hE, o1, o2, o3, o4, hk⟩ := run_ent (ty := 50) hrow h.big hz hlen
  have h5 := h.grow o1 o2 o3 o4 hk
  have g5 := cells4 h5.box
  have h6 := h5.set 3 (.slice a5 k5 c5) rfl
  exact ⟨a5, k5, c5, w5, hrun, g5.1.2.2.2, g5.2 3, h6, hE.keep fun g hg' _ => h5.setRows 3 _ g hg'⟩

/-- 'append', its run being known. -/
theorem wpList_known {ops : Array Oper} {rest : List Oper} {o : Oper} {a : Act} {Q : Exit → Act → World → Prop} {w w' : World} (hgd : o.guard = none) (s x : Operand) (t : TypeId)
    (ho : o.op = .call { callee := .builtin .append, args := #[s, x], argTypes := #[t, t] }) (vs vx v' : Value) (hs : a.eval s = vs) (hx : a.eval x = vx)
    (hrun : (Builtin.append_ #[t, t] o.type #[vs, vx]).run Try.prog w = .ok v' w') (h : wpList Try.prog ops Q rest (a.put o.dst v') w') : wpList Try.prog ops Q (o :: rest) a w := by
  refine wpList_plain hgd fun K hK => ?_
  unfold Oper.wp execOp
  simp only [ho, resolve, invoke, builtin, Sem.run_bind, Sem.run_pure, Result.andThen_ok, List.map_toArray, List.map_cons, List.map_nil, hs, hx, hrun]
  exact hK _ _ h

/-- What was read in good order lies within the bytes. -/
theorem txts_least : ∀ ks : List ByteArray, ks.length ≤ (txts ks).length
  | [] => Nat.le_refl _
  | s :: r => by
    have := txts_least r
    have h1 : 1 ≤ (txt s).length := by unfold txt; rw [List.length_append]; have := digs_pos s.size; omega
    show r.length + 1 ≤ (txt s ++ txts r).length
    rw [List.length_append]; omega
theorem encEs_least : ∀ (E : List Ent), ∀ e ∈ E, e.2.2.length ≤ (encEs E).length
  | [], e, he => by simp at he
  | x :: E, e, he => by
    have h0 : (encEs (x :: E)).length = (encE x).length + (encEs E).length := by simp [encEs]
    rcases List.mem_cons.1 he with rfl | he
    · have := txts_least e.2.2
      have h2 : (txts e.2.2).length ≤ (encE e).length := by simp [encE]; omega
      omega
    · have := encEs_least E e he; omega
theorem encNs_least : ∀ (S : List Snap), ∀ s ∈ S, ∀ e ∈ s.2.2.2, e.2.2.length ≤ (encNs S).length
  | [], s, hs, e, he => by simp at hs
  | x :: S, s, hs, e, he => by
    have h0 : (encNs (x :: S)).length = (encN x).length + (encNs S).length := by simp [encNs]
    rcases List.mem_cons.1 hs with rfl | hs
    · have := encEs_least _ e he
      have h2 : (encEs s.2.2.2).length ≤ (encN s).length := by simp [encN]; omega
      omega
    · have := encNs_least S s hs e he; omega

theorem texs_small4 {l : List UInt8} {k : Nat} {s : St} (h : s.1 ≤ l.length) : ∀ t ∈ (Order.texs l 4096 k s.1 s.2).1, t.size ≤ 4096 := texs_small k s.1 s.2 h
theorem entQ_small {l : List UInt8} {s : St} (h : s.1 ≤ l.length) : (entQ l s).1.1.size ≤ 4096 ∧ ∀ t ∈ (entQ l s).1.2.2, t.size ≤ 4096 := by
  unfold entQ
  simp only
  have h1 := tex_le (m := 4096) (f := s.2) h
  generalize tex l 4096 s.1 s.2 = a at *
  have h2 := num_le (m := 65536) (f := a.2.2) h1.2
  generalize num l 65536 a.2.1 a.2.2 = b at *
  have h3 := num_le (m := 65536) (f := b.2.2) h2.2
  generalize num l 65536 b.2.1 b.2.2 = c at *
  exact ⟨h1.1, texs_small4 h3.2⟩
theorem entsQ_small {l : List UInt8} : ∀ (k : Nat) (s : St), s.1 ≤ l.length → ∀ e ∈ (entsQ l k s).1, e.1.size ≤ 4096 ∧ ∀ t ∈ e.2.2, t.size ≤ 4096
  | 0, s, _, e, he => by simp [entsQ] at he
  | k + 1, s, hs, e, he => by
    rcases List.mem_cons.1 (show e ∈ (entQ l s).1 :: (entsQ l k (entQ l s).2).1 from he) with rfl | he
    · exact entQ_small hs
    · exact entsQ_small k _ (entQ_rds l s hs).1 e he
theorem snapQ_small {l : List UInt8} {s : St} (h : s.1 ≤ l.length) : (snapQ l s).1.2.1.size ≤ 4096 ∧ (snapQ l s).1.2.2.2.length ≤ 65536 ∧ ∀ e ∈ (snapQ l s).1.2.2.2, e.1.size ≤ 4096 ∧ ∀ t ∈ e.2.2, t.size ≤ 4096 := by
  unfold snapQ
  simp only
  have h1 := num_le (m := 65536) (f := s.2) h
  generalize num l 65536 s.1 s.2 = a at *
  have h2 := tex_le (m := 4096) (f := a.2.2) h1.2
  generalize tex l 4096 a.2.1 a.2.2 = b at *
  have h3 := num_le (m := 1) (f := b.2.2) h2.2
  generalize num l 1 b.2.1 b.2.2 = c at *
  have h4 := num_le (m := 65536) (f := c.2.2) h3.2
  generalize num l 65536 c.2.1 c.2.2 = d at *
  exact ⟨h2.1, by rw [entsQ_cnt]; exact h4.1, entsQ_small _ _ h4.2⟩
theorem snapsQ_small {l : List UInt8} : ∀ (k : Nat) (s : St), s.1 ≤ l.length → ∀ z ∈ (snapsQ l k s).1, z.2.1.size ≤ 4096 ∧ z.2.2.2.length ≤ 65536 ∧ ∀ e ∈ z.2.2.2, e.1.size ≤ 4096 ∧ ∀ t ∈ e.2.2, t.size ≤ 4096
  | 0, s, _, e, he => by simp [snapsQ] at he
  | k + 1, s, hs, e, he => by
    rcases List.mem_cons.1 (show e ∈ (snapQ l s).1 :: (snapsQ l k (snapQ l s).2).1 from he) with rfl | he
    · exact snapQ_small hs
    · exact snapsQ_small k _ (snapQ_rds l s hs hs).1 e he
/-- What was read in good order can be asked whether it may be a catalog's. -/
theorem decQ_wide {l : List UInt8} (hm : l.length ≤ 20000) (h1 : (decQ l).2.2 = false) (h2 : l.length ≤ (decQ l).2.1) : (decQ l).1.length ≤ 65536 ∧ ∀ s ∈ (decQ l).1, SWide s := by
  have h0 := decQ_sound h1 h2
  have hn := num_le (l := l) (m := 65536) (p := 0) (f := false) (Nat.zero_le _)
  refine ⟨by unfold decQ; rw [snapsQ_cnt]; exact hn.1, fun s hs => ?_⟩
  have h3 := snapsQ_small _ _ hn.2 s (by unfold decQ at hs; exact hs)
  refine ⟨by omega, by omega, fun j hj => ?_⟩
  have hmem := ent_mem hj
  have h4 := h3.2.2 _ hmem
  have h5 := encNs_least _ s hs _ hmem
  have h6 : (encNs (decQ l).1).length ≤ l.length := by
    have e : (encI (decQ l).1).length = l.length := by rw [h0]
    unfold encI at e
    rw [List.length_append] at e
    omega
  refine ⟨by omega, by omega, fun k hk => ?_⟩
  have := h4.2 ((entOf s.2.2.2 j).2.2.getD k ByteArray.empty) (by simp [List.getD_eq_getElem?_getD, hk])
  omega
theorem decQ_le (l : List UInt8) : (decQ l).2.1 ≤ l.length := by
  unfold decQ
  have h1 := num_le (l := l) (m := 65536) (p := 0) (f := false) (Nat.zero_le _)
  exact (snapsQ_rds l _ _ h1.2 h1.2).1

/-- What the answer's Get comes to. -/
def GotQ (l : List UInt8) (w : World) (e : Ending) (w' : World) : Prop :=
  (((decQ l).2.2 = false ∧ l.length ≤ (decQ l).2.1 ∧ May (decQ l).1) ∧ ∃ v Z, e = .returned (.tuple #[v, .bool true]) ∧ Z.map snapOf = (decQ l).1 ∧ SRow w.heap.size v Z w' ∧ Below w.heap.size w w') ∨
  (¬ ((decQ l).2.2 = false ∧ l.length ≤ (decQ l).2.1 ∧ May (decQ l).1) ∧ e = .returned (.tuple #[.slice none 0 0, .bool false]) ∧ Below w.heap.size w w')
end Go.Proofs.Ytlpgdfdadkljfaa.Img
