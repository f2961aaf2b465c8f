/-
  Entries and snapshots that are being read: the reader's box, the value's, the result's; an entry read.
-/
import Derived.Test.YtlpgdfdadkljfaaImRead
namespace Go.Proofs.Ytlpgdfdadkljfaa.Img
open Go.RowKit Route Tree Order Cat

/-- Where the boxes lie: the reader's in p, the result's in rb, the value's in qb, rows from B on. -/
structure Lay (w : World) (p rb qb B : Nat) : Prop where
  r1 : w.heap.size ≤ rb
  q1 : w.heap.size ≤ qb
  pr : p < rb
  pq : p < qb
  rq : rb ≠ qb
  rB : rb < B
  qB : qb < B

/-- A value that is being read: the result's box holds zs, the value's cs. -/
structure Sr (te : TypeId) (zs : Array Value) (w W : World) (p rb qb B : Nat) (a : Option Addr) (n cap : Nat) (l : List UInt8) (x : Nat) (f : Bool) (cs : Array Value) : Prop where
  lay : Lay w p rb qb B
  rd : Rd 67 W p a n cap l x f
  tn : Tn p w W
  res : W.heap[rb]? = some (.cells zs te (0, 0))
  box : W.heap[qb]? = some (.cells cs te (0, 0))
  big : B ≤ W.heap.size

section
variable {te : TypeId} {zs : Array Value} {w W W' : World} {p rb qb B : Nat} {a : Option Addr} {n cap : Nat} {l : List UInt8} {x : Nat} {f : Bool} {cs : Array Value}

theorem Sr.step {x' : Nat} {f' : Bool} (h : Sr te zs w W p rb qb B a n cap l x f cs) (hr : Rd 67 W' p a n cap l x' f' ∧ Tn p W W') : Sr te zs w W' p rb qb B a n cap l x' f' cs := by
  have hb := h.big
  have L := h.lay
  have h1 := L.pr
  have h2 := L.pq
  have h3 := L.rB
  have h4 := L.qB
  exact ⟨h.lay, hr.1, h.tn.trans hr.2, (hr.2.block rb (by omega) (by omega)).trans h.res, (hr.2.block qb (by omega) (by omega)).trans h.box, Nat.le_trans hb hr.2.size⟩

/-- What the reader turns leaves rows from B on as they are. -/
theorem Sr.rows (h : Sr te zs w W p rb qb B a n cap l x f cs) (ht : Tn p W W') : ∀ g, B ≤ g → g < W.heap.size → W'.heap[g]? = W.heap[g]? := fun g h1 h2 => ht.block g h2 (by have := h.lay.pr; have := h.lay.rB; omega)

theorem Sr.set (h : Sr te zs w W p rb qb B a n cap l x f cs) (i : Nat) (u : Value) {cs' : Array Value} (hc : cs.setIfInBounds i u = cs') : Sr te zs w (W.setCell ⟨qb, i, none⟩ u) p rb qb B a n cap l x f cs' := by
  have L := h.lay
  have h2 := L.pq
  have h3 := L.q1
  have h5 := L.rq
  have ho : ∀ k, k ≠ qb → (W.setCell ⟨qb, i, none⟩ u).heap[k]? = W.heap[k]? := fun k hk => Below.heap_setCell _ _ _ _ hk
  refine ⟨h.lay, h.rd.keep fun k hk => ho k (by omega), ⟨h.tn.os, h.tn.tape, h.tn.output, by simpa using h.tn.size, fun k hk h1 => (ho k (by omega)).trans (h.tn.block k hk h1)⟩, (ho rb h5).trans h.res, ?_, by simpa using h.big⟩
  subst hc
  simp [World.setCell, Array.getElem?_modify, h.box]
theorem Sr.setRows (h : Sr te zs w W p rb qb B a n cap l x f cs) (i : Nat) (u : Value) : ∀ g, B ≤ g → (W.setCell ⟨qb, i, none⟩ u).heap[g]? = W.heap[g]? := fun g hg => Below.heap_setCell _ _ _ _ (by have := h.lay.qB; show g ≠ qb; omega)

/-- A row from B on has grown. -/
theorem Sr.grow (h : Sr te zs w W p rb qb B a n cap l x f cs) (o1 : W'.os = W.os) (o2 : W'.tape = W.tape) (o3 : W'.output = W.output) (hs : W.heap.size ≤ W'.heap.size) (hk : ∀ k, k < B → W'.heap[k]? = W.heap[k]?) : Sr te zs w W' p rb qb B a n cap l x f cs := by
  have L := h.lay
  have h1 := L.pr
  have h3 := L.rB
  have h4 := L.qB
  have h5 := L.r1
  exact ⟨h.lay, h.rd.keep fun k hk' => hk k (by omega), ⟨o1.trans h.tn.os, o2.trans h.tn.tape, o3.trans h.tn.output, Nat.le_trans h.tn.size hs, fun k h1 h2 => (hk k (by omega)).trans (h.tn.block k h1 h2)⟩, (hk rb h3).trans h.res, (hk qb h4).trans h.box, Nat.le_trans h.big hs⟩

theorem Sr.drew (h : Sr te zs w W p rb qb B a n cap l x f cs) : Sr te zs w W.drew p rb qb B a n cap l x f cs :=
  h.step ⟨h.rd.keep fun _ _ => rfl, ⟨rfl, rfl, rfl, Nat.le_refl _, fun _ _ _ => rfl⟩⟩
end

theorem row_keep {B e s : Nat} {w w' : World} {v : Value} {n : Nat} {xs : List Value} (h : w.ownsRow B e s v n xs) (hk : ∀ g, B ≤ g → g < w.heap.size → w'.heap[g]? = w.heap[g]?) : w'.ownsRow B e s v n xs :=
  ⟨h.1, h.2.imp id fun ⟨g, cap, cur, h1, h2, h3, h4⟩ => ⟨g, cap, cur, h1, h2, (hk g h2 (Array.getElem?_eq_some_iff.1 h3).1).trans h3, h4⟩⟩

theorem cells3 {w : World} {b : Nat} {x y z : Value} {T : TypeId} (h : w.heap[b]? = some (.cells #[x, y, z] T (0, 0))) :
    (w.cell? ⟨b, 0, none⟩ = some x ∧ w.cell? ⟨b, 1, none⟩ = some y ∧ w.cell? ⟨b, 2, none⟩ = some z) ∧ ∀ i, w.frozen? ⟨b, i, none⟩ = false := by
  simp [World.cell?, World.frozen?, h]

/-- A text is read in a drawn region, and appended to the chunks. -/
theorem text_push {w W : World} {p rb qb B : Nat} {a : Option Addr} {n cap : Nat} {l : List UInt8} {x : Nat} {f : Bool} {x0 x1 : Value} {ka : Option Addr} {kn kc m : Nat} {ks : List ByteArray} {zs : Array Value}
    (h : Sr 57 zs w W p rb qb B a n cap l x f #[x0, x1, .slice ka kn kc]) (hrow : W.ownsRow B 9 1 (.slice ka kn kc) ks.length (sv ks)) (hlen : ks.length + 1 ≤ 1000000000) (hm : m ≤ 4096) :
    Calls Try.prog 65 #[.pointer (some ⟨p, 0, none⟩), .int .i64 (m : Int)] W fun e w' => ∃ s, e = .returned (.string s) ∧ w'.cell? ⟨qb, 2, none⟩ = some (.slice ka kn kc) ∧ (w'.alloc (.cells #[.string s] 9)).cell? ⟨qb, 2, none⟩ = some (.slice ka kn kc) ∧
      ∃ a5 k5 c5 w5, (Builtin.append_ #[33, 33] 33 #[.slice ka kn kc, .slice (some ⟨w'.heap.size, 0, none⟩) 1 1]).run Try.prog (w'.alloc (.cells #[.string s] 9)) = .ok (.slice a5 k5 c5) w5 ∧ w5.cell? ⟨qb, 2, none⟩ = some (.slice ka kn kc) ∧ w5.frozen? ⟨qb, 2, none⟩ = false ∧
        Hid (Sr 57 zs w (w5.setCell ⟨qb, 2, none⟩ (.slice a5 k5 c5)) p rb qb B a n cap l (tex l m x f).2.1 (tex l m x f).2.2 #[x0, x1, .slice a5 k5 c5] ∧ (w5.setCell ⟨qb, 2, none⟩ (.slice a5 k5 c5)).ownsRow B 9 1 (.slice a5 k5 c5) (ks ++ [(tex l m x f).1]).length (sv (ks ++ [(tex l m x f).1]))) := by
  refine (text_call h.rd m hm).mono ?_
  rintro e w' ⟨rfl, hr⟩
  have h1 := h.step hr.out
  have hrow1 := row_keep hrow (h.rows hr.out.2)
  have g1 := (cells3 h1.box).1.2.2
  have hlt : qb < w'.heap.size := (Array.getElem?_eq_some_iff.1 h1.box).1
  obtain ⟨i0, hi, hz0, hz1, hz2⟩ := info_parts info9
  generalize (tex l m x f).1 = s
  obtain ⟨v5, w5, hrun, hown, hg, _, _⟩ := run_append_own_at (P := Try.prog) (w'.alloc (.cells #[.string s] 9)) B 33 33 9 i0 (.string ByteArray.empty) 1 16 Try.underlying33 hi hz0 hz1 hz2 rfl (by decide) (.slice ka kn kc) ks.length (sv ks) (hrow1.alloc _) ⟨w'.heap.size, 0, none⟩ 1 1 [.string s] rfl (cell_one_new w' (.string s) 9) (fun u hu => by simp at hu; subst hu; rfl) (by unfold maxLen; omega) (by omega) (by have := h1.big; simp; omega)
  have hown' : w5.ownsRow B 9 1 v5 (ks ++ [s]).length (sv (ks ++ [s])) := by
    have e : sv (ks ++ [s]) = sv ks ++ [.string s] := by simp [sv]
    rw [e]; simpa using hown
  have hsz : w'.heap.size + 1 ≤ w5.heap.size := by have := hg.size; simpa using this
  have hbig := h1.big
  obtain ⟨a5, c5, rfl, _⟩ := Strs.lies (W0 := w5) (w := w5) ⟨hown', Below.refl _ _, by omega⟩
  have hk : ∀ k, k < B → w5.heap[k]? = w'.heap[k]? := fun k hk => by
    refine (hg.block k (by simp; omega) fun e => ?_).trans (Below.heap_alloc _ _ _ (by omega))
    have := (hrow1.lt k e.symm).1
    omega
  have h5 := h1.grow hg.os hg.tape hg.output (by omega) hk
  have g5 := cells3 h5.box
  have h6 := h5.set 2 (.slice a5 (ks ++ [s]).length c5) rfl
  exact ⟨_, rfl, g1, by rw [World.cell?_alloc_lt _ _ _ hlt]; exact g1, a5, _, c5, w5, hrun, g5.1.2.2, g5.2 2, h6, row_keep hown' fun g hg' _ => h5.setRows 2 _ g hg'⟩

theorem num_named {w : World} {p : Nat} {a : Option Addr} {n cap : Nat} {l : List UInt8} {x : Nat} {f : Bool} (h : Rd 67 w p a n cap l x f) (m : Nat) (hm : m ≤ 65536) (A : Nat × Nat × Bool) (e : num l m x f = A) :
    Calls Try.prog 46 #[.pointer (some ⟨p, 0, none⟩), .int .u64 (m : Int)] w fun e w' => e = .returned (.int .i64 (A.1 : Int)) ∧ Hid (Rd 67 w' p a n cap l A.2.1 A.2.2 ∧ Tn p w w') := by
  subst e; exact num_call h m hm
theorem text_named {w : World} {p : Nat} {a : Option Addr} {n cap : Nat} {l : List UInt8} {x : Nat} {f : Bool} (h : Rd 67 w p a n cap l x f) (m : Nat) (hm : m ≤ 4096) (A : ByteArray × Nat × Bool) (e : tex l m x f = A) :
    Calls Try.prog 65 #[.pointer (some ⟨p, 0, none⟩), .int .i64 (m : Int)] w fun e w' => e = .returned (.string A.1) ∧ Hid (Rd 67 w' p a n cap l A.2.1 A.2.2 ∧ Tn p w w') := by
  subst e; exact text_call h m hm

theorem put3_box {W : World} {b : Nat} {x0 x1 x2 : Value} {T : TypeId} (h : W.heap[b]? = some (.cells #[x0, x1, x2] T (0, 0))) (u0 u1 u2 : Value) :
    (((W.setCell ⟨b, 0, none⟩ u0).setCell ⟨b, 1, none⟩ u1).setCell ⟨b, 2, none⟩ u2).heap[b]? = some (.cells #[u0, u1, u2] T (0, 0)) := by
  simp [World.setCell, Array.getElem?_modify, h]
theorem put3_tn (W : World) (b : Nat) (u0 u1 u2 : Value) : Tn b W (((W.setCell ⟨b, 0, none⟩ u0).setCell ⟨b, 1, none⟩ u1).setCell ⟨b, 2, none⟩ u2) :=
  (((Tn.refl b W).setCell 0 u0).setCell 1 u1).setCell 2 u2
theorem put4_box {W : World} {b : Nat} {x0 x1 x2 x3 : Value} {T : TypeId} (h : W.heap[b]? = some (.cells #[x0, x1, x2, x3] T (0, 0))) (u0 u1 u2 u3 : Value) :
    ((((W.setCell ⟨b, 0, none⟩ u0).setCell ⟨b, 1, none⟩ u1).setCell ⟨b, 2, none⟩ u2).setCell ⟨b, 3, none⟩ u3).heap[b]? = some (.cells #[u0, u1, u2, u3] T (0, 0)) := by
  simp [World.setCell, Array.getElem?_modify, h]
theorem put4_tn (W : World) (b : Nat) (u0 u1 u2 u3 : Value) : Tn b W ((((W.setCell ⟨b, 0, none⟩ u0).setCell ⟨b, 1, none⟩ u1).setCell ⟨b, 2, none⟩ u2).setCell ⟨b, 3, none⟩ u3) :=
  ((((Tn.refl b W).setCell 0 u0).setCell 1 u1).setCell 2 u2).setCell 3 u3
theorem Sr.tn_res {te : TypeId} {zs : Array Value} {w W W' : World} {p rb qb B : Nat} {a : Option Addr} {n cap : Nat} {l : List UInt8} {x : Nat} {f : Bool} {cs : Array Value} (h : Sr te zs w W p rb qb B a n cap l x f cs) (ht : Tn rb W W') :
    Tn p w W' ∧ Rd 67 W' p a n cap l x f ∧ ∀ g, B ≤ g → g < W.heap.size → W'.heap[g]? = W.heap[g]? := by
  have L := h.lay
  have h1 := L.r1
  have h2 := L.rB
  have h3 := L.pr
  have h4 := h.big
  have h5 := h.tn.size
  exact ⟨⟨ht.os.trans h.tn.os, ht.tape.trans h.tn.tape, ht.output.trans h.tn.output, Nat.le_trans h.tn.size ht.size, fun k h1 h2 => (ht.block k (by omega) (by omega)).trans (h.tn.block k h1 h2)⟩, h.rd.keep fun k hk => ht.block k (by omega) (by omega), fun g h1 h2 => ht.block g h2 (by omega)⟩

abbrev zeroE : Array Value := #[.string ⟨#[]⟩, .int .i64 0, .slice none 0 0]

theorem Sr.start {te : TypeId} {zs : Array Value} {w : World} {p : Nat} {a : Option Addr} {n cap : Nat} {l : List UInt8} {x : Nat} {f : Bool} (h : Rd 67 w p a n cap l x f) :
    Sr te zs w ((w.alloc (.cells zs te)).alloc (.cells zs te)) p w.heap.size (w.heap.size + 1) (w.heap.size + 2) a n cap l x f zs := by
  have hb1 : Below w.heap.size w (w.alloc (.cells zs te)) := (Below.refl _ _).alloc (Nat.le_refl _) _
  have hb2 : Below w.heap.size w ((w.alloc (.cells zs te)).alloc (.cells zs te)) := hb1.alloc hb1.size _
  have hz : (w.alloc (.cells zs te)).heap.size = w.heap.size + 1 := by simp
  have hp := h.lt
  refine ⟨⟨by omega, by omega, by omega, by omega, by omega, by omega, by omega⟩, h.below hb2, Tn.of hb2, ?_, ?_, by simp⟩
  · exact (Below.heap_alloc _ _ _ (by rw [hz]; omega)).trans (heap_alloc_new w _)
  · rw [← hz]; exact heap_alloc_new _ _

set_option maxHeartbeats 8000000 in
set_option maxRecDepth 100000 in
theorem entry_call {w : World} {p : Nat} {a : Option Addr} {n cap : Nat} {l : List UInt8} {x : Nat} {f : Bool} (h : Rd 67 w p a n cap l x f) (hx : x ≤ l.length) :
    Calls Try.prog 66 #[.pointer (some ⟨p, 0, none⟩)] w fun e w' => ∃ kv, e = .returned (.agg #[.string (entR l (x, f)).1.1, .int .i64 (entR l (x, f)).1.2.1, kv]) ∧
      Hid (Rd 67 w' p a n cap l (entR l (x, f)).2.1 (entR l (x, f)).2.2 ∧ Tn p w w' ∧ w'.ownsRow w.heap.size 9 1 kv (entR l (x, f)).1.2.2.length (sv (entR l (x, f)).1.2.2)) := by
  unfold entR
  simp only
  generalize ea : tex l 4096 x f = A
  generalize eb : num l 1024 A.2.1 A.2.2 = C
  generalize eg : num l 16 C.2.1 C.2.2 = J
  have hA : A.2.1 ≤ l.length := by rw [← ea]; exact (tex_le hx).2
  have hC : C.2.1 ≤ l.length := by rw [← eb]; exact (num_le hA).2
  have hJ : J.1 ≤ 16 := by rw [← eg]; exact (num_le hC).1
  have HA : Hid (tex l 4096 x f = A) := ea
  have HC : Hid (num l 1024 A.2.1 A.2.2 = C) := eb
  have HJ : Hid (num l 16 C.2.1 C.2.2 = J) := eg
  have H0 : Hid (Sr 57 zeroE w ((w.alloc (.cells zeroE 57)).alloc (.cells zeroE 57)) p w.heap.size (w.heap.size + 1) (w.heap.size + 2) a n cap l x f zeroE) := Sr.start h
  clear ea eb eg h hA hC hx
  have N0 : Hid (Calls _ _ _ _ _) := text_named H0.out.rd 4096 (by omega) A HA.out
  go_enter Try.func66, Try.ntmps66
  go_wp2_with fail
  refine N0.out.mono ?_
  rintro e w1 ⟨rfl, hr⟩
  have S1 := H0.out.step hr.out
  clear N0 hr H0
  obtain ⟨⟨y0, y1, y2⟩, hf⟩ := cells3 S1.box
  have z0 := hf 0
  have T1 : Hid (Sr 57 zeroE w (w1.setCell ⟨w.heap.size + 1, 0, none⟩ (.string A.1)) p w.heap.size (w.heap.size + 1) (w.heap.size + 2) a n cap l A.2.1 A.2.2 #[.string A.1, .int .i64 0, .slice none 0 0]) := S1.set 0 _ rfl
  have N1 : Hid (Calls _ _ _ _ _) := num_named T1.out.rd 1024 (by omega) C HC.out
  clear S1 hf
  go_wp2_with fail
  refine N1.out.mono ?_
  rintro e w2 ⟨rfl, hr⟩
  have S2 := T1.out.step hr.out
  clear N1 hr T1 y0 y1 y2 z0
  obtain ⟨⟨y0, y1, y2⟩, hf⟩ := cells3 S2.box
  have z1 := hf 1
  have T2 : Hid (Sr 57 zeroE w (w2.setCell ⟨w.heap.size + 1, 1, none⟩ (.int .i64 (C.1 : Int))) p w.heap.size (w.heap.size + 1) (w.heap.size + 2) a n cap l C.2.1 C.2.2 #[.string A.1, .int .i64 (C.1 : Int), .slice none 0 0]) := S2.set 1 _ rfl
  have N2 : Hid (Calls _ _ _ _ _) := num_named T2.out.rd 16 (by omega) J HJ.out
  clear S2 hf
  go_wp2_with fail
  refine N2.out.mono ?_
  rintro e w3 ⟨rfl, hr⟩
  have S3 := T2.out.step hr.out
  clear N2 hr T2 y0 y1 y2 z1
  have HI : Hid (Sr 57 zeroE w w3 p w.heap.size (w.heap.size + 1) (w.heap.size + 2) a n cap l J.2.1 J.2.2 #[.string A.1, .int .i64 (C.1 : Int), .slice none 0 0]) := S3
  clear S3 HA HC HJ
  go_wp2
  go_loopw [12] (fun t12 wr => ∃ (j : Nat), t12 = .int .i64 (j : Int) ∧ j ≤ J.1 ∧ Hid (∃ (ka : Option Addr) (kn kc : Nat) (ks : List ByteArray) (x : Nat) (f : Bool), ks.length = j ∧ Sr 57 zeroE w wr p w.heap.size (w.heap.size + 1) (w.heap.size + 2) a n cap l x f #[.string A.1, .int .i64 (C.1 : Int), .slice ka kn kc] ∧ wr.ownsRow (w.heap.size + 2) 9 1 (.slice ka kn kc) ks.length (sv ks) ∧ texs l 64 J.1 J.2.1 J.2.2 = (ks ++ (texs l 64 (J.1 - j) x f).1, (texs l 64 (J.1 - j) x f).2))) (fun t12 _ => J.1 - (intOf t12).toNat)
  case atStart => exact ⟨0, rfl, Nat.zero_le _, none, 0, 0, [], _, _, rfl, HI.out, World.ownsRow_nil _ _ _ _, rfl⟩
  case round =>
    obtain ⟨j, rfl, hj, HR⟩ := hrel
    clear HI
    obtain ⟨ka, kn, kc, ks, x, f, hks, hS, hrow, htx⟩ := HR.out
    have HS : Hid (Sr _ _ _ _ _ _ _ _ _ _ _ _ _ _ _) := hS
    have HT : Hid (_ = _) := htx
    have HK : Hid (ks.length = j) := hks
    have HRow : Hid (wr.ownsRow (w.heap.size + 2) 9 1 (.slice ka kn kc) ks.length (sv ks)) := hrow
    obtain ⟨⟨y0, y1, y2⟩, hf⟩ := cells3 hS.box
    by_cases hlt : j < J.1
    · have HCL : Hid (∀ W', Sr 57 zeroE w W' p w.heap.size (w.heap.size + 1) (w.heap.size + 2) a n cap l x f #[.string A.1, .int .i64 (C.1 : Int), .slice ka kn kc] ∧ W'.ownsRow (w.heap.size + 2) 9 1 (.slice ka kn kc) ks.length (sv ks) → Calls Try.prog 65 #[.pointer (some ⟨p, 0, none⟩), .int .i64 ((64 : Nat) : Int)] W' _) := fun W' h => text_push (m := 64) h.1 h.2 (by have := HK.out; omega) (by omega)
      clear hS htx hks hf HR y0 y1 hrow
      go_wp2_with fail
      go_region_law
        (first
          | (go_simp; go_at_call 65; refine (HCL.out _ ?_).mono ?_; first | exact ⟨HS.out, HRow.out⟩ | exact ⟨HS.out.drew, HRow.out⟩; rintro e w4 ⟨s4, rfl, c4, c4', a5, k5, c5, w5, hrun5, c5', f5, hF5⟩)
          | (refine step_run (by rfl) _ _ _ (by rfl) _ _ _ (by rfl) (by rfl) hrun5 ?_))
      all_goals
        go_wp2
        go_roundw
        case rel =>
          refine ⟨j + 1, by go_num, by omega, a5, k5, c5, _, _, _, by rw [List.length_append, HK.out]; rfl, hF5.out.1, hF5.out.2, ?_⟩
          have e1 : J.1 - j = (J.1 - (j + 1)) + 1 := by omega
          rw [HT.out, e1, texs_step]
          simp
        case measure => simp [intOf]; omega
    · have ej : J.1 - j = 0 := by omega
      have htx2 : texs l 64 J.1 J.2.1 J.2.2 = (ks, x, f) := by rw [HT.out, ej]; simp [texs]
      have HT2 : Hid (texs l 64 J.1 J.2.1 J.2.2 = (ks, x, f)) := htx2
      obtain ⟨⟨v0, v1, v2⟩, hv⟩ := cells3 HS.out.res
      have q0 := hv 0
      have q1 := hv 1
      have q2 := hv 2
      clear htx2 ej HR hS htx hks hrow hf hv
      go_wp2
      have hbox := put3_box HS.out.res (.string A.1) (.int .i64 (C.1 : Int)) (.slice ka kn kc)
      have htn := put3_tn wr w.heap.size (.string A.1) (.int .i64 (C.1 : Int)) (.slice ka kn kc)
      generalize (((wr.setCell ⟨w.heap.size, 0, none⟩ (.string A.1)).setCell ⟨w.heap.size, 1, none⟩ (.int .i64 (C.1 : Int))).setCell ⟨w.heap.size, 2, none⟩ (.slice ka kn kc)) = W5 at hbox htn ⊢
      obtain ⟨⟨g0, g1, g2⟩, _⟩ := cells3 hbox
      refine bodyPost_ret (v := .agg #[.string A.1, .int .i64 (C.1 : Int), .slice ka kn kc]) (by simp [results, Try.results66, go_sem, g0, g1, g2]) rfl ?_
      obtain ⟨d1, d2, d3⟩ := HS.out.tn_res htn
      rw [HT2.out]
      exact ⟨_, rfl, d2, d1, own_any (row_keep HRow.out d3) (Nat.le_add_right _ 2)⟩
end Go.Proofs.Ytlpgdfdadkljfaa.Img
