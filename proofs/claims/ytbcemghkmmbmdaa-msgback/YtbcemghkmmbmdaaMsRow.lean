/-
  Rows that are being read; numbers read.
-/
import Derived.Test.YtbcemghkmmbmdaaMsRM
import Derived.Test.YtbcemghkmmbmdaaMsUp
namespace Go.Proofs.Ytbcemghkmmbmdaa.Msg
open Go.RowKit Route Order

/-- Two readers' places, alike as long as nothing is bad. -/
def Al (s t : St) : Prop := t.2 = s.2 ∧ (s.2 = false → t.1 = s.1)
theorem Al.refl (s : St) : Al s s := ⟨rfl, fun _ => rfl⟩
theorem Al.bad (x y : Nat) : Al (x, true) (y, true) := ⟨rfl, fun h => by cases h⟩
theorem Al.good {s : St} {x : Nat} (h : Al s (x, false)) : s = (x, false) := by
  obtain ⟨y, g⟩ := s
  obtain ⟨h1, h2⟩ := h
  simp only at h1 h2
  subst h1
  rw [h2 rfl]

/-- What has been read of a row so far: R is all of it, Y what was read, r the rest, s where the plain reader stands, (x, f) where the program's does. -/
structure Far {α : Type} (l : List UInt8) (R : List α × St) (Y : List α) (r : List α × St) (s : St) (x : Nat) (f : Bool) : Prop where
  le : s.1 ≤ l.length
  al : Al s (x, f)
  st : R.2 = r.2
  row : f = false → R.1 = Y ++ r.1

/-- What a row's reader comes to. -/
structure Told {α : Type} (R : List α × St) (Y : List α) (x : Nat) (f : Bool) : Prop where
  al : Al R.2 (x, f)
  row : f = false → R.1 = Y
theorem Far.told {α : Type} {l : List UInt8} {R : List α × St} {Y : List α} {r : List α × St} {s : St} {x : Nat} {f : Bool} (h : Far l R Y r s x f) (hr : r = ([], s)) : Told R Y x f := by
  have h1 := h.al
  have h2 := h.st
  have h3 := h.row
  rw [hr] at h2 h3
  exact ⟨by rw [h2]; exact h1, fun e => by rw [h3 e]; exact List.append_nil _⟩
theorem Far.stop {α : Type} {l : List UInt8} {R : List α × St} {Y Y' : List α} {r : List α × St} {s : St} {x : Nat} (h : Far l R Y r s x true) (hr : s.2 = true → r.2.2 = true) (x' : Nat) : Told R Y' x' true := by
  have h1 := h.al.1
  have h2 := h.st
  have hb : R.2.2 = true := by rw [h2]; exact hr h1.symm
  exact ⟨⟨hb.symm, fun e => by rw [hb] at e; cases e⟩, fun e => by cases e⟩

/-- A row that is being read: the reader's box, and the row, from the call's own memory. -/
structure Lr (Row : World → Prop) (w W : World) (p : Nat) (a : Option Addr) (n cap : Nat) (l : List UInt8) (x : Nat) (f : Bool) : Prop where
  rd : Rd 70 W p a n cap l x f
  tn : Tn p w W
  row : Row W
  old : p < w.heap.size

def iv (l : List Int) : List Value := l.map fun n => .int .i64 n
theorem iv_len (l : List Int) : (iv l).length = l.length := by simp [iv]
def IRow (B : Nat) (v : Value) (L : List Int) (w : World) : Prop := w.ownsRow B 3 1 v L.length (iv L)
theorem IRow.nil (B : Nat) (w : World) : IRow B (.slice none 0 0) [] w := World.ownsRow_nil _ _ _ _
theorem IRow.keep {B : Nat} {v : Value} {L : List Int} {w w' : World} (h : IRow B v L w) (hk : ∀ g, B ≤ g → g < w.heap.size → w'.heap[g]? = w.heap[g]?) : IRow B v L w' := row_keep h hk
theorem own_any {w : World} {B B' : Nat} {e s : Nat} {v : Value} {n : Nat} {xs : List Value} (h : w.ownsRow B e s v n xs) (hB : B' ≤ B) : w.ownsRow B' e s v n xs :=
  ⟨h.1, h.2.imp id fun ⟨g, cap, cur, h1, h2, h3⟩ => ⟨g, cap, cur, h1, Nat.le_trans hB h2, h3⟩⟩
theorem own_form {w : World} {B e s n : Nat} {v : Value} {xs : List Value} (h : w.ownsRow B e s v n xs) : ∃ a m c, v = .slice a m c := by
  rcases h.2 with ⟨e, _⟩ | ⟨g, cap, cur, e, _⟩
  · exact ⟨_, _, _, e⟩
  · exact ⟨_, _, _, e⟩

theorem infoInt : (Try.prog.info? 3).map (fun i => (i.zero, i.size, i.bytes)) = some (some (.int .i64 0), 1, 8) := by kernel_rfl

/-- 'append(l, n)': its run. -/
theorem run_int {B : Nat} {v : Value} {L : List Int} {w0 : World} {z : Int} (ty : TypeId) (h : IRow B v L w0) (hB : B ≤ w0.heap.size) (hlen : L.length + 1 ≤ 1000000) :
    ∃ a5 m5 c5 w', (Builtin.append_ #[87, 87] ty #[v, .slice (some ⟨w0.heap.size, 0, none⟩) 1 1]).run Try.prog (w0.alloc (.cells #[.int .i64 z] 3)) = .ok (.slice a5 m5 c5) w' ∧
      IRow B (.slice a5 m5 c5) (L ++ [z]) w' ∧ w'.os = w0.os ∧ w'.tape = w0.tape ∧ w'.output = w0.output ∧ w0.heap.size ≤ w'.heap.size ∧ ∀ k, k < B → w'.heap[k]? = w0.heap[k]? := by
  obtain ⟨i0, hi, hz0, hz1, hz2⟩ := info_parts infoInt
  have hb : Below w0.heap.size w0 (w0.alloc (.cells #[.int .i64 z] 3)) := (Below.refl _ _).alloc (Nat.le_refl _) _
  have h' : (w0.alloc (.cells #[.int .i64 z] 3)).ownsRow B 3 1 v L.length (iv L) := h.alloc _
  obtain ⟨v5, w5, hrun, hown, hg, _, _⟩ := run_append_own_at (P := Try.prog) (w0.alloc (.cells #[.int .i64 z] 3)) B 87 ty 3 i0 (.int .i64 0) 1 8 Try.underlying87 hi hz0 hz1 hz2 rfl (by decide) v L.length (iv L) h' ⟨w0.heap.size, 0, none⟩ 1 1 [.int .i64 z] rfl (cell_one_new w0 (.int .i64 z) 3) (fun u hu => by simp at hu; subst hu; rfl) (by unfold maxLen; omega) (by omega) (by simp; omega)
  have hown' : IRow B v5 (L ++ [z]) w5 := by
    show w5.ownsRow B 3 1 v5 (L ++ [z]).length (iv (L ++ [z]))
    have e : iv (L ++ [z]) = iv L ++ [.int .i64 z] := by simp [iv]
    rw [e]; simpa using hown
  obtain ⟨a5, m5, c5, rfl⟩ := own_form hown'
  refine ⟨a5, m5, c5, w5, hrun, hown', hg.os, hg.tape, hg.output, Nat.le_trans hb.size hg.size, fun k hk => ?_⟩
  refine (hg.block k (by simp; omega) fun e => ?_).trans (Below.heap_alloc _ _ _ (by omega))
  have := (h.lt k e.symm).1
  omega

/-- A reader's call, and the row, grown. -/
theorem Lr.next {Row Row' : World → Prop} {w W W5 W6 : World} {p : Nat} {a : Option Addr} {n cap : Nat} {l : List UInt8} {x x' : Nat} {f f' : Bool} (h : Lr Row w W p a n cap l x f) (hr : Rd 70 W5 p a n cap l x' f' ∧ Tn p W W5)
    (o1 : W6.os = W5.os) (o2 : W6.tape = W5.tape) (o3 : W6.output = W5.output) (hs : W5.heap.size ≤ W6.heap.size) (hk : ∀ k, k < w.heap.size → W6.heap[k]? = W5.heap[k]?) (hrow : Row' W6) : Lr Row' w W6 p a n cap l x' f' := by
  have ht := h.tn.trans hr.2
  have ho := h.old
  exact ⟨hr.1.keep fun k hk' => hk k (by omega), ⟨o1.trans ht.os, o2.trans ht.tape, o3.trans ht.output, Nat.le_trans ht.size hs, fun k h1 h2 => (hk k h1).trans (ht.block k h1 h2)⟩, hrow, ho⟩
theorem Lr.rows {Row : World → Prop} {w W W' : World} {p : Nat} {a : Option Addr} {n cap : Nat} {l : List UInt8} {x : Nat} {f : Bool} (h : Lr Row w W p a n cap l x f) (ht : Tn p W W') : ∀ g, w.heap.size ≤ g → g < W.heap.size → W'.heap[g]? = W.heap[g]? := fun g h1 h2 => ht.block g h2 (by have := h.old; omega)

theorem numsR_step (l : List UInt8) (k : Nat) (s : St) : numsR l (k + 1) s = (((num l 12 s.1 s.2).1 : Int) :: (numsR l k (num l 12 s.1 s.2).2).1, (numsR l k (num l 12 s.1 s.2).2).2) := rfl
theorem Far.nextI {l : List UInt8} {K j : Nat} {q s : St} {Y : List Int} {x : Nat} (h : Far l (numsR l K q) Y (numsR l (K - j) s) s x false) (hj : j < K) :
    Far l (numsR l K q) (Y ++ [((num l 12 x false).1 : Int)]) (numsR l (K - (j + 1)) (num l 12 x false).2) (num l 12 x false).2 (num l 12 x false).2.1 (num l 12 x false).2.2 := by
  have hs := h.al.good
  have h1 := h.le
  have h2 := h.st
  have h3 := h.row rfl
  subst hs
  have e1 : K - j = (K - (j + 1)) + 1 := by omega
  rw [e1, numsR_step] at h2 h3
  exact ⟨(num_rds l 12 (x, false) h1).1, Al.refl _, h2, fun _ => by rw [h3]; simp⟩

set_option maxHeartbeats 8000000 in
set_option maxRecDepth 100000 in
theorem listI_any {w : World} {p : Nat} {a : Option Addr} {n cap : Nat} {l : List UInt8} {x : Nat} {f : Bool} (h : Rd 70 w p a n cap l x f) (hx : x ≤ l.length) :
    Calls Try.prog 89 #[.pointer (some ⟨p, 0, none⟩), .int .u64 ((13 : Nat) : Int), .func (.func 66) #[.pointer (some ⟨p, 0, none⟩)] #[]] w fun e w' =>
      ∃ v L x' f', e = .returned v ∧ Hid (Lr (IRow w.heap.size v L) w w' p a n cap l x' f' ∧ Told (numsR l (num l 13 x f).1 (num l 13 x f).2) L x' f') := by
  generalize eJ : num l 13 x f = J
  have hJ : J.1 ≤ 13 ∧ J.2.1 ≤ l.length := by rw [← eJ]; exact num_le hx
  have hJ1 := hJ.1
  have HJ2 : Hid (J.2.1 ≤ l.length) := hJ.2
  have hp := h.lt
  have N0 : Hid (Calls _ _ _ _ _) := num_named h 13 (by omega) J eJ
  clear h eJ hJ hx
  go_enter Try.func89, Try.ntmps89
  go_wp2_with fail
  refine N0.out.mono ?_
  rintro e w1 ⟨rfl, hr⟩
  have HI : Hid (Lr (IRow w.heap.size (.slice none 0 0) []) w w1 p a n cap l J.2.1 J.2.2) := ⟨hr.out.1, hr.out.2, IRow.nil _ _, hp⟩
  clear N0 hr
  go_wp2
  go_loopw [7, 11] (fun t7 t11 wr => ∃ (i : Nat) (v7 : Value), v7 = t7 ∧ t11 = .int .i64 (i : Int) ∧ i ≤ J.1 ∧ Hid (∃ (L : List Int) (x : Nat) (f : Bool) (s : St), L.length = i ∧ Lr (IRow w.heap.size v7 L) w wr p a n cap l x f ∧ Far l (numsR l J.1 J.2) L (numsR l (J.1 - i) s) s x f)) (fun _ t11 _ => J.1 - (intOf t11).toNat)
  case atStart => exact ⟨0, _, rfl, rfl, Nat.zero_le _, [], J.2.1, J.2.2, J.2, rfl, HI.out, ⟨HJ2.out, Al.refl _, rfl, fun _ => rfl⟩⟩
  case round =>
    obtain ⟨i, v7, rfl, rfl, hi, HR⟩ := hrel
    clear HI
    obtain ⟨L, x, f, s, hL, hS, hF⟩ := HR.out
    have HS : Hid (Lr _ _ _ _ _ _ _ _ _ _) := hS
    have HF : Hid (Far _ _ _ _ _ _ _) := hF
    have HK : Hid (L.length = i) := hL
    obtain ⟨⟨b0, b1, b2⟩, -⟩ := cells3 hS.rd.box
    by_cases hlt : i < J.1
    · cases f with
      | true =>
        have HT : Hid (Told (numsR l J.1 J.2) [] x true) := hF.stop (fun hb => Rds.bad (numsR_rds l _ s) hF.le hb) x
        have HS2 : Hid (Lr (IRow w.heap.size (.slice none 0 0) []) w wr p a n cap l x true) := ⟨hS.rd, hS.tn, IRow.nil _ _, hS.old⟩
        clear hS hF hL HR b0 b1
        go_wp2
        go_ret
        exact ⟨_, [], x, true, rfl, HS2.out, HT.out⟩
      | false =>
        have HCN : Hid (Calls _ _ _ _ _) := node_named hS.rd _ rfl
        have HFN : Hid (Far _ _ _ _ _ _ _) := hF.nextI hlt
        clear hS hF hL HR b0 b1
        go_wp2_with (first
          | (go_at_call 66; refine HCN.out.mono ?_; rintro e w5 ⟨rfl, hr⟩; obtain ⟨a5, m5, c5, w6, hrun5, hown5, o1, o2, o3, o4, hk5⟩ := run_int (z := ((num l 12 x false).1 : Int)) 87 (HS.out.row.keep (HS.out.rows hr.out.2)) (Nat.le_trans HS.out.tn.size hr.out.2.size) (by have := HK.out; omega))
          | (at_builtin; refine wpList_known rfl (.tmp 17) (.tmp 20) _ rfl _ _ _ rfl rfl hrun5 ?_))
        have HN : Hid (Lr (IRow w.heap.size (.slice a5 m5 c5) (L ++ [((num l 12 x false).1 : Int)])) w w6 p a n cap l (num l 12 x false).2.1 (num l 12 x false).2.2) := HS.out.next hr.out o1 o2 o3 o4 hk5 hown5
        clear hr hown5 o1 o2 o3 o4 hk5 hrun5
        go_roundw
        case rel => exact ⟨i + 1, _, rfl, by go_num, by omega, _, _, _, _, by rw [List.length_append, HK.out]; rfl, HN.out, HFN.out⟩
        case measure => simp [intOf]; omega
    · have ej : J.1 - i = 0 := by omega
      have HT : Hid (Told (numsR l J.1 J.2) L x f) := hF.told (by rw [ej]; rfl)
      clear hS hF hL HR ej
      go_wp2
      go_ret
      exact ⟨_, L, x, f, rfl, HS.out, HT.out⟩
end Go.Proofs.Ytbcemghkmmbmdaa.Msg
