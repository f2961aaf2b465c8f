/-
  Rows of proofs read.
-/
import Derived.Test.YtbcemghkmmbmdaaMsRow2
namespace Go.Proofs.Ytbcemghkmmbmdaa.Msg
open Go.RowKit Route Order

theorem kinds {w : World} {B B' : Nat} {e e' : TypeId} {v v' : Value} {n n' s s' : Nat} {xs xs' : List Value} (h : w.ownsRow B e s v n xs) (h' : w.ownsRow B' e' s' v' n' xs') (hne : e ≠ e') : v'.ownBlock = none ∨ v'.ownBlock ≠ v.ownBlock := by
  rcases h'.2 with ⟨rfl, _⟩ | ⟨g', cap', cur', rfl, _, e1, _⟩
  · exact .inl rfl
  · right
    rcases h.2 with ⟨rfl, _⟩ | ⟨g, cap, cur, rfl, _, e2, _⟩
    · simp [Value.ownBlock]
    · simp only [Value.ownBlock, ne_eq, Option.some.injEq]
      rintro rfl
      rw [e1] at e2
      simp at e2
      exact hne e2.2.symm
theorem own_one {w : World} {B e s n : Nat} {v : Value} {xs : List Value} (h : w.ownsRow B e s v n xs) : v.oneCell' = true := by
  rcases h.2 with ⟨e, _⟩ | ⟨_, _, _, e, _⟩ <;> rw [e] <;> rfl
theorem own_later {w w' : World} {B : Nat} {e : TypeId} {s : Nat} {v : Value} {n : Nat} {xs : List Value} (h : w.ownsRow B e s v n xs) (hb : Below w.heap.size w w') : w'.ownsRow B e s v n xs :=
  ⟨h.1, h.2.imp id fun ⟨g, cap, cur, h1, h2, h3, h4⟩ => ⟨g, cap, cur, h1, h2, (hb.block g (Array.getElem?_eq_some_iff.1 h3).1).trans h3, h4⟩⟩

/-- A proof with its row's value. -/
abbrev PZ := Pf × Value
def pcells (Z : List PZ) : List Value := Z.flatMap fun z => [.int .i64 z.1.1, .int .i64 z.1.2.1, .string z.1.2.2.1, z.2]
theorem pcells_app (Y Z : List PZ) : pcells (Y ++ Z) = pcells Y ++ pcells Z := by simp [pcells]
/-- A row of proofs that is owned, the rows of their nodes too. -/
def PRow (B : Nat) (v : Value) (Z : List PZ) (w : World) : Prop := w.ownsRow B 89 4 v Z.length (pcells Z) ∧ ∀ z ∈ Z, IRow B z.2 z.1.2.2.2 w
theorem PRow.nil (B : Nat) (w : World) : PRow B (.slice none 0 0) [] w := ⟨World.ownsRow_nil _ _ _ _, fun z hz => by simp at hz⟩
theorem PRow.keep {B : Nat} {v : Value} {Z : List PZ} {w w' : World} (h : PRow B v Z w) (hk : ∀ g, B ≤ g → g < w.heap.size → w'.heap[g]? = w.heap[g]?) : PRow B v Z w' := ⟨row_keep h.1 hk, fun z hz => row_keep (h.2 z hz) hk⟩
theorem PRow.any {B B' : Nat} {v : Value} {Z : List PZ} {w : World} (h : PRow B v Z w) (hB : B' ≤ B) : PRow B' v Z w := ⟨own_any h.1 hB, fun z hz => own_any (h.2 z hz) hB⟩
theorem infoPf : (Try.prog.info? 89).map (fun i => (i.zero, i.size, i.bytes)) = some (some (.agg #[.int .i64 0, .int .i64 0, .string ByteArray.empty, .slice none 0 0]), 4, 56) := by kernel_rfl

/-- 'append(l, e)': its run. -/
theorem run_pf {B : Nat} {v : Value} {Z : List PZ} {w0 : World} {z : PZ} (ty : TypeId) (h : PRow B v Z w0) (hB : B ≤ w0.heap.size) (hz : IRow B z.2 z.1.2.2.2 w0) (hlen : Z.length + 1 ≤ 1000000) :
    ∃ a5 m5 c5 w', (Builtin.append_ #[22, 22] ty #[v, .slice (some ⟨w0.heap.size, 0, none⟩) 1 1]).run Try.prog (w0.alloc (.cells #[.int .i64 z.1.1, .int .i64 z.1.2.1, .string z.1.2.2.1, z.2] 89)) = .ok (.slice a5 m5 c5) w' ∧
      PRow B (.slice a5 m5 c5) (Z ++ [z]) w' ∧ w'.os = w0.os ∧ w'.tape = w0.tape ∧ w'.output = w0.output ∧ w0.heap.size ≤ w'.heap.size ∧ ∀ k, k < B → w'.heap[k]? = w0.heap[k]? := by
  obtain ⟨i0, hi, hz0, hz1, hz2⟩ := info_parts infoPf
  have hb : Below w0.heap.size w0 (w0.alloc (.cells #[.int .i64 z.1.1, .int .i64 z.1.2.1, .string z.1.2.2.1, z.2] 89)) := (Below.refl _ _).alloc (Nat.le_refl _) _
  have h' := own_later h.1 hb
  have hz' := own_later hz hb
  have hone := own_one hz
  obtain ⟨v', w', hr, h2, h3, _, _⟩ := run_append_own_at (P := Try.prog) (w0.alloc (.cells #[.int .i64 z.1.1, .int .i64 z.1.2.1, .string z.1.2.2.1, z.2] 89)) B 22 ty 89 i0 (.agg #[.int .i64 0, .int .i64 0, .string ByteArray.empty, .slice none 0 0]) 4 56 Try.underlying22 hi hz0 hz1 hz2 rfl (by decide) v Z.length (pcells Z) h' ⟨w0.heap.size, 0, none⟩ 1 1 [.int .i64 z.1.1, .int .i64 z.1.2.1, .string z.1.2.2.1, z.2] rfl
    (by
      intro j u hj
      match j, hj with
      | 0, hj => simp at hj; subst hj; simp [Addr.add]
      | 1, hj => simp at hj; subst hj; simp [Addr.add]
      | 2, hj => simp at hj; subst hj; simp [Addr.add]
      | 3, hj => simp at hj; subst hj; simp [Addr.add]
      | (j + 4), hj => simp at hj)
    (by
      intro u hu
      simp at hu
      rcases hu with rfl | rfl | rfl | rfl
      · rfl
      · rfl
      · rfl
      · exact hone)
    (by unfold maxLen; omega) (by omega) (Nat.le_trans hB hb.size)
  have hE : PRow B v' (Z ++ [z]) w' := by
    refine ⟨?_, fun y hy => ?_⟩
    · rw [pcells_app, List.length_append]
      have e : pcells [z] = [.int .i64 z.1.1, .int .i64 z.1.2.1, .string z.1.2.2.1, z.2] := by simp [pcells]
      rw [e]
      exact h2
    · rcases List.mem_append.1 hy with hy | hy
      · exact World.ownsRow.kept (own_later (h.2 y hy) hb) h3 (kinds h' (own_later (h.2 y hy) hb) (by decide))
      · rw [List.mem_singleton.1 hy]; exact World.ownsRow.kept hz' h3 (kinds h' hz' (by decide))
  obtain ⟨a5, m5, c5, rfl⟩ := own_form hE.1
  refine ⟨a5, m5, c5, w', hr, hE, h3.os, h3.tape, h3.output, Nat.le_trans hb.size h3.size, fun k hk => ?_⟩
  refine (h3.block k (by simp; omega) fun e => ?_).trans (Below.heap_alloc _ _ _ (by omega))
  have := (h'.lt k e.symm).1
  omega

theorem proofsR_step (l : List UInt8) (k : Nat) (s : St) : proofsR l (k + 1) s = ((proofR l s).1 :: (proofsR l k (proofR l s).2).1, (proofsR l k (proofR l s).2).2) := rfl
theorem Far.nextP {l : List UInt8} {K j : Nat} {q s : St} {Y : List Pf} {x x' : Nat} {f' : Bool} {z : Pf} (h : Far l (proofsR l K q) Y (proofsR l (K - j) s) s x false) (hj : j < K) (h1 : Al (proofR l (x, false)).2 (x', f')) (hz : f' = false → (proofR l (x, false)).1 = z) :
    Far l (proofsR l K q) (Y ++ [z]) (proofsR l (K - (j + 1)) (proofR l (x, false)).2) (proofR l (x, false)).2 x' f' := by
  have hs := h.al.good
  have h0 := h.le
  have h2 := h.st
  have h3 := h.row rfl
  subst hs
  have e1 : K - j = (K - (j + 1)) + 1 := by omega
  rw [e1, proofsR_step] at h2 h3
  exact ⟨(proofR_rds l (x, false) h0).1, h1, h2, fun e => by rw [h3, hz e]; simp⟩
theorem Rd.le {T : TypeId} {w : World} {p : Nat} {a : Option Addr} {n cap : Nat} {l : List UInt8} {x : Nat} {f : Bool} (h : Rd T w p a n cap l x f) : x ≤ l.length := by have := h.at'; have := h.len; omega

set_option maxHeartbeats 8000000 in
set_option maxRecDepth 100000 in
theorem listP_any {w : World} {p : Nat} {a : Option Addr} {n cap : Nat} {l : List UInt8} {x : Nat} {f : Bool} (h : Rd 70 w p a n cap l x f) :
    Calls Try.prog 68 #[.pointer (some ⟨p, 0, none⟩), .int .u64 ((64 : Nat) : Int), .func (.func 69) #[.pointer (some ⟨p, 0, none⟩)] #[]] w fun e w' =>
      ∃ v L x' f', e = .returned v ∧ Hid (Lr (PRow w.heap.size v L) w w' p a n cap l x' f' ∧ Told (listP l (x, f)) (L.map (·.1)) x' f') := by
  have hx := Rd.le h
  have HLP : Hid (∀ J, num l 64 x f = J → listP l (x, f) = proofsR l J.1 J.2) := fun J e => by subst e; rfl
  generalize eJ : num l 64 x f = J
  have hJ : J.1 ≤ 64 ∧ J.2.1 ≤ l.length := by rw [← eJ]; exact num_le hx
  have hJ1 := hJ.1
  have HJ2 : Hid (J.2.1 ≤ l.length) := hJ.2
  have hp := h.lt
  have N0 : Hid (Calls _ _ _ _ _) := num_named h 64 (by omega) J eJ
  rw [HLP.out J eJ]
  clear h eJ hJ hx HLP
  go_enter Try.func68, Try.ntmps68
  go_wp2_with fail
  refine N0.out.mono ?_
  rintro e w1 ⟨rfl, hr⟩
  have HI : Hid (Lr (PRow w.heap.size (.slice none 0 0) []) w w1 p a n cap l J.2.1 J.2.2) := ⟨hr.out.1, hr.out.2, PRow.nil _ _, hp⟩
  clear N0 hr
  go_wp2
  go_loopw [7, 11] (fun t7 t11 wr => ∃ (i : Nat) (v7 : Value), v7 = t7 ∧ t11 = .int .i64 (i : Int) ∧ i ≤ J.1 ∧ Hid (∃ (L : List PZ) (x : Nat) (f : Bool) (s : St), L.length = i ∧ Lr (PRow w.heap.size v7 L) w wr p a n cap l x f ∧ Far l (proofsR l J.1 J.2) (L.map (·.1)) (proofsR l (J.1 - i) s) s x f)) (fun _ t11 _ => J.1 - (intOf t11).toNat)
  case atStart => exact ⟨0, _, rfl, rfl, Nat.zero_le _, [], J.2.1, J.2.2, J.2, rfl, HI.out, ⟨HJ2.out, Al.refl _, rfl, fun _ => rfl⟩⟩
  case round =>
    obtain ⟨i, v7, rfl, rfl, hi, HR⟩ := hrel
    clear HI
    obtain ⟨L, x, f, s, hL, hS, hF⟩ := HR.out
    have HS : Hid (Lr _ _ _ _ _ _ _ _ _ _) := hS
    have HF : Hid (Far _ _ _ _ _ _ _) := hF
    have HK : Hid (L.length = i) := hL
    obtain ⟨⟨b0, b1, b2⟩, -⟩ := cells3 hS.rd.box
    by_cases hlt : i < J.1
    · cases f with
      | true =>
        have HT : Hid (Told (proofsR l J.1 J.2) (([] : List PZ).map (·.1)) x true) := hF.stop (fun hb => Rds.bad (proofsR_rds l _ s) hF.le hb) x
        have HS2 : Hid (Lr (PRow w.heap.size (.slice none 0 0) []) w wr p a n cap l x true) := ⟨hS.rd, hS.tn, PRow.nil _ _, hS.old⟩
        clear hS hF hL HR b0 b1
        go_wp2
        go_ret
        exact ⟨_, [], x, true, rfl, HS2.out, HT.out⟩
      | false =>
        have HCN : Hid (Calls _ _ _ _ _) := proof_any hS.rd (Rd.le hS.rd)
        clear hS hF hL HR b0 b1
        go_wp2_with (first
          | (go_at_call 69; refine HCN.out.mono ?_; rintro e w5 ⟨z, kv, x5, f5, rfl, hr⟩; obtain ⟨hr1, hr2, hr3, hr4, hr5⟩ := hr.out; obtain ⟨a5, m5, c5, w6, hrun5, hown5, o1, o2, o3, o4, hk5⟩ := run_pf (z := (z, kv)) 22 (HS.out.row.keep (HS.out.rows hr2)) (Nat.le_trans HS.out.tn.size hr2.size) (int_down hr3 HS.out.tn.size) (by have := HK.out; omega))
          | (at_builtin; refine wpList_known rfl (.tmp 17) (.tmp 20) _ rfl _ _ _ rfl rfl hrun5 ?_))
        have HN : Hid (Lr (PRow w.heap.size (.slice a5 m5 c5) (L ++ [(z, kv)])) w w6 p a n cap l x5 f5) := HS.out.next ⟨hr1, hr2⟩ o1 o2 o3 o4 hk5 hown5
        have HFN : Hid (Far _ _ _ _ _ _ _) := HF.out.nextP hlt hr4 hr5
        clear hr hr1 hr2 hr3 hr4 hr5 hown5 o1 o2 o3 o4 hk5 hrun5
        go_roundw
        case rel => exact ⟨i + 1, _, rfl, by go_num, by omega, _, _, _, _, by rw [List.length_append, HK.out]; rfl, HN.out, by rw [List.map_append]; exact HFN.out⟩
        case measure => simp [intOf]; omega
    · have ej : J.1 - i = 0 := by omega
      have HT : Hid (Told (proofsR l J.1 J.2) (L.map (·.1)) x f) := hF.told (by rw [ej]; rfl)
      clear hS hF hL HR ej
      go_wp2
      go_ret
      exact ⟨_, L, x, f, rfl, HS.out, HT.out⟩
end Go.Proofs.Ytbcemghkmmbmdaa.Msg
