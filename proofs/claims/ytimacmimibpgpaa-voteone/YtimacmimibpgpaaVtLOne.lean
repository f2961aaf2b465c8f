/-
  VoteOne, walked.
-/
import Derived.Test.YtimacmimibpgpaaVtLTells
import Derived.Test.YtimacmimibpgpaaVtArgs2
import Derived.Deep.RegionHeld3
namespace Go.Proofs.Ytimacmimibpgpaa.Vote
open Go.RowKit

/-- The j-th text. -/
def txAt (L : List ByteArray) (j : Nat) : ByteArray := L.getD j ByteArray.empty
/-- Each node's vote, twice. -/
def tw (L : List ByteArray) : Nat → List Vt
  | 0 => []
  | i + 1 => tw L i ++ [((i : Int), txAt L i), ((i : Int), txAt L i)]
/-- How many of the first say it. -/
def num (L : List ByteArray) (t : ByteArray) : Nat → Nat
  | 0 => 0
  | i + 1 => num L t i + if txAt L i = t then 1 else 0
theorem tw_len (L : List ByteArray) : ∀ i, (tw L i).length = 2 * i
  | 0 => rfl
  | i + 1 => by simp [tw, tw_len L i]; omega
theorem tw_mem (L : List ByteArray) : ∀ i, ∀ v ∈ tw L i, ∃ j, j < i ∧ v = ((j : Int), txAt L j)
  | 0, v, h => by simp [tw] at h
  | i + 1, v, h => by
    rcases List.mem_append.1 h with h | h
    · obtain ⟨j, hj, e⟩ := tw_mem L i v h
      exact ⟨j, by omega, e⟩
    · simp at h
      exact ⟨i, by omega, h⟩
theorem tw_cnt (L : List ByteArray) (t : ByteArray) : ∀ i, cnt (tw L i) t = num L t i
  | 0 => rfl
  | i + 1 => by
    have e : tw L (i + 1) = (tw L i ++ [((i : Int), txAt L i)]) ++ [((i : Int), txAt L i)] := by simp [tw]
    have hn : ((i : Int), txAt L i) ∉ tw L i := fun h => by
      obtain ⟨j, hj, e⟩ := tw_mem L i _ h
      have := congrArg Prod.fst e
      simp only at this
      omega
    rw [e, cnt_old (by simp), num, ← tw_cnt L t i]
    by_cases h : txAt L i = t
    · subst h
      rw [if_pos rfl]
      exact cnt_new hn
    · rw [if_neg h, cnt_other h]; rfl
theorem num_two (L : List ByteArray) {a b : ByteArray} (h : a ≠ b) : ∀ i, num L a i + num L b i ≤ i
  | 0 => Nat.le_refl _
  | i + 1 => by
    have := num_two L h i
    simp only [num]
    by_cases h1 : txAt L i = a
    · rw [if_pos h1, if_neg (fun e => h (h1.symm.trans e))]; omega
    · rw [if_neg h1]; split <;> omega

theorem _root_.Go.Proofs.Ytimacmimibpgpaa.LiesT.below {w w' : World} {a : Option Addr} {l : List ByteArray} (h : LiesT w a l) (hb : Below w.heap.size w w') : LiesT w' a l := by
  rcases h with h | ⟨x, rfl, h⟩
  · exact .inl h
  · exact .inr ⟨x, rfl, fun j hj => cell_below hb (Nat.le_refl _) (h j hj)⟩
theorem _root_.Go.Proofs.Ytimacmimibpgpaa.LiesT.at {w : World} {a : Option Addr} {l : List ByteArray} (h : LiesT w a l) {j : Nat} (hj : j < l.length) : ∃ x, a = some x ∧ w.cell? (x.add j) = some (.string (txAt l j)) := by
  rcases h with rfl | ⟨x, rfl, h⟩
  · simp at hj
  · exact ⟨x, rfl, h j hj⟩
def TArg (W : World) (a : Option Addr) (l : List ByteArray) (len : Nat) : Prop := len = l.length ∧ LiesT W a l ∧ (∀ s ∈ l, s.size ≤ 281474976710656) ∧ len ≤ 9223372036854775807

theorem tw_ok {L : List ByteArray} {n : Nat} (hn : n = L.length) (hs : ∀ s ∈ L, s.size ≤ 281474976710656) (h13 : n ≤ 13) {i : Nat} (hi : i ≤ n) : ∀ v ∈ tw L i, VOk v := by
  intro v hv
  obtain ⟨j, hj, rfl⟩ := tw_mem L i v hv
  refine ⟨WalkArith.wf_i64 (by omega), hs _ ?_⟩
  simp [txAt, List.getD_eq_getElem?_getD, show j < L.length by omega]

/-- Two votes in one block. -/
theorem ylies {W : World} {b : Nat} {f : Int} {s : ByteArray} (h : W.heap[b]? = some (.cells #[.int .i64 f, .string s, .int .i64 f, .string s] 31 (0, 0))) : LiesV W (some ⟨b, 0, none⟩) [(f, s), (f, s)] := by
  refine .inr ⟨_, rfl, fun j hj => ?_⟩
  match j, hj with
  | 0, _ => exact ⟨by simp [Addr.add, World.cell?, h, vtAt], by simp [Addr.add, World.cell?, h, vtAt]⟩
  | 1, _ => exact ⟨by simp [Addr.add, World.cell?, h, vtAt], by simp [Addr.add, World.cell?, h, vtAt]⟩
  | (j + 2), hj => exact absurd hj (by show ¬ j + 2 < 2; omega)

set_option maxHeartbeats 2000000 in
set_option maxRecDepth 100000 in
theorem voteOne_walk (f : Int) (d : Option Addr) (L : List ByteArray) (n cap : Nat) (a b : ByteArray) (w : World) (_ : (Lit.int .i64 f).wf = true) (h : TArg w d L n) (_ : a.size ≤ maxLen) (_ : b.size ≤ maxLen) :
    Calls Try.prog 5 #[.int .i64 f, .slice d n cap, .string a, .string b] w fun e w' => e = .returned (.bool true) ∧ Below w.heap.size w w' := by
  have HU : Hid (Calls _ _ _ _ _) := up_any w
  have HH : Hid (TArg w d L n) := h
  have hmx := h.2.2.2
  clear h
  by_cases h1 : f < 1
  · go_enter Try.func5, Try.ntmps5
    go_wp2_with (go_at_call 7; refine HU.out.mono ?_; rintro e w1 ⟨rfl, hb⟩)
    go_ret
    exact ⟨rfl, hb⟩
  by_cases h4 : 4 < f
  · go_enter Try.func5, Try.ntmps5
    go_wp2_with (go_at_call 7; refine HU.out.mono ?_; rintro e w1 ⟨rfl, hb⟩)
    go_ret
    exact ⟨rfl, hb⟩
  by_cases hn : 3 * f + 1 < (n : Int)
  · go_enter Try.func5, Try.ntmps5
    go_wp2_with (go_at_call 7; refine HU.out.mono ?_; rintro e w1 ⟨rfl, hb⟩)
    go_ret
    exact ⟨rfl, hb⟩
  by_cases hab : a = b
  · have hd : (a.toList == b.toList) = true := by rw [str_eq, decide_eq_true hab]
    go_enter Try.func5, Try.ntmps5
    go_wp2_with (go_at_call 7; refine HU.out.mono ?_; rintro e w1 ⟨rfl, hb⟩)
    go_ret
    exact ⟨rfl, hb⟩
  have hd := ne_text hab
  have HAB : Hid (a ≠ b) := hab
  clear hab
  have hn13 : n ≤ 13 := by omega
  go_enter Try.func5, Try.ntmps5
  go_wp2_with (go_at_call 7; refine HU.out.mono ?_; rintro e w1 ⟨rfl, hb⟩)
  have HB1 : Hid (Below w.heap.size w w1) := hb
  clear hb HU hd
  go_loopw [10, 11] (fun t10 t11 wr => ∃ (i : Nat) (v : Value), v = t10 ∧ t11 = .int .i64 (i : Int) ∧ i ≤ n ∧ Hid (VRow w1.heap.size v (tw L i) w1 wr)) (fun _ t11 _ => n - (intOf t11).toNat)
  case atStart => exact ⟨0, _, rfl, rfl, Nat.zero_le _, VRow.nil w1⟩
  case round =>
    obtain ⟨i, v, rfl, rfl, hi, HR⟩ := hrel
    by_cases hin : i < n
    · obtain ⟨x, hx, hc⟩ := (HH.out.2.1.below (HB1.out.trans (HR.out.2.1.mono HB1.out.size))).at (j := i) (by rw [← HH.out.1]; exact hin)
      subst hx
      have HT : Hid (tw L (i + 1) = tw L i ++ [((i : Int), txAt L i), ((i : Int), txAt L i)]) := rfl
      have HS : Hid (∀ W, Below w1.heap.size w1 W → Below w1.heap.size w1 W ∧ W.cell? (x.add i) = some (.string (txAt L i))) := fun W hb => by
        obtain ⟨z, hz, h⟩ := (HH.out.2.1.below (HB1.out.trans (hb.mono HB1.out.size))).at (j := i) (by rw [← HH.out.1]; exact hin)
        cases hz
        exact ⟨hb, h⟩
      have HRB : Hid (Below w1.heap.size w1 wr ∧ w1.heap.size ≤ wr.heap.size) := ⟨HR.out.2.1, HR.out.2.2⟩
      have HLn : Hid ((tw L i).length = 2 * i) := tw_len L i
      generalize tw L i = F at HR HT HLn
      generalize txAt L i = s at hc HT HS
      go_wp2_with fail
      go_region_held3 (fun W => Below w1.heap.size w1 W ∧ W.cell? (x.add i) = some (.string s))
        (first | assumption | exact HS.out _ hf7.2.1 | exact HS.out _ HRB.out.1.drew | exact HS.out _ HRB.out.1 | exact HS.out _ (HRB.out.1.alloc HRB.out.2 _) | exact HS.out _ (HRB.out.1.drew.alloc HRB.out.2 _))
        (first
          | (refine step_votes (by rfl) _ _ (by rfl) w1.heap.size v F (by rfl) w1 _ (by first | exact HR.out.alloc _ | exact (HR.out.later (Below.refl _ _).drew).alloc _) [((i : Int), s), ((i : Int), s)] (some ⟨_, 0, none⟩) 2 2 (by rfl) rfl (ylies (by exact heap_alloc_new _ _)) (fun h => by cases h) (by rw [HLn.out]; omega) ?_; intro v7 w7 hf7 hq7))
      all_goals
        clear hq7 HS
        go_wp2
        go_roundw
        case rel => exact ⟨i + 1, _, rfl, by go_num, by omega, by show VRow _ _ _ _ _; rw [HT.out]; exact hf7⟩
        case measure => simp [intOf]; omega
    · have e : i = n := by omega
      subst e
      have HN : Hid (2 * i = (tw L i).length) := (tw_len L i).symm
      obtain ⟨b7, c7, hve, _, hl7⟩ := HR.out.liesN HN.out
      subst hve
      have HV : Hid (VGiven wr b7 (2 * i) (tw L i)) := ⟨HN.out, hl7, tw_ok HH.out.1 HH.out.2.2.1 hn13 (Nat.le_refl _), by omega⟩
      have HW : Hid (Below w.heap.size w wr) := HB1.out.trans (HR.out.2.1.mono HB1.out.size)
      obtain ⟨ka, hka⟩ : ∃ k, k = cnt (tw L i) a := ⟨_, rfl⟩
      obtain ⟨kb, hkb⟩ : ∃ k, k = cnt (tw L i) b := ⟨_, rfl⟩
      have hsum : ka + kb ≤ i := by rw [hka, hkb, tw_cnt, tw_cnt]; exact num_two L HAB.out i
      have HA : Hid (∀ W, Below wr.heap.size wr W → Calls Try.prog 10 #[.slice b7 (2 * i) c7, .string a] W fun e w' => e = .returned (.int .i64 (ka : Int)) ∧ Below wr.heap.size wr w') := fun W hb => by
        rw [hka]
        refine (count_any b7 (2 * i) c7 (tw L i) a W (HV.out.below hb)).mono ?_
        rintro e w' ⟨rfl, h⟩
        exact ⟨rfl, hb.trans (h.mono hb.size)⟩
      have HBc : Hid (∀ W, Below wr.heap.size wr W → Calls Try.prog 10 #[.slice b7 (2 * i) c7, .string b] W fun e w' => e = .returned (.int .i64 (kb : Int)) ∧ Below wr.heap.size wr w') := fun W hb => by
        rw [hkb]
        refine (count_any b7 (2 * i) c7 (tw L i) b W (HV.out.below hb)).mono ?_
        rintro e w' ⟨rfl, h⟩
        exact ⟨rfl, hb.trans (h.mono hb.size)⟩
      have HQ : Hid (∀ W, Calls Try.prog 12 #[.int .i64 f] W fun e w' => e = .returned (.int .i64 (2 * f + 1)) ∧ w' = W) := fun W => by
        have := quorum_any f W
        rw [show quorum f = 2 * f + 1 from if_pos (by omega)] at this
        exact this
      clear hka hkb hl7 HR HV HN HH HAB HB1 hin
      have hsi : decide ((ka : Int) + (kb : Int) ≤ (i : Int)) = true := decide_eq_true (by omega)
      by_cases hqa : 2 * f + 1 ≤ (ka : Int)
      · have hqb : ¬ 2 * f + 1 ≤ (kb : Int) := by omega
        go_wp2_with (first | (go_at_call 12; refine (HQ.out _).mono ?_; rintro e w9 ⟨rfl, rfl⟩) | (go_at_call 10; (first | refine (HA.out _ (by first | exact hbc | exact Below.refl _ _)).mono ?_ | refine (HBc.out _ (by first | exact hbc | exact Below.refl _ _)).mono ?_); rintro e wc ⟨rfl, hbc⟩))
        go_ret
        exact ⟨by first | rfl | (simp; omega), HW.out.trans (hbc.mono HW.out.size)⟩
      · go_wp2_with (first | (go_at_call 12; refine (HQ.out _).mono ?_; rintro e w9 ⟨rfl, rfl⟩) | (go_at_call 10; (first | refine (HA.out _ (by first | exact hbc | exact Below.refl _ _)).mono ?_ | refine (HBc.out _ (by first | exact hbc | exact Below.refl _ _)).mono ?_); rintro e wc ⟨rfl, hbc⟩))
        go_ret
        exact ⟨by first | rfl | (simp; omega), HW.out.trans (hbc.mono HW.out.size)⟩
end Go.Proofs.Ytimacmimibpgpaa.Vote
