/-
  The contracts of the tape's own calls, and of 'pick'.
-/
import Derived.Test.YtfcnbdnmnmihjaaTpMem
import Derived.BigQuiet
namespace Go.Proofs.Ytfcnbdnmnmihjaa
open Go.RowKit

theorem new_any (w : World) : Calls Try.prog 8 #[] w fun e w' => e = .returned (.pointer (some ⟨w.heap.size, 0, none⟩)) ∧ w' = w.alloc (.cells #[.slice none 0 0, .int .i64 0] 52) := by
  go_enter Try.func8, Try.ntmps8
  go_wp2
  go_ret
  exact ⟨rfl, rfl⟩

theorem new_tape (w : World) : TapeAt w.heap.size (w.alloc (.cells #[.slice none 0 0, .int .i64 0] 52)) w.heap.size [] 0 none :=
  ⟨.slice none 0 0, heap_alloc_new w _, Nat.le_refl _, Row.nil _ _, rfl, by simp, Nat.le_refl _, by simp⟩

theorem synced_any {B tp sy : Nat} {r : Option Nat} {l : List UInt8} {w : World} (h : TapeAt B w tp l sy r) :
    Calls Try.prog 19 #[.pointer (some ⟨tp, 0, none⟩)] w fun e w' => e = .returned (.int .i64 (sy : Int)) ∧ w' = w := by
  obtain ⟨a, k, cap, c0, c1, _⟩ := h.open
  go_enter Try.func19, Try.ntmps19
  go_wp2
  go_ret
  exact ⟨rfl, rfl⟩

set_option maxHeartbeats 400000 in
theorem keep_any {B tp sy n : Nat} {r : Option Nat} {l : List UInt8} {w : World} (h : TapeAt B w tp l sy r) (hn : n ≤ l.length) :
    Calls Try.prog 29 #[.pointer (some ⟨tp, 0, none⟩), .int .i64 (n : Int)] w fun e w' => e = .returned (.tuple #[]) ∧ TapeAt B w' tp (l.take n) n r ∧ Turns tp r r w w' := by
  obtain ⟨a, k, cap, c0, c1, f0, f1, hk, hkc, hcm, hl, hnil, hrow, hv, hh, htp, hsy, hmx⟩ := h.open
  have HT : Hid (_ ∧ _) := h.cut hh hn
  have hnk : n ≤ k := by rw [hk.out]; exact hn
  clear hh hv hrow hl hcm h hn
  unfold maxLen at *
  cases a with
  | none =>
    obtain ⟨rfl, rfl⟩ := hnil rfl
    obtain rfl : n = 0 := by omega
    go_enter Try.func29, Try.ntmps29
    go_wp2
    go_end0
    exact ⟨rfl, HT.out⟩
  | some x =>
    go_enter Try.func29, Try.ntmps29
    go_wp2
    go_end0
    exact ⟨rfl, HT.out⟩

theorem sync_any {B tp sy : Nat} {r : Option Nat} {l : List UInt8} {w : World} (h : TapeAt B w tp l sy r) :
    Calls Try.prog 26 #[.pointer (some ⟨tp, 0, none⟩)] w fun e w' => e = .returned (.tuple #[]) ∧ TapeAt B w' tp l l.length r ∧ Turns tp r r w w' := by
  obtain ⟨a, k, cap, c0, c1, f0, f1, hk, hkc, hcm, hl, hnil, hrow, hv, hh, htp, hsy, hmx⟩ := h.open
  have HC : Hid (Calls Try.prog 29 #[.pointer (some ⟨tp, 0, none⟩), .int .i64 (k : Int)] w fun e w' => e = .returned (.tuple #[]) ∧ TapeAt B w' tp l l.length r ∧ Turns tp r r w w') := by
    have hc := keep_any (n := k) h (by rw [hk.out]; exact Nat.le_refl _)
    rw [List.take_of_length_le (by rw [hk.out]; exact Nat.le_refl _)] at hc
    show Calls _ _ _ _ _
    rw [← hk.out]
    exact hc
  clear hh hv hrow hl hcm h hnil
  go_enter Try.func26, Try.ntmps26
  go_wp2_with (go_at_call 29; refine HC.out.mono ?_; rintro e w1 ⟨rfl, ht, hs⟩)
  go_end0
  exact ⟨rfl, ht, hs⟩

/-- How many bytes stay behind a crash. -/
def stay (l : List UInt8) (sy : Nat) (n : Int) : Nat := sy + min n.toNat (l.length - sy)
theorem stay_le {l : List UInt8} {sy : Nat} {n : Int} (h : sy ≤ l.length) : stay l sy n ≤ l.length := by unfold stay; omega

set_option maxHeartbeats 400000 in
theorem crash_any {B tp sy : Nat} {r : Option Nat} {l : List UInt8} {w : World} {n : Int} (hn : -9223372036854775808 ≤ n ∧ n ≤ 9223372036854775807) (h : TapeAt B w tp l sy r) :
    Calls Try.prog 24 #[.pointer (some ⟨tp, 0, none⟩), .int .i64 n] w fun e w' => e = .returned (.tuple #[]) ∧ TapeAt B w' tp (l.take (stay l sy n)) (stay l sy n) r ∧ Turns tp r r w w' := by
  obtain ⟨hn1, hn2⟩ := hn
  obtain ⟨a, k, cap, c0, c1, f0, f1, hk, hkc, hcm, hl, hnil, hrow, hv, hh, htp, hsy, hmx⟩ := h.open
  obtain ⟨m, hm⟩ : ∃ m, m = stay l sy n := ⟨_, rfl⟩
  have HM : Hid (m = sy + min n.toNat (k - sy)) := by show _ = _; rw [hm, hk.out]; rfl
  have HC : Hid (∀ nq (q : Int), q = (m : Int) → Calls Try.prog 29 #[.pointer (some ⟨tp, 0, none⟩), .int .i64 q] (w.drewN nq) fun e w' => e = .returned (.tuple #[]) ∧ TapeAt B w' tp (l.take m) m r ∧ Turns tp r r w w') := by
    rintro nq q rfl
    have h' : TapeAt B (w.drewN nq) tp l sy r := h.far (by simp) fun _ _ => by simp
    refine (keep_any (n := m) h' (by rw [hm]; exact stay_le (by rw [← hk.out]; exact hsy))).mono ?_
    rintro e w' ⟨rfl, ht, hs⟩
    have hd : Below 0 w (w.drewN nq) := below_drewN (Below.refl 0 w) nq
    exact ⟨rfl, ht, ⟨hs.os.trans hd.os, hs.tape.trans hd.tape, hs.output.trans hd.output, by have := hs.size; simpa using this, fun k hk h1 h2 => by rw [hs.block k (by simpa using hk) h1 h2]; simp, .inl rfl⟩⟩
  rw [← hm]
  clear hh hv hrow hl hcm h hnil hm
  rcases Int.lt_or_le n 0 with hneg | hpos
  · go_enter Try.func24, Try.ntmps24
    go_wp2
    go_quiet (fail)
    go_wp2_with fail
    all_goals
      refine (HC.out _ _ (by have := HM.out; omega)).mono ?_
      rintro e w1 ⟨rfl, ht, hs⟩
      go_wp2
      go_end0
      exact ⟨rfl, ht, hs⟩
  · go_enter Try.func24, Try.ntmps24
    go_wp2
    go_quiet (fail)
    go_wp2_with fail
    all_goals
      refine (HC.out _ _ (by have := HM.out; omega)).mono ?_
      rintro e w1 ⟨rfl, ht, hs⟩
      go_wp2
      go_end0
      exact ⟨rfl, ht, hs⟩

set_option maxHeartbeats 400000 in
theorem cut_ok {B tp sy n : Nat} {r : Option Nat} {l : List UInt8} {w : World} (hn : n ≤ l.length) (h : TapeAt B w tp l sy r) :
    Calls Try.prog 22 #[.pointer (some ⟨tp, 0, none⟩), .int .i64 (n : Int)] w fun e w' => e = .returned .nilIface ∧ TapeAt B w' tp (l.take n) n r ∧ Turns tp r r w w' := by
  obtain ⟨a, k, cap, c0, c1, f0, f1, hk, hkc, hcm, hl, hnil, hrow, hv, hh, htp, hsy, hmx⟩ := h.open
  have HC : Hid (Calls _ _ _ _ _) := keep_any h hn
  have hnk : n ≤ k := by rw [hk.out]; exact hn
  clear hh hv hrow hl hcm h hnil hn
  go_enter Try.func22, Try.ntmps22
  go_wp2_with (go_at_call 29; refine HC.out.mono ?_; rintro e w1 ⟨rfl, ht, hs⟩)
  go_ret
  exact ⟨rfl, ht, hs⟩

set_option maxHeartbeats 400000 in
theorem cut_no {B tp sy : Nat} {n : Int} {r : Option Nat} {l : List UInt8} {w : World} (hn : n < 0 ∨ (l.length : Int) < n) (hn1 : -9223372036854775808 ≤ n) (hn2 : n ≤ 9223372036854775807) (h : TapeAt B w tp l sy r) :
    Calls Try.prog 22 #[.pointer (some ⟨tp, 0, none⟩), .int .i64 n] w fun e w' => e = .returned (.iface 50 (.int .i64 1)) ∧ w' = w := by
  obtain ⟨a, k, cap, c0, c1, f0, f1, hk, hkc, hcm, hl, hnil, hrow, hv, hh, htp, hsy, hmx⟩ := h.open
  have hnk : n < 0 ∨ (k : Int) < n := by rw [hk.out]; exact hn
  clear hh hv hrow hl hcm h hnil hn
  rcases hnk with hnk | hnk
  all_goals
    go_enter Try.func22, Try.ntmps22
    go_wp2
    go_ret
    exact ⟨rfl, rfl⟩

set_option maxHeartbeats 400000 in
theorem append_ok {B tp sy k c : Nat} {ad : Option Addr} {r : Option Nat} {l b : List UInt8} {w : World} (h : TapeAt B w tp l sy r) (hB : B ≤ w.heap.size) (hk : Hid (k = b.length)) (hb : Lies w ad b) (hnil : ad = none → k = 0 ∧ c = 0) (hlen : l.length + b.length ≤ 1048576) :
    Calls Try.prog 20 #[.pointer (some ⟨tp, 0, none⟩), .slice ad k c] w fun e w' => e = .returned .nilIface ∧ ∃ r', TapeAt B w' tp (l ++ b) sy r' ∧ Turns tp r r' w w' := by
  obtain ⟨a1, k1, cap1, c0, c1, f0, f1, hk1, hkc1, hcm1, hl1, hnil1, hrow1, hv1, hh1, htp1, hsy1, hmx1⟩ := h.open
  have hl2 : k1 + k ≤ 1048576 := by rw [hk1.out, hk.out]; exact hlen
  have HP : Hid (∀ v' w1, Row B w1 v' (l ++ b) → w.grownBy w1 (Value.slice a1 k1 cap1).ownBlock → (v'.ownBlock = (Value.slice a1 k1 cap1).ownBlock ∨ v'.ownBlock = some w.heap.size) → ∃ a3 k3 cap3, v' = .slice a3 k3 cap3 ∧ (w1.frozen? ⟨tp, 0, none⟩ = false) ∧ (w1.cell? ⟨tp, 0, none⟩ = some (.slice a1 k1 cap1)) ∧
      Hid (∃ r', TapeAt B (w1.setCell ⟨tp, 0, none⟩ (.slice a3 k3 cap3)) tp (l ++ b) sy r' ∧ Turns tp r r' w (w1.setCell ⟨tp, 0, none⟩ (.slice a3 k3 cap3)))) := by
    intro v' w1 hr hg hat
    rw [hv1] at hg hat
    have hne : some tp ≠ r := by obtain ⟨_, _, _, _, _, hne, _⟩ := h; exact fun e => hne e.symm
    obtain ⟨a3, k3, cap3, rfl, _⟩ := hr.form
    refine ⟨a3, k3, cap3, rfl, ?_, ?_, _, h.put hr hg hat (by simp) (by simpa using hlen)⟩
    · rw [World.frozen?_of_block (w := w) (hg.block tp htp1 hne)]
      exact f0
    · rw [World.cell?_of_block (w := w) (hg.block tp htp1 hne)]
      exact c0
  have HL : Hid (l.length + k ≤ 140737488355328) := by show _ ≤ _; rw [hk.out]; omega
  clear hh1 hv1 hcm1 hnil1 hlen hl1 h
  go_enter Try.func20, Try.ntmps20
  go_wp2_with (at_builtin; refine wpList_grow rfl (.tmp 19) (.tmp 20) rfl B (.slice a1 k1 cap1) l rfl hrow1 hB b ad k c rfl hk hb hnil HL.out ?_; intro v2 w2 hr2 hg2 hat2; obtain ⟨a3, k3, cap3, rfl, hf2, hc2, hT2⟩ := HP.out v2 w2 hr2 hg2 hat2; clear hr2 hg2 hat2)
  go_ret
  exact ⟨rfl, hT2.out⟩

set_option maxHeartbeats 400000 in
theorem append_no {B tp sy k c : Nat} {ad : Option Addr} {r : Option Nat} {l b : List UInt8} {w : World} (h : TapeAt B w tp l sy r) (hk : Hid (k = b.length)) (hlen : 1048576 < l.length + b.length) :
    Calls Try.prog 20 #[.pointer (some ⟨tp, 0, none⟩), .slice ad k c] w fun e w' => e = .returned (.iface 50 (.int .i64 5)) ∧ w' = w := by
  obtain ⟨a1, k1, cap1, c0, c1, f0, f1, hk1, hkc1, hcm1, hl1, hnil1, hrow1, hv1, hh1, htp1, hsy1, hmx1⟩ := h.open
  have hl2 : 1048576 < k1 + k := by rw [hk1.out, hk.out]; exact hlen
  clear hh1 hv1 hcm1 hnil1 hlen hl1 h hrow1
  go_enter Try.func20, Try.ntmps20
  go_wp2
  go_ret
  exact ⟨rfl, rfl⟩

set_option maxHeartbeats 400000 in
theorem bytes_any {B tp sy : Nat} {r : Option Nat} {l : List UInt8} {w : World} (h : TapeAt B w tp l sy r) :
    Calls Try.prog 18 #[.pointer (some ⟨tp, 0, none⟩)] w fun e w' => ∃ a k cap, e = .returned (.slice a k cap) ∧ Hid (k = l.length) ∧ Row w.heap.size w' (.slice a k cap) l ∧ Below w.heap.size w w' := by
  obtain ⟨a1, k1, cap1, c0, c1, f0, f1, hk1, hkc1, hcm1, hl1, hnil1, hrow1, hv1, hh1, htp1, hsy1, hmx1⟩ := h.open
  have HP : Hid (∀ v' w1, Row w.heap.size w1 v' ([] ++ l) → w.grownBy w1 (Value.slice none 0 0).ownBlock → (v'.ownBlock = (Value.slice none 0 0).ownBlock ∨ v'.ownBlock = some w.heap.size) →
      ∃ a k cap, v' = .slice a k cap ∧ Hid (k = l.length) ∧ Row w.heap.size w1 (.slice a k cap) l ∧ Below w.heap.size w w1) := by
    intro v' w1 hr hg hat
    obtain ⟨a, k, cap, rfl, hk, _⟩ := hr.form
    exact ⟨a, k, cap, rfl, hk, hr, (Below.refl _ _).grown hg (Nat.le_refl _) (fun k hk => by cases hk)⟩
  have HL : Hid (([] : List UInt8).length + k1 ≤ 140737488355328) := by show _ ≤ _; simp; omega
  clear hh1 hv1 hcm1 h hrow1
  go_enter Try.func18, Try.ntmps18
  go_wp2_with (at_builtin; refine wpList_grow rfl (.const (.slice none 0 0)) (.tmp 6) rfl w.heap.size (.slice none 0 0) [] rfl (Row.nil _ _) (Nat.le_refl _) l a1 k1 cap1 rfl hk1 hl1 hnil1 HL.out ?_; intro v2 w2 hr2 hg2 hat2; obtain ⟨a, k, cap, rfl, hT⟩ := HP.out v2 w2 hr2 hg2 hat2; replace hT : Hid _ := hT)
  go_ret
  exact ⟨_, _, _, rfl, hT.out⟩

/-- pick. -/
theorem pick_neg (c : Int) (n : Nat) (h : c < 0) (hn : 0 < n) : ∃ q : Nat, q < n ∧ -(c + 1).tmod n = (q : Int) := by
  refine ⟨((-(c + 1)) % (n : Int)).toNat, ?_, ?_⟩
  · have := Int.emod_lt_of_pos (-(c + 1)) (show (0 : Int) < n by omega)
    have := Int.emod_nonneg (-(c + 1)) (show (n : Int) ≠ 0 by omega)
    omega
  · have := Int.emod_nonneg (-(c + 1)) (show (n : Int) ≠ 0 by omega)
    rw [← Int.neg_tmod, Int.tmod_eq_emod_of_nonneg (by omega)]
    omega
theorem pick_pos (c : Int) (n : Nat) (hn : 0 < n) : ∃ q : Nat, q < n ∧ c % n = (q : Int) := by
  refine ⟨(c % (n : Int)).toNat, ?_, ?_⟩
  · have := Int.emod_lt_of_pos c (show (0 : Int) < n by omega)
    have := Int.emod_nonneg c (show (n : Int) ≠ 0 by omega)
    omega
  · have := Int.emod_nonneg c (show (n : Int) ≠ 0 by omega)
    omega

theorem pick_any (c : Int) (n : Nat) (w : World) (hc1 : -9223372036854775808 ≤ c) (hc2 : c ≤ 9223372036854775807) (hn : 0 < n) (hn2 : n ≤ 1000) :
    Calls Try.prog 10 #[.int .i64 c, .int .i64 (n : Int)] w fun e w' => (∃ q : Nat, q < n ∧ e = .returned (.int .i64 (q : Int))) ∧ w' = w := by
  rcases Int.lt_or_le c 0 with hneg | hpos
  · go_enter Try.func10, Try.ntmps10
    go_wp2
    go_ret
    obtain ⟨q, hq, he⟩ := pick_neg c n hneg hn
    exact ⟨⟨q, hq, congrArg (fun x => Ending.returned (.int .i64 x)) he⟩, rfl⟩
  · go_enter Try.func10, Try.ntmps10
    go_wp2
    go_ret
    obtain ⟨q, hq, he⟩ := pick_pos c n hn
    exact ⟨⟨q, hq, congrArg (fun x => Ending.returned (.int .i64 x)) he⟩, rfl⟩
end Go.Proofs.Ytfcnbdnmnmihjaa
