/-
  The contracts of the log's write and Torn.
-/
import Derived.Test.YtfcnbdnmnmihjaaLgOpen
import Derived.Test.YtfcnbdnmnmihjaaPut
namespace Go.Proofs.Ytfcnbdnmnmihjaa
open Go.RowKit

set_option maxHeartbeats 400000 in
theorem write_state {L : Nat → Prop} {w : World} {tp lg k cap : Nat} {a : Option Addr} {rv : Option Nat} {rs : List (List UInt8)} (h : LogAt L w lg tp rs true rv) :
    Calls Try.prog 23 #[.pointer (some ⟨lg, 0, none⟩), .slice a k cap] w fun e w' => e = .returned (.iface 50 (.int .i64 6)) ∧ w' = w := by
  obtain ⟨a1, k1, cap1, c0, c1, c2, _⟩ := h.open
  clear h
  go_enter Try.func23, Try.ntmps23
  go_wp2
  go_ret
  exact ⟨rfl, rfl⟩

set_option maxHeartbeats 400000 in
theorem write_arg {L : Nat → Prop} {w : World} {tp lg k cap : Nat} {a : Option Addr} {rv : Option Nat} {rs : List (List UInt8)} (h : LogAt L w lg tp rs false rv) (hk : k < 1 ∨ 65536 < k) :
    Calls Try.prog 23 #[.pointer (some ⟨lg, 0, none⟩), .slice a k cap] w fun e w' => e = .returned (.iface 50 (.int .i64 1)) ∧ w' = w := by
  obtain ⟨a1, k1, cap1, c0, c1, c2, _⟩ := h.open
  clear h
  rcases hk with hk | hk
  all_goals
    go_enter Try.func23, Try.ntmps23
    go_wp2
    go_ret
    exact ⟨rfl, rfl⟩

set_option maxHeartbeats 1000000 in
theorem write_ok {W0 w : World} {tp sy lg k cap : Nat} {a : Option Addr} {l b : List UInt8} {r rv : Option Nat} {rs : List (List UInt8)} {X : Nat → Prop} (h : LogSt W0 w tp l sy r lg rs false rv X) (hk : Hid (k = b.length)) (hb : Lies w a b) (hnil : a = none → k = 0 ∧ cap = 0) (h1 : 1 ≤ k) (h2 : k ≤ 65536) (hfit : l.length + (rec1 b).length ≤ 1048576) :
    Calls Try.prog 23 #[.pointer (some ⟨lg, 0, none⟩), .slice a k cap] w fun e w' => e = .returned .nilIface ∧ ∃ r', LogSt W0 w' tp (l ++ rec1 b) sy r' lg rs false rv X ∧ Turn (MT tp r) (MT tp r') w w' := by
  have HH : Hid (LogSt W0 w tp l sy r lg rs false rv X) := h
  obtain ⟨hs, L, hl, hk1, hx1⟩ := h
  obtain ⟨a1, k1, cap1, c0, c1, c2, _, _, _, _, _, _, _, _, _, _, hlt, _⟩ := hl.open
  have HN : Hid (Calls _ _ _ _ _) := num_any none [] 0 k w (.inl rfl) (by simp) (by omega)
  have HLB : Hid (Lies w a b) := hb
  have HNL : Hid (a = none → k = 0 ∧ cap = 0) := hnil
  have HF : Hid (l.length + (rec1 b).length ≤ 1048576) := hfit
  clear hl hk1 hx1 hb hnil hs hfit c1
  go_enter Try.func23, Try.ntmps23
  go_wp2_with fail
  refine HN.out.mono ?_
  rintro e w1 ⟨v1, rfl, hbuf, hbel, _⟩
  obtain ⟨a3, k3, cap3, hv, hk3, _⟩ := Row.form (B := w.heap.size) hbuf
  subst hv
  have hsz := hbel.size
  have c0' : w1.cell? ⟨lg, 0, none⟩ = some (.pointer (some ⟨tp, 0, none⟩)) := by rw [hbel.cell (p := ⟨lg, 0, none⟩) hlt]; exact c0
  have HR : Hid (Row w.heap.size w1 (.slice a3 k3 cap3) (digs k)) := hbuf
  have hlies : Lies w1 a b := HLB.out.below hbel (Nat.le_refl _)
  have HD : Hid ((digs k).length + k ≤ 140737488355328) := by
    have := digs_len10 (n := k) (by omega)
    show _ ≤ _
    omega
  have HP : Hid (∀ v' w2, Row w.heap.size w2 v' (digs k ++ b) → w1.grownBy w2 (Value.slice a3 k3 cap3).ownBlock → ∃ a4 k4 cap4, v' = .slice a4 k4 cap4 ∧ w2.cell? ⟨lg, 0, none⟩ = some (.pointer (some ⟨tp, 0, none⟩)) ∧
      Hid (Calls Try.prog 20 #[.pointer (some ⟨tp, 0, none⟩), .slice a4 k4 cap4] w2 fun e w' => e = .returned .nilIface ∧ ∃ r', LogSt W0 w' tp (l ++ rec1 b) sy r' lg rs false rv X ∧ Turn (MT tp r) (MT tp r') w w')) := by
    intro v' w2 hr hg
    obtain ⟨a4, k4, cap4, rfl, hk4, _, _, hl4, hn4, _⟩ := hr.form
    have hb2 : Below w.heap.size w w2 := hbel.grown hg hsz (fun g hg' => (HR.out.lt g hg').1)
    refine ⟨a4, k4, cap4, rfl, by rw [hb2.cell (p := ⟨lg, 0, none⟩) hlt]; exact c0, ?_⟩
    have hst := HH.out.later hb2
    have e : digs k ++ b = rec1 b := by rw [rec1, ← hk.out]
    rw [e] at hk4 hl4
    refine (append_st hst.1 hk4 hl4 hn4 HF.out).mono ?_
    rintro e w3 ⟨rfl, r3, h3, ht3⟩
    exact ⟨rfl, r3, hst.tape h3 ht3.turn, (Turn.of_below hb2).trans ht3.turn⟩
  clear hbuf hbel hk3 HN HH HF
  go_wp2_with (at_builtin; refine wpList_grow rfl (.tmp 23) (.tmp 24) rfl w.heap.size (.slice a3 k3 cap3) (digs k) rfl HR.out hsz b a k cap rfl hk hlies HNL.out HD.out ?_; intro v2 w2 hr2 hg2 _; obtain ⟨a4, k4, cap4, rfl, hc4, hT4⟩ := HP.out v2 w2 hr2 hg2; clear hr2 hg2)
  clear HP HR
  go_wp2_with fail
  refine hT4.out.mono ?_
  rintro e w3 ⟨rfl, h3⟩
  have H3 : Hid (∃ _, _) := h3
  clear h3 hT4
  go_wp2
  go_ret
  exact ⟨rfl, H3.out⟩
end Go.Proofs.Ytfcnbdnmnmihjaa
