/-
  The contracts of the log's Append and Torn.
-/
import Derived.Test.YtfcnbdnmnmihjaaLgWrite
import Derived.Deep.RegionHeld3
namespace Go.Proofs.Ytfcnbdnmnmihjaa
open Go.RowKit

theorem take_stay (la lb : List UInt8) (n : Int) : (la ++ lb).take (stay (la ++ lb) la.length n) = la ++ lb.take (min n.toNat lb.length) := by
  rw [List.take_append]
  have e1 : stay (la ++ lb) la.length n - la.length = min n.toNat lb.length := by unfold stay; simp
  have e2 : la.take (stay (la ++ lb) la.length n) = la := List.take_of_length_le (by unfold stay; omega)
  rw [e1, e2]

/-- The log's mark is set. -/
theorem LogSt.mark {W0 w : World} {tp sy lg : Nat} {l : List UInt8} {r rv : Option Nat} {rs : List (List UInt8)} {t : Bool} {X : Nat → Prop} (h : LogSt W0 w tp l sy r lg rs t rv X) (t' : Bool) :
    LogSt W0 (w.setCell ⟨lg, 2, none⟩ (.bool t')) tp l sy r lg rs t' rv X ∧ Turn (ML tp r lg rv) (ML tp r lg rv) w (w.setCell ⟨lg, 2, none⟩ (.bool t')) := by
  obtain ⟨hs, L, ⟨v, hh, hL, hr, hv⟩, hk, hx⟩ := h
  have hoth : ∀ k, k ≠ lg → (w.setCell ⟨lg, 2, none⟩ (.bool t')).heap[k]? = w.heap[k]? := fun k hk => heap_setCell_other w ⟨lg, 2, none⟩ k _ hk
  have hsz : (w.setCell ⟨lg, 2, none⟩ (.bool t')).heap.size = w.heap.size := by simp
  have hm := (hk lg hL)
  have htp : tp ≠ lg := fun e => hm.2.2 (.inl e.symm)
  refine ⟨⟨⟨hs.1.far (hoth tp htp) (fun g hg => hoth g fun e => hm.2.2 (.inr (by rw [hg, e]))), hs.2.setCell (p := ⟨lg, 2, none⟩) hm.1 _⟩, L, ⟨v, ?_, hL, hr.keep fun k hk => hoth k hk.2, hv⟩, fun k hk' => ⟨(hk k hk').1, by rw [hsz]; exact (hk k hk').2.1, (hk k hk').2.2⟩, hx⟩, ⟨rfl, rfl, rfl, by rw [hsz]; exact Nat.le_refl _, fun k _ hm => hoth k fun e => hm (.inr (.inl e)), fun k hk => .inl hk⟩⟩
  have := heap_setCell_same w lg 2 _ 55 (.bool t') hh
  exact this

theorem crash_log {W0 w : World} {tp sy lg : Nat} {la lb : List UInt8} {r rv : Option Nat} {rs : List (List UInt8)} {n : Int} {X : Nat → Prop} (hn : -9223372036854775808 ≤ n ∧ n ≤ 9223372036854775807) (h : LogSt W0 w tp (la ++ lb) sy r lg rs false rv X) (hsy : sy = la.length) :
    Calls Try.prog 24 #[.pointer (some ⟨tp, 0, none⟩), .int .i64 n] w fun e w' => e = .returned (.tuple #[]) ∧ LogSt W0 w' tp (la ++ lb.take (min n.toNat lb.length)) (la ++ lb.take (min n.toNat lb.length)).length r lg rs false rv X ∧ Turn (MT tp r) (MT tp r) w w' := by
  subst hsy
  refine (crash_st hn h.1).mono ?_
  rintro e w' ⟨rfl, h1, ht⟩
  rw [take_stay] at h1
  have e : stay (la ++ lb) la.length n = (la ++ lb.take (min n.toNat lb.length)).length := by unfold stay; simp
  rw [e] at h1
  exact ⟨rfl, h.tape h1 ht.turn, ht.turn⟩

theorem LogSt.box {W0 w : World} {tp sy lg : Nat} {l : List UInt8} {r rv : Option Nat} {rs : List (List UInt8)} {t : Bool} {X : Nat → Prop} (h : LogSt W0 w tp l sy r lg rs t rv X) :
    w.cell? ⟨lg, 0, none⟩ = some (.pointer (some ⟨tp, 0, none⟩)) ∧ w.cell? ⟨lg, 2, none⟩ = some (.bool t) ∧ w.frozen? ⟨lg, 2, none⟩ = false := by
  obtain ⟨_, L, hl, _⟩ := h
  obtain ⟨a1, k1, cap1, c0, c1, c2, f1, f2, _⟩ := hl.open
  exact ⟨c0, c2, f2⟩

set_option maxHeartbeats 1000000 in
theorem torn_ok {W0 w : World} {tp sy lg k cap : Nat} {a : Option Addr} {l b : List UInt8} {r rv : Option Nat} {rs : List (List UInt8)} {n : Int} {X : Nat → Prop} (hn : -9223372036854775808 ≤ n ∧ n ≤ 9223372036854775807) (h : LogSt W0 w tp l sy r lg rs false rv X) (hsy : sy = l.length) (hk : Hid (k = b.length)) (hb : Lies w a b) (hnil : a = none → k = 0 ∧ cap = 0) (h1 : 1 ≤ k) (h2 : k ≤ 65536) (hfit : l.length + (rec1 b).length ≤ 1048576) :
    Calls Try.prog 12 #[.pointer (some ⟨lg, 0, none⟩), .slice a k cap, .int .i64 n] w fun e w' => e = .returned .nilIface ∧ ∃ r', LogSt W0 w' tp (l ++ (rec1 b).take (min n.toNat (rec1 b).length)) (l ++ (rec1 b).take (min n.toNat (rec1 b).length)).length r' lg rs true rv X ∧ Turn (ML tp r lg rv) (ML tp r' lg rv) w w' := by
  have HW : Hid (Calls _ _ _ _ _) := write_ok h hk hb hnil h1 h2 hfit
  have HS : Hid (sy = l.length) := hsy
  have HN : Hid (_ ∧ _) := hn
  clear h hb hnil hfit hsy hn
  go_enter Try.func12, Try.ntmps12
  go_wp2_with fail
  refine HW.out.mono ?_
  rintro e w1 ⟨rfl, r1, h1', ht1⟩
  obtain ⟨c0, _, _⟩ := h1'.box
  have HC : Hid (Calls _ _ _ _ _) := crash_log HN.out h1' HS.out
  have HT1 : Hid (Turn _ _ _ _) := ht1
  clear h1' ht1 HW
  go_wp2_with fail
  refine HC.out.mono ?_
  rintro e w2 ⟨rfl, h2', ht2⟩
  obtain ⟨_, c2, f2⟩ := h2'.box
  have HF : Hid (∃ r', LogSt W0 (w2.setCell ⟨lg, 2, none⟩ (.bool true)) tp (l ++ (rec1 b).take (min n.toNat (rec1 b).length)) (l ++ (rec1 b).take (min n.toNat (rec1 b).length)).length r' lg rs true rv X ∧ Turn (ML tp r lg rv) (ML tp r' lg rv) w (w2.setCell ⟨lg, 2, none⟩ (.bool true))) :=
    ⟨r1, (h2'.mark true).1, (HT1.out.trans ht2).withLog.trans (h2'.mark true).2⟩
  clear h2' ht2 HC HT1 c0
  go_wp2
  go_ret
  exact ⟨rfl, HF.out⟩

set_option maxHeartbeats 400000 in
theorem torn_bad {w : World} {lg k cap : Nat} {a : Option Addr} {n c : Int} (h : Calls Try.prog 23 #[.pointer (some ⟨lg, 0, none⟩), .slice a k cap] w fun e w' => e = .returned (.iface 50 (.int .i64 c)) ∧ w' = w) :
    Calls Try.prog 12 #[.pointer (some ⟨lg, 0, none⟩), .slice a k cap, .int .i64 n] w fun e w' => e = .returned (.iface 50 (.int .i64 c)) ∧ w' = w := by
  have HW : Hid (Calls _ _ _ _ _) := h
  clear h
  go_enter Try.func12, Try.ntmps12
  go_wp2_with fail
  refine HW.out.mono ?_
  rintro e w1 ⟨rfl, rfl⟩
  clear HW
  go_wp2
  go_ret
  exact ⟨rfl, rfl⟩

set_option maxHeartbeats 400000 in
theorem append_bad {w : World} {lg k cap : Nat} {a : Option Addr} {c : Int} (h : Calls Try.prog 23 #[.pointer (some ⟨lg, 0, none⟩), .slice a k cap] w fun e w' => e = .returned (.iface 50 (.int .i64 c)) ∧ w' = w) :
    Calls Try.prog 15 #[.pointer (some ⟨lg, 0, none⟩), .slice a k cap] w fun e w' => e = .returned (.iface 50 (.int .i64 c)) ∧ w' = w := by
  have HW : Hid (Calls _ _ _ _ _) := h
  clear h
  go_enter Try.func15, Try.ntmps15
  go_wp2_with fail
  refine HW.out.mono ?_
  rintro e w1 ⟨rfl, rfl⟩
  clear HW
  go_wp2
  go_ret
  exact ⟨rfl, rfl⟩
end Go.Proofs.Ytfcnbdnmnmihjaa
