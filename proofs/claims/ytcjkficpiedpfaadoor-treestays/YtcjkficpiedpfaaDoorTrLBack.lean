/-
  TreeBack, walked: whatever files, cut and number, the call returns true, and makes memory of its own alone.
-/
import Derived.Test.YtcjkficpiedpfaaDoorTrBackOk
namespace Go.Proofs.YtcjkficpiedpfaaDoor.Tree
open Go.RowKit Route Chunk

set_option maxHeartbeats 4000000 in
set_option maxRecDepth 100000 in
theorem back_none (a : Option Addr) (cap : Nat) (mn mx mk t : Int) (w : World) (hg : Known w) :
    Calls Tryd.prog 6 #[.slice a 0 cap, cutV mn mx mk, .int .i64 t] w fun e w' => e = .returned (.bool true) ∧ Below w.heap.size w w' := by
  have HUP : Hid (Calls Tryd.prog 9 #[] (w.alloc (.cells #[.int .i64 mn, .int .i64 mx, .int .i64 mk] 43)) fun e w' => e = .returned (.bool true) ∧ Below (w.alloc (.cells #[.int .i64 mn, .int .i64 mx, .int .i64 mk] 43)).heap.size (w.alloc (.cells #[.int .i64 mn, .int .i64 mx, .int .i64 mk] 43)) w') := up_any _ (hg.below ((Below.refl _ _).alloc (Nat.le_refl _) _) (Nat.le_refl _))
  have HFW : Hid (∀ W, Calls Tryd.prog 18 #[.slice a 0 cap] W fun e w' => Fews e 0 [] ∧ w' = W) := fun W => few_any a 0 cap [] W rfl (.inl rfl)
  unfold cutV
  clear hg
  go_enter Tryd.func6, Tryd.ntmps6
  go_wp2_with fail
  refine HUP.out.mono ?_
  rintro e w1 ⟨rfl, hb1⟩
  obtain ⟨_, _, _, hbw, _⟩ := cut_box hb1
  go_wp2_with fail
  refine (HFW.out _).mono ?_
  rintro e w2 ⟨⟨b, rfl, hb⟩, rfl⟩
  clear hb1 hb
  cases b with
  | false =>
    go_wp2
    go_ret
    exact ⟨rfl, hbw⟩
  | true =>
    go_wp2
    go_ret
    exact ⟨rfl, hbw⟩

theorem bad1 : Bad (.iface 39 (.int .i64 1)) := ⟨fun W => by kernel_rfl, fun t W => by kernel_rfl⟩
theorem bad7 : Bad (.iface 39 (.int .i64 7)) := ⟨fun W => by kernel_rfl, fun t W => by kernel_rfl⟩

theorem treeBack_walk (a : Option Addr) (l : List (ByteArray × ByteArray)) (n cap : Nat) (mn mx mk t : Int) (w : World) (hg : Known w) (hl : n = l.length ∧ LiesF w a l ∧ n ≤ cap ∧ (a = none → cap = 0)) (ht : (Lit.int .i64 t).wf = true) :
    Calls Tryd.prog 6 #[.slice a n cap, cutV mn mx mk, .int .i64 t] w fun e w' => e = .returned (.bool true) ∧ Below w.heap.size w w' := by
  obtain ⟨hn, hlf, hc, _⟩ := hl
  have ht' : -9223372036854775808 ≤ t ∧ t ≤ 9223372036854775807 := by
    simp only [Lit.wf, Bool.and_eq_true, decide_eq_true_eq] at ht
    exact ht
  rcases Nat.eq_zero_or_pos n with rfl | h0
  · exact back_none a cap mn mx mk t w hg
  cases hm : mayB mn mx mk with
  | false =>
    refine back_err a n cap l mn mx mk t w hg hn hlf hc h0 ht'.1 ht'.2 (fun W _ _ => ?_) (fun a' cap' k W _ _ _ _ => ?_)
    · refine (build_may a n cap mn mx mk W hm).mono ?_
      rintro e w' ⟨rfl, hb⟩
      exact ⟨⟨_, rfl, bad1⟩, hb⟩
    · refine (build_may a' n cap' mn mx mk W hm).mono ?_
      rintro e w' ⟨rfl, hb⟩
      exact ⟨⟨_, rfl, bad1⟩, hb⟩
  | true =>
    by_cases hn32 : 32 < n
    · refine back_err a n cap l mn mx mk t w hg hn hlf hc h0 ht'.1 ht'.2 (fun W _ _ => ?_) (fun a' cap' k W _ _ _ _ => ?_)
      · refine (build_large a n cap mn mx mk W hm hn32).mono ?_
        rintro e w' ⟨rfl, hb⟩
        exact ⟨⟨_, rfl, bad7⟩, hb⟩
      · refine (build_large a' n cap' mn mx mk W hm hn32).mono ?_
        rintro e w' ⟨rfl, hb⟩
        exact ⟨⟨_, rfl, bad7⟩, hb⟩
    · obtain ⟨m, M, K, rfl, rfl, rfl, h1, h2, h3, h4⟩ := mayB_nat hm
      by_cases hgood : Good l
      · exact back_ok a n cap l m M K t w hg hn hlf hc h0 ht'.1 ht'.2 h1 h2 h3 (by omega) (by omega) hgood
      · refine back_err a n cap l m M K t w hg hn hlf hc h0 ht'.1 ht'.2 (fun W hb hok => ?_) (fun a' cap' k W _ hl' hc' hok => ?_)
        · refine (build_any a n cap l m M K W h1 h2 h3 (by omega) (by omega) hok (hlf.below hb (Nat.le_refl _)) hc).mono ?_
          rintro e w' (⟨h, _⟩ | ⟨_, h, hb⟩)
          · exact absurd h hgood
          · exact ⟨h, hb⟩
        · have hp : (l.drop k ++ l.take k).Perm l := List.perm_append_comm.trans (by rw [List.take_append_drop])
          refine (build_any a' n cap' _ m M K W h1 h2 h3 (by omega) (by omega) (filesOk_perm hok hp) hl' hc').mono ?_
          rintro e w' (⟨h, _⟩ | ⟨_, h, hb⟩)
          · exact absurd (h.perm hp.symm) hgood
          · exact ⟨h, hb⟩
end Go.Proofs.YtcjkficpiedpfaaDoor.Tree
