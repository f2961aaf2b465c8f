/-
  The tape's calls over a world of the law's own, and the example at the head of all laws.
-/
import Derived.Test.YtjoidfigdgpedaaTpCalls
namespace Go.Proofs.Ytjoidfigdgpedaa
open Go.RowKit

/-- A tape of the law's own: made since W0, of which nothing has turned. -/
def St (W0 w : World) (tp : Nat) (l : List UInt8) (sy : Nat) (r : Option Nat) : Prop := TapeAt W0.heap.size w tp l sy r ∧ Below W0.heap.size W0 w

theorem St.turns {W0 w w' : World} {tp sy sy' : Nat} {l l' : List UInt8} {r r' : Option Nat} (h : St W0 w tp l sy r) (ht : TapeAt W0.heap.size w' tp l' sy' r') (hs : Turns tp r r' w w') : St W0 w' tp l' sy' r' :=
  ⟨ht, h.2.trans (hs.below h.1 (Nat.le_refl _) h.2.size)⟩

theorem St.later {W0 w w' : World} {tp sy : Nat} {l : List UInt8} {r : Option Nat} (h : St W0 w tp l sy r) (hb : Below w.heap.size w w') : St W0 w' tp l sy r :=
  ⟨h.1.below hb (Nat.le_refl _), h.2.trans (hb.mono h.2.size)⟩

theorem St.alloc {W0 w : World} {tp sy : Nat} {l : List UInt8} {r : Option Nat} (h : St W0 w tp l sy r) (o : Obj) : St W0 (w.alloc o) tp l sy r :=
  h.later ((Below.refl _ _).alloc (Nat.le_refl _) o)

theorem new_st (W0 w : World) (h : Below W0.heap.size W0 w) : Calls Try.prog 8 #[] w fun e w' => ∃ tp, e = .returned (.pointer (some ⟨tp, 0, none⟩)) ∧ St W0 w' tp [] 0 none ∧ Below w.heap.size w w' ∧ w.heap.size ≤ tp := by
  refine (new_any w).mono ?_
  rintro e w' ⟨rfl, rfl⟩
  refine ⟨_, rfl, ⟨⟨.slice none 0 0, heap_alloc_new w _, h.size, Row.nil _ _, rfl, by simp, Nat.le_refl _, by simp⟩, h.alloc h.size _⟩, (Below.refl _ _).alloc (Nat.le_refl _) _, Nat.le_refl _⟩

theorem append_st {W0 w : World} {tp sy k c : Nat} {ad : Option Addr} {r : Option Nat} {l b : List UInt8} (h : St W0 w tp l sy r) (hk : Hid (k = b.length)) (hb : Lies w ad b) (hnil : ad = none → k = 0 ∧ c = 0) (hlen : l.length + b.length ≤ 1048576) :
    Calls Try.prog 13 #[.pointer (some ⟨tp, 0, none⟩), .slice ad k c] w fun e w' => e = .returned .nilIface ∧ ∃ r', St W0 w' tp (l ++ b) sy r' ∧ Turns tp r r' w w' := by
  refine (append_ok h.1 h.2.size hk hb hnil hlen).mono ?_
  rintro e w' ⟨rfl, r', ht, hs⟩
  exact ⟨rfl, r', h.turns ht hs, hs⟩

theorem sync_st {W0 w : World} {tp sy : Nat} {r : Option Nat} {l : List UInt8} (h : St W0 w tp l sy r) :
    Calls Try.prog 10 #[.pointer (some ⟨tp, 0, none⟩)] w fun e w' => e = .returned (.tuple #[]) ∧ St W0 w' tp l l.length r ∧ Turns tp r r w w' := by
  refine (sync_any h.1).mono ?_
  rintro e w' ⟨rfl, ht, hs⟩
  exact ⟨rfl, h.turns ht hs, hs⟩

theorem crash_st {W0 w : World} {tp sy : Nat} {r : Option Nat} {l : List UInt8} {n : Int} (hn : -9223372036854775808 ≤ n ∧ n ≤ 9223372036854775807) (h : St W0 w tp l sy r) :
    Calls Try.prog 11 #[.pointer (some ⟨tp, 0, none⟩), .int .i64 n] w fun e w' => e = .returned (.tuple #[]) ∧ St W0 w' tp (l.take (stay l sy n)) (stay l sy n) r ∧ Turns tp r r w w' := by
  refine (crash_any hn h.1).mono ?_
  rintro e w' ⟨rfl, ht, hs⟩
  exact ⟨rfl, h.turns ht hs, hs⟩

theorem cut_st {W0 w : World} {tp sy n : Nat} {r : Option Nat} {l : List UInt8} (hn : n ≤ l.length) (h : St W0 w tp l sy r) :
    Calls Try.prog 12 #[.pointer (some ⟨tp, 0, none⟩), .int .i64 (n : Int)] w fun e w' => e = .returned .nilIface ∧ St W0 w' tp (l.take n) n r ∧ Turns tp r r w w' := by
  refine (cut_ok hn h.1).mono ?_
  rintro e w' ⟨rfl, ht, hs⟩
  exact ⟨rfl, h.turns ht hs, hs⟩

/-- Bytes, and what they are as a text. -/
theorem bytes_st {W0 w : World} {tp sy : Nat} {r : Option Nat} {l : List UInt8} (h : St W0 w tp l sy r) :
    Calls Try.prog 14 #[.pointer (some ⟨tp, 0, none⟩)] w fun e w' => ∃ a k cap, e = .returned (.slice a k cap) ∧ Hid (k = l.length) ∧ Row w.heap.size w' (.slice a k cap) l ∧ Below w.heap.size w w' ∧ St W0 w' tp l sy r ∧ (convert 26 9 (.slice a k cap)).run Try.prog w' = .ok (.string ⟨l.toArray⟩) w' := by
  refine (bytes_any h.1).mono ?_
  rintro e w' ⟨a, k, cap, rfl, hk, hr, hb⟩
  obtain ⟨a', k', cap', hv, hk', _, _, hl, _⟩ := hr.form
  simp only [Value.slice.injEq] at hv
  obtain ⟨rfl, rfl, rfl⟩ := hv
  exact ⟨a, k, cap, rfl, hk, hr, hb, h.later hb, conv_named hl hk.out rfl⟩

theorem pair_lies (W : World) (x y : UInt8) : Lies (W.alloc (.cells #[.int .u8 (x.toNat : Int), .int .u8 (y.toNat : Int)] 5)) (some ⟨W.heap.size, 0, none⟩) [x, y] := by
  refine Or.inr ⟨_, rfl, fun j u hj => ?_⟩
  rw [Go.WideShapes.add_plain, Nat.zero_add]
  have hh := heap_alloc_new W (.cells #[.int .u8 (x.toNat : Int), .int .u8 (y.toNat : Int)] 5)
  rw [cell_of_row _ W.heap.size j _ 5 (0, 0) hh, ← hj]
  have hbv : bv [x, y] = [.int .u8 (x.toNat : Int), .int .u8 (y.toNat : Int)] := rfl
  rw [hbv]
  exact List.getElem?_toArray

set_option maxHeartbeats 1000000 in
theorem up_any (w : World) : Calls Try.prog 7 #[] w fun e w' => e = .returned (.bool true) ∧ Below w.heap.size w w' := by
  have HN : Hid (Calls _ _ _ _ _) := new_st w w (Below.refl _ _)
  go_enter Try.func7, Try.ntmps7
  go_wp2_with fail
  refine HN.out.mono ?_
  rintro e w1 ⟨tp, rfl, h1, _, _⟩
  have H1 : Hid (Calls Try.prog 13 #[.pointer (some ⟨tp, 0, none⟩), .slice (some ⟨w1.heap.size, 0, none⟩) 2 2] (w1.alloc (.cells #[.int .u8 1, .int .u8 2] 5)) fun e w' => e = .returned .nilIface ∧ ∃ r', St w w' tp ([] ++ [1, 2]) 0 r' ∧ Turns tp none r' (w1.alloc (.cells #[.int .u8 1, .int .u8 2] 5)) w') :=
    append_st (h1.alloc _) rfl (pair_lies w1 1 2) (by simp) (by simp)
  clear h1
  go_wp2_with fail
  refine H1.out.mono ?_
  rintro e w2 ⟨rfl, r2, h2, _⟩
  have H2 : Hid (Calls _ _ _ _ _) := sync_st h2
  clear h2 H1 HN
  go_wp2_with fail
  refine H2.out.mono ?_
  rintro e w3 ⟨rfl, h3, _⟩
  have H3 : Hid (Calls Try.prog 13 #[.pointer (some ⟨tp, 0, none⟩), .slice (some ⟨w3.heap.size, 0, none⟩) 2 2] (w3.alloc (.cells #[.int .u8 3, .int .u8 4] 5)) fun e w' => e = .returned .nilIface ∧ ∃ r', St w w' tp (([] ++ [1, 2]) ++ [3, 4]) 2 r' ∧ Turns tp r2 r' (w3.alloc (.cells #[.int .u8 3, .int .u8 4] 5)) w') :=
    append_st (h3.alloc _) rfl (pair_lies w3 3 4) (by simp) (by simp)
  clear h3 H2
  go_wp2_with fail
  refine H3.out.mono ?_
  rintro e w4 ⟨rfl, r4, h4, _⟩
  have H4 : Hid (Calls _ _ _ _ _) := crash_st (n := 1) (by omega) h4
  clear h4 H3
  go_wp2_with fail
  refine H4.out.mono ?_
  rintro e w5 ⟨rfl, h5, _⟩
  have h5' : St w w5 tp [1, 2, 3] 3 r4 := h5
  have H5 : Hid (Calls _ _ _ _ _) := bytes_st h5'
  clear h5 h5' H4
  go_wp2_with fail
  refine H5.out.mono ?_
  rintro e w6 ⟨a6, k6, cap6, rfl, hk6, _, _, h6, hc6⟩
  have H6 : Hid (Calls Try.prog 15 #[.pointer (some ⟨tp, 0, none⟩)] w6 fun e w' => e = .returned (.int .i64 3) ∧ w' = w6) := synced_any h6.1
  have hE : Hid (Below w.heap.size w w6) := h6.2
  clear h6 H5
  go_wp2_with fail
  refine H6.out.mono ?_
  rintro e w7 ⟨rfl, rfl⟩
  go_wp2
  go_ret
  exact ⟨rfl, hE.out⟩
end Go.Proofs.Ytjoidfigdgpedaa
