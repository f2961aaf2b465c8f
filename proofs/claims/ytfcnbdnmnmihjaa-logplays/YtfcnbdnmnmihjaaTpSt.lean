/-
  The tape's calls over a world of the law's own.
-/
import Derived.Test.YtfcnbdnmnmihjaaTpCalls
namespace Go.Proofs.Ytfcnbdnmnmihjaa
open Go.RowKit

/-- A tape of the law's own: made since W0, of which nothing has turned. -/
def St (W0 w : World) (tp : Nat) (l : List UInt8) (sy : Nat) (r : Option Nat) : Prop := TapeAt W0.heap.size w tp l sy r ∧ Below W0.heap.size W0 w

theorem St.turns {W0 w w' : World} {tp sy sy' : Nat} {l l' : List UInt8} {r r' : Option Nat} (h : St W0 w tp l sy r) (ht : TapeAt W0.heap.size w' tp l' sy' r') (hs : Turns tp r r' w w') : St W0 w' tp l' sy' r' :=
  ⟨ht, h.2.trans (hs.below h.1 (Nat.le_refl _) h.2.size)⟩

theorem St.later {W0 w w' : World} {tp sy : Nat} {l : List UInt8} {r : Option Nat} (h : St W0 w tp l sy r) (hb : Below w.heap.size w w') : St W0 w' tp l sy r :=
  ⟨h.1.below hb (Nat.le_refl _), h.2.trans (hb.mono h.2.size)⟩

theorem St.alloc {W0 w : World} {tp sy : Nat} {l : List UInt8} {r : Option Nat} (h : St W0 w tp l sy r) (o : Obj) : St W0 (w.alloc o) tp l sy r :=
  h.later ((Below.refl _ _).alloc (Nat.le_refl _) o)

theorem new_st (W0 w : World) (h : Below W0.heap.size W0 w) : Calls Try.prog 8 #[] w fun e w' => ∃ tp, e = .returned (.pointer (some ⟨tp, 0, none⟩)) ∧ St W0 w' tp [] 0 none ∧ Below w.heap.size w w' ∧ w.heap.size ≤ tp := by
  refine (new_any w).mono ?_
  rintro e w' ⟨rfl, rfl⟩
  refine ⟨_, rfl, ⟨⟨.slice none 0 0, heap_alloc_new w _, h.size, Row.nil _ _, rfl, by simp, Nat.le_refl _, by simp⟩, h.alloc h.size _⟩, (Below.refl _ _).alloc (Nat.le_refl _) _, Nat.le_refl _⟩

theorem append_st {W0 w : World} {tp sy k c : Nat} {ad : Option Addr} {r : Option Nat} {l b : List UInt8} (h : St W0 w tp l sy r) (hk : Hid (k = b.length)) (hb : Lies w ad b) (hnil : ad = none → k = 0 ∧ c = 0) (hlen : l.length + b.length ≤ 1048576) :
    Calls Try.prog 20 #[.pointer (some ⟨tp, 0, none⟩), .slice ad k c] w fun e w' => e = .returned .nilIface ∧ ∃ r', St W0 w' tp (l ++ b) sy r' ∧ Turns tp r r' w w' := by
  refine (append_ok h.1 h.2.size hk hb hnil hlen).mono ?_
  rintro e w' ⟨rfl, r', ht, hs⟩
  exact ⟨rfl, r', h.turns ht hs, hs⟩

theorem sync_st {W0 w : World} {tp sy : Nat} {r : Option Nat} {l : List UInt8} (h : St W0 w tp l sy r) :
    Calls Try.prog 26 #[.pointer (some ⟨tp, 0, none⟩)] w fun e w' => e = .returned (.tuple #[]) ∧ St W0 w' tp l l.length r ∧ Turns tp r r w w' := by
  refine (sync_any h.1).mono ?_
  rintro e w' ⟨rfl, ht, hs⟩
  exact ⟨rfl, h.turns ht hs, hs⟩

theorem crash_st {W0 w : World} {tp sy : Nat} {r : Option Nat} {l : List UInt8} {n : Int} (hn : -9223372036854775808 ≤ n ∧ n ≤ 9223372036854775807) (h : St W0 w tp l sy r) :
    Calls Try.prog 24 #[.pointer (some ⟨tp, 0, none⟩), .int .i64 n] w fun e w' => e = .returned (.tuple #[]) ∧ St W0 w' tp (l.take (stay l sy n)) (stay l sy n) r ∧ Turns tp r r w w' := by
  refine (crash_any hn h.1).mono ?_
  rintro e w' ⟨rfl, ht, hs⟩
  exact ⟨rfl, h.turns ht hs, hs⟩

theorem cut_st {W0 w : World} {tp sy n : Nat} {r : Option Nat} {l : List UInt8} (hn : n ≤ l.length) (h : St W0 w tp l sy r) :
    Calls Try.prog 22 #[.pointer (some ⟨tp, 0, none⟩), .int .i64 (n : Int)] w fun e w' => e = .returned .nilIface ∧ St W0 w' tp (l.take n) n r ∧ Turns tp r r w w' := by
  refine (cut_ok hn h.1).mono ?_
  rintro e w' ⟨rfl, ht, hs⟩
  exact ⟨rfl, h.turns ht hs, hs⟩

/-- Bytes, and what they are as a text. -/
theorem bytes_st {W0 w : World} {tp sy : Nat} {r : Option Nat} {l : List UInt8} (h : St W0 w tp l sy r) :
    Calls Try.prog 18 #[.pointer (some ⟨tp, 0, none⟩)] w fun e w' => ∃ a k cap, e = .returned (.slice a k cap) ∧ Hid (k = l.length) ∧ Row w.heap.size w' (.slice a k cap) l ∧ Below w.heap.size w w' ∧ St W0 w' tp l sy r ∧ (convert 31 9 (.slice a k cap)).run Try.prog w' = .ok (.string ⟨l.toArray⟩) w' := by
  refine (bytes_any h.1).mono ?_
  rintro e w' ⟨a, k, cap, rfl, hk, hr, hb⟩
  obtain ⟨a', k', cap', hv, hk', _, _, hl, _⟩ := hr.form
  simp only [Value.slice.injEq] at hv
  obtain ⟨rfl, rfl, rfl⟩ := hv
  exact ⟨a, k, cap, rfl, hk, hr, hb, h.later hb, conv_named hl hk.out rfl⟩
end Go.Proofs.Ytfcnbdnmnmihjaa
