/-
  The contracts of the store's calls that look, make, put and strike one chunk.
-/
import Derived.Test.YtkmlekgfbmoimaaBlMem
import Derived.Test.YtkmlekgfbmoimaaShelf
import Derived.BigQuiet
import Derived.Deep.RegionLaw
namespace Go.Proofs.Ytkmlekgfbmoimaa.Blobs
open Go.RowKit Route Go.Maps Go.ChangeMaps

/-- An error: none, or one of the codes. -/
def errV : Nat → Value
  | 0 => .nilIface
  | c + 1 => .iface 29 (.int .i64 ((c + 1 : Nat) : Int))

theorem new_bad (q : Int) (w : World) (h : q < 0 ∨ 65536 < q) : Calls Try.prog 7 #[.int .i64 q] w fun e w' => e = .returned (.tuple #[.pointer none, .iface 29 (.int .i64 1)]) ∧ w' = w := by
  by_cases h0 : q < 0
  · go_enter Try.func7, Try.ntmps7
    go_wp2
    go_ret2
    exact ⟨rfl, rfl⟩
  · have h1 : 65536 < q := by omega
    have h2 : 0 ≤ q := by omega
    clear h h0
    go_enter Try.func7, Try.ntmps7
    go_wp2
    go_ret2
    exact ⟨rfl, rfl⟩

theorem new_store (w : World) (q : Nat) (h : q ≤ 65536) : StoreIn ((w.alloc (.map #[] 0)).alloc (.cells #[.int .i64 (q : Int), .int .i64 0, .map (some w.heap.size)] 47)) (w.heap.size + 1) w.heap.size q 0 [] := by
  have h2 := SetIn.made w
  refine ⟨?_, h2.below ((Below.refl _ _).alloc (Nat.le_refl _) _), List.Pairwise.nil, fun s hs => (by cases hs), Nat.zero_le _, h⟩
  have := heap_alloc_new (w.alloc (.map #[] 0)) (.cells #[.int .i64 (q : Int), .int .i64 0, .map (some w.heap.size)] 47)
  simpa [total] using this

theorem new_ok (q : Nat) (w : World) (h : q ≤ 65536) : Calls Try.prog 7 #[.int .i64 (q : Int)] w fun e w' => e = .returned (.tuple #[.pointer (some ⟨w.heap.size + 1, 0, none⟩), .nilIface]) ∧ StoreIn w' (w.heap.size + 1) w.heap.size q 0 [] ∧ Below w.heap.size w w' ∧ w'.heap.size = w.heap.size + 2 := by
  have hmm := @run_makeMap Try.prog
  have HS : Hid (StoreIn _ _ _ _ _ _) := new_store w q h
  go_enter Try.func7, Try.ntmps7
  go_wp2
  go_ret2
  exact ⟨rfl, HS.out, ((Below.refl _ _).alloc (Nat.le_refl _) _).alloc (by simp) _, by simp⟩

theorem size_any {w : World} {b m q n : Nat} {S : List ByteArray} (h : StoreIn w b m q n S) :
    Calls Try.prog 18 #[.pointer (some ⟨b, 0, none⟩)] w fun e w' => e = .returned (.int .i64 (total S : Int)) ∧ w' = w := by
  obtain ⟨c0, c1, c2, _⟩ := box_cells h.box
  go_enter Try.func18, Try.ntmps18
  go_wp2
  go_ret
  exact ⟨rfl, rfl⟩

theorem has_any {w : World} {b m q n : Nat} {S : List ByteArray} (h : StoreIn w b m q n S) (k : ByteArray) (hk : k.size ≤ maxLen) :
    Calls Try.prog 19 #[.pointer (some ⟨b, 0, none⟩), .string k] w fun e w' => e = .returned (.bool (inB S k)) ∧ Below w.heap.size w w' := by
  obtain ⟨c0, c1, c2, _⟩ := box_cells h.box
  obtain ⟨D, hD, _, hH⟩ := h.set
  have hkey := keyL_ok hk
  have hb : has D (keyL k) = inB S k := by
    cases e : inB S k with
    | true => exact (hH k).2 (inB_iff.1 e)
    | false =>
      cases e2 : has D (keyL k) with
      | false => rfl
      | true => exact absurd ((hH k).1 e2) (inB_not e)
  generalize inB S k = r at hb
  clear hH h hk
  go_enter Try.func19, Try.ntmps19
  go_wp2_with (at_lookup; refine wpList_lookup_own_unit _ rfl _ _ 45 rfl 9 50 keyed9 Try.underlying45 (zero50 _) m n D rfl hD _ _ rfl hkey ?_; rw [hb])
  go_ret
  exact ⟨rfl, (Below.refl _ _).alloc (Nat.le_refl _) _⟩

/-- 'delete', its run being known. -/
theorem wpList_delete_run {ops : Array Oper} {rest : List Oper} {o : Oper} {a : Act} {Q : Exit → Act → World → Prop} {w w' : World} (hg : o.guard = none) (m x : Operand)
    (hop : o.op = Op.call { callee := Callee.builtin Builtin.delete, args := #[m, x], argTypes := #[45, 9] }) (vm vx : Value) (hm : a.eval m = vm) (hx : a.eval x = vx)
    (hrun : ∀ ty, (Builtin.delete_ #[45, 9] ty #[vm, vx]).run Try.prog w = .ok (.tuple #[]) w') (hK : wpList Try.prog ops Q rest (a.put o.dst (.tuple #[])) w') :
    wpList Try.prog ops Q (o :: rest) a w := by
  refine wpList_plain hg fun K' hK' => ?_
  unfold Oper.wp
  simp [execOp, hop, resolve, invoke, builtin, hm, hx, hrun, Result.andThen]
  exact hK' _ _ hK

theorem remove_core {w w1 : World} {b m z : Nat} {q : Int} (k : ByteArray) (h : w.heap[b]? = some (.cells #[.int .i64 q, .int .i64 (z : Int), .map (some m)] 47 (0, 0))) (hz : z ≤ 65536) (hk : k.size ≤ 64)
    (hrun : ∀ ty, (Builtin.delete_ #[45, 9] ty #[.map (some m), .string k]).run Try.prog w = .ok (.tuple #[]) w1) (h1 : w1.heap[b]? = w.heap[b]?) :
    Calls Try.prog 20 #[.pointer (some ⟨b, 0, none⟩), .string k] w fun e w' => e = .returned (.tuple #[]) ∧ w' = w1.setCell ⟨b, 1, none⟩ (.int .i64 ((z : Int) - (k.size : Int))) := by
  obtain ⟨c0, c1, c2, _⟩ := box_cells h
  obtain ⟨d0, d1, d2, f0, f1, f2⟩ := box_cells (h1.trans h)
  have HR : Hid (∀ ty, (Builtin.delete_ #[45, 9] ty #[.map (some m), .string k]).run Try.prog w = .ok (.tuple #[]) w1) := hrun
  obtain ⟨y, hy⟩ : ∃ y : Nat, y = k.size := ⟨_, rfl⟩
  have hlen : ∀ w, (Builtin.len_ #[9] 3 #[.string k]).run Try.prog w = .ok (.int .i64 (y : Int)) w := fun w => by
    rw [run_len_string w 9 3 k Try.underlying9, hy]; rfl
  rw [← hy]
  rw [← hy] at hk
  clear h h1 hrun hy
  go_enter Try.func20, Try.ntmps20
  go_wp2_with (at_delete; refine wpList_delete_run rfl (.tmp 7) (.tmp 8) rfl _ _ rfl rfl HR.out ?_)
  go_end0
  exact ⟨rfl, rfl⟩
end Go.Proofs.Ytkmlekgfbmoimaa.Blobs
