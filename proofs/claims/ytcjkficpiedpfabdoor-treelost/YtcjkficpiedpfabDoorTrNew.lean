/-
  Whether two paths clash, and the entry of a file behind those ahead of it: the program's 'clash' and 'newEntry'.
-/
import Derived.Test.YtcjkficpiedpfabDoorTrFind
namespace Go.Proofs.YtcjkficpiedpfabDoor.Tree
open Go.RowKit Route Chunk

set_option maxHeartbeats 4000000 in
set_option maxRecDepth 100000 in
theorem clash_any (p q : ByteArray) (w : World) (hp : p.size ≤ 100000) (hq : q.size ≤ 100000) :
    Calls Tryd.prog 28 #[.string p, .string q] w fun e w' => e = .returned (.bool (clashB p q)) ∧ Below w.heap.size w w' := by
  have h1 : Hid (∀ W, Calls Tryd.prog 41 #[.string p, .string q] W fun e w' => e = .returned (.bool (isUnder p q)) ∧ Below W.heap.size W w') := fun W => under_any p q W hp hq
  have h2 : Hid (∀ W, Calls Tryd.prog 41 #[.string q, .string p] W fun e w' => e = .returned (.bool (isUnder q p)) ∧ Below W.heap.size W w') := fun W => under_any q p W hq hp
  by_cases hpq : p = q
  · subst hpq
    have e : clashB p p = true := by simp [clashB]
    rw [e]
    clear h1 h2
    go_enter Tryd.func28, Tryd.ntmps28
    go_wp2
    go_ret
    exact ⟨rfl, Below.refl _ _⟩
  · have hne := ne_text hpq
    have e : clashB p q = (isUnder p q || isUnder q p) := by simp [clashB, hpq]
    rw [e]
    generalize isUnder p q = b1 at h1
    generalize isUnder q p = b2 at h2
    clear hpq e
    cases b1 with
    | true =>
      go_enter Tryd.func28, Tryd.ntmps28
      go_wp2_with fail
      refine (h1.out _).mono ?_
      rintro e w1 ⟨rfl, hb1⟩
      go_wp2
      go_ret
      exact ⟨rfl, hb1⟩
    | false =>
      go_enter Tryd.func28, Tryd.ntmps28
      go_wp2_with fail
      refine (h1.out _).mono ?_
      rintro e w1 ⟨rfl, hb1⟩
      go_wp2_with fail
      refine (h2.out _).mono ?_
      rintro e w2 ⟨rfl, hb2⟩
      go_wp2
      go_ret
      exact ⟨by simp, hb1.trans (hb2.mono hb1.size)⟩

/-- The file, the cut and the result, each in a cell of the call's own. -/
def new3 (w : World) (p bs : ByteArray) (mn mx mk : Int) : World :=
  ((w.alloc (.cells #[.string p, .string bs] 24)).alloc (.cells #[.int .i64 mn, .int .i64 mx, .int .i64 mk] 26)).alloc (.cells #[.string ⟨#[]⟩, .int .i64 0, .slice none 0 0] 37)

theorem new3_below (w : World) (p bs : ByteArray) (mn mx mk : Int) : Below w.heap.size w (new3 w p bs mn mx mk) := by
  unfold new3
  exact (((Below.refl _ _).alloc (Nat.le_refl _) _).alloc (by simp) _).alloc (by simp; omega) _
theorem new3_size (w : World) (p bs : ByteArray) (mn mx mk : Int) : (new3 w p bs mn mx mk).heap.size = w.heap.size + 3 := by
  unfold new3; simp

theorem new3_in {w wr : World} {p bs : ByteArray} {mn mx mk : Int} (hb : Below (new3 w p bs mn mx mk).heap.size (new3 w p bs mn mx mk) wr) :
    (wr.cell? ⟨w.heap.size, 0, none⟩ = some (.string p) ∧ wr.cell? ⟨w.heap.size, 1, none⟩ = some (.string bs)) ∧
    (wr.cell? ⟨w.heap.size + 1, 0, none⟩ = some (.int .i64 mn) ∧ wr.cell? ⟨w.heap.size + 1, 1, none⟩ = some (.int .i64 mx) ∧ wr.cell? ⟨w.heap.size + 1, 2, none⟩ = some (.int .i64 mk)) ∧
    (wr.cell? ⟨w.heap.size + 1 + 1, 0, none⟩ = some (.string ⟨#[]⟩) ∧ wr.cell? ⟨w.heap.size + 1 + 1, 1, none⟩ = some (.int .i64 0) ∧ wr.cell? ⟨w.heap.size + 1 + 1, 2, none⟩ = some (.slice none 0 0)) ∧
    (wr.frozen? ⟨w.heap.size + 1 + 1, 0, none⟩ = false ∧ wr.frozen? ⟨w.heap.size + 1 + 1, 1, none⟩ = false ∧ wr.frozen? ⟨w.heap.size + 1 + 1, 2, none⟩ = false) ∧ Below w.heap.size w wr ∧ w.heap.size + 3 ≤ wr.heap.size := by
  have hs := new3_size w p bs mn mx mk
  have hz := hb.size
  have hw := (new3_below w p bs mn mx mk).trans (hb.mono (by omega))
  have hc : ∀ (x : Addr) (v : Value), (new3 w p bs mn mx mk).cell? x = some v → wr.cell? x = some v := fun x v h => cell_kept hb h
  refine ⟨⟨hc _ _ ?_, hc _ _ ?_⟩, ⟨hc _ _ ?_, hc _ _ ?_, hc _ _ ?_⟩, ⟨hc _ _ ?_, hc _ _ ?_, hc _ _ ?_⟩, ⟨?_, ?_, ?_⟩, hw, by omega⟩
  · unfold new3; rw [World.cell?_alloc_lt _ _ _ (by simp; omega), World.cell?_alloc_lt _ _ _ (by simp)]; simp
  · unfold new3; rw [World.cell?_alloc_lt _ _ _ (by simp; omega), World.cell?_alloc_lt _ _ _ (by simp)]; simp
  · unfold new3; rw [World.cell?_alloc_lt _ _ _ (by simp)]; rw [World.cell?_alloc_at _ _ _ _ (by simp)]; rfl
  · unfold new3; rw [World.cell?_alloc_lt _ _ _ (by simp)]; rw [World.cell?_alloc_at _ _ _ _ (by simp)]; rfl
  · unfold new3; rw [World.cell?_alloc_lt _ _ _ (by simp)]; rw [World.cell?_alloc_at _ _ _ _ (by simp)]; rfl
  · unfold new3; rw [World.cell?_alloc_at _ _ _ _ (by simp)]; rfl
  · unfold new3; rw [World.cell?_alloc_at _ _ _ _ (by simp)]; rfl
  · unfold new3; rw [World.cell?_alloc_at _ _ _ _ (by simp)]; rfl
  all_goals
    rw [hb.frozen (show w.heap.size + 1 + 1 < _ by omega)]
    unfold new3
    exact World.frozen?_alloc_at _ _ _ _ (by simp)

set_option maxHeartbeats 4000000 in
set_option maxRecDepth 100000 in
theorem new_path (a : Option Addr) (n cap : Nat) (p bs : ByteArray) (mn mx mk : Int) (w : World) (hp : isPath p = false) (hps : p.size ≤ 2000) :
    Calls Tryd.prog 14 #[.slice a n cap, .agg #[.string p, .string bs], cutV mn mx mk] w fun e w' => e = .returned (.tuple #[.agg #[.string ⟨#[]⟩, .int .i64 0, .slice none 0 0], .iface 43 (.int .i64 2)]) ∧ Below w.heap.size w w' := by
  have hc : Hid (∀ W, Calls Tryd.prog 26 #[.string p] W fun e w' => e = .returned (.iface 43 (.int .i64 2)) ∧ Below W.heap.size W w') := fun W => check_no p W (by omega) hp
  unfold cutV
  clear hp hps
  go_enter Tryd.func14, Tryd.ntmps14
  go_wp2_with fail
  refine (hc.out _).mono ?_
  rintro e w1 ⟨rfl, hb1⟩
  obtain ⟨⟨a0, a1⟩, ⟨b0, b1, b2⟩, ⟨c0, c1, c2⟩, ⟨f0, f1, f2⟩, hbw, hlt⟩ := new3_in hb1
  have HB : Hid (Below w.heap.size w w1) := hbw
  clear hb1 hbw
  go_wp2
  refine bodyPost_ret (v := .tuple #[.agg #[.string ⟨#[]⟩, .int .i64 0, .slice none 0 0], .iface 43 (.int .i64 2)]) (by simp [results, Tryd.results14, go_sem, c0, c1, c2]) rfl ?_
  exact ⟨rfl, ((HB.out.setCell (show w.heap.size ≤ w.heap.size + 1 + 1 by omega) _).setCell (show w.heap.size ≤ w.heap.size + 1 + 1 by omega) _).setCell (show w.heap.size ≤ w.heap.size + 1 + 1 by omega) _⟩

set_option maxHeartbeats 4000000 in
set_option maxRecDepth 100000 in
theorem new_large (a : Option Addr) (n cap : Nat) (p bs : ByteArray) (mn mx mk : Int) (w : World) (hp : isPath p = true) (hps : p.size ≤ 2000) (hm : mayB mn mx mk = true) (hbs : 1024 < bs.size) :
    Calls Tryd.prog 14 #[.slice a n cap, .agg #[.string p, .string bs], cutV mn mx mk] w fun e w' => e = .returned (.tuple #[.agg #[.string ⟨#[]⟩, .int .i64 0, .slice none 0 0], .iface 43 (.int .i64 7)]) ∧ Below w.heap.size w w' := by
  have hc : Hid (∀ W, Calls Tryd.prog 26 #[.string p] W fun e w' => e = .returned .nilIface ∧ Below W.heap.size W w') := fun W => check_ok p W (by omega) hp
  have hs : Hid (∀ W, Calls Tryd.prog 27 #[.string bs, cutV mn mx mk] W fun e w' => e = .returned (.tuple #[.slice none 0 0, .iface 43 (.int .i64 7)]) ∧ Below W.heap.size W w') := fun W => split_large bs mn mx mk W hm hbs
  unfold cutV at hs ⊢
  clear hp hps hm hbs
  go_enter Tryd.func14, Tryd.ntmps14
  go_wp2_with fail
  refine (hc.out _).mono ?_
  rintro e w1 ⟨rfl, hb1⟩
  obtain ⟨⟨a0, a1⟩, ⟨b0, b1, b2⟩, _, _, _, _⟩ := new3_in hb1
  have HB1 : Hid (Below (new3 w p bs mn mx mk).heap.size (new3 w p bs mn mx mk) w1) := hb1
  clear hb1
  go_wp2_with fail
  refine (hs.out _).mono ?_
  rintro e w2 ⟨rfl, hb2⟩
  obtain ⟨_, _, ⟨c0, c1, c2⟩, ⟨f0, f1, f2⟩, hbw, hlt⟩ := new3_in (HB1.out.trans (hb2.mono HB1.out.size))
  have HB : Hid (Below w.heap.size w w2) := hbw
  clear hb2 hbw a0 a1 b0 b1 b2
  go_wp2
  refine bodyPost_ret (v := .tuple #[.agg #[.string ⟨#[]⟩, .int .i64 0, .slice none 0 0], .iface 43 (.int .i64 7)]) (by simp [results, Tryd.results14, go_sem, c0, c1, c2]) rfl ?_
  exact ⟨rfl, ((HB.out.setCell (show w.heap.size ≤ w.heap.size + 1 + 1 by omega) _).setCell (show w.heap.size ≤ w.heap.size + 1 + 1 by omega) _).setCell (show w.heap.size ≤ w.heap.size + 1 + 1 by omega) _⟩
end Go.Proofs.YtcjkficpiedpfabDoor.Tree
