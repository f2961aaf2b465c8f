/-
  Do, by the kind of the operation: written by gendo.py.
-/
import Derived.Test.YtlpgdfdadkljfaaGreatCtAdd2
import Derived.Test.YtlpgdfdadkljfaaGreatMgD
namespace Go.Proofs.YtlpgdfdadkljfaaGreat.Cat
open Go.RowKit Route Tree Order

/-- An answer's five cells. -/
structure An where
  a : Int
  b : Int
  s2 : Option Addr
  n2 : Nat
  c2 : Nat
  s3 : Option Addr
  n3 : Nat
  c3 : Nat
  s4 : Option Addr
  n4 : Nat
  c4 : Nat

abbrev An.val (x : An) : Value := .agg #[.int .i64 x.a, .int .i64 x.b, .slice x.s2 x.n2 x.c2, .slice x.s3 x.n3 x.c3, .slice x.s4 x.n4 x.c4]
abbrev An.put (x : An) (W : World) (r : Nat) : World := ((((W.setCell ⟨r, 0, none⟩ (.int .i64 x.a)).setCell ⟨r, 1, none⟩ (.int .i64 x.b)).setCell ⟨r, 2, none⟩ (.slice x.s2 x.n2 x.c2)).setCell ⟨r, 3, none⟩ (.slice x.s3 x.n3 x.c3)).setCell ⟨r, 4, none⟩ (.slice x.s4 x.n4 x.c4)

set_option maxHeartbeats 4000000 in
set_option maxRecDepth 100000 in
theorem do_no (p : Nat) (c k m : Int) (nm pt : ByteArray) (ka : Option Addr) (kn kc : Nat) (ks : List ByteArray) (w : World) (hnm : nm.size ≤ 100000) (hpt : pt.size ≤ 100000) (hk : KeysAt w ka kn kc ks) (hmay : may ⟨c, 1, k, m, nm, pt, ks⟩ = false) :
    Calls Tryz.prog 9 #[.pointer (some ⟨p, 0, none⟩), .int .i64 c, opV k nm pt ka kn kc m] w fun e w' => e = .returned (bareV 1 0) ∧ Below w.heap.size w w' := by
  have HC : Hid (∀ W, Below w.heap.size w W → Calls Tryz.prog 18 #[.agg #[.int .i64 c, .int .i64 1, .int .i64 k, .string nm, .string pt, .slice ka kn kc, .int .i64 m]] W fun e w' => e = .returned (.iface 53 (.int .i64 1)) ∧ Below W.heap.size W w') := fun W hb => by
    have h1 := check_any ⟨c, 1, k, m, nm, pt, ks⟩ ka kn kc W hnm hpt (hk.below hb)
    rw [if_neg (by rw [hmay]; decide)] at h1
    exact h1
  have q1 : ∀ W, (binOp .neq 38 (.iface 53 (.int .i64 1)) .nilIface).run Tryz.prog W = .ok (.bool true) W := fun W => by kernel_rfl
  clear hmay hk hnm hpt
  go_enter Tryz.func9, Tryz.ntmps9
  go_wp2_with fail
  refine (HC.out _ (((Below.refl _ _).alloc (Nat.le_refl w.heap.size) _).alloc (by simp) _)).mono ?_
  rintro e w1 ⟨rfl, hb1⟩
  have HB1 : Hid (Below (W2of w k nm pt ka kn kc m).heap.size (W2of w k nm pt ka kn kc m) w1) := hb1
  clear hb1 HC
  go_wp2_with fail
  refine (refusal_any 1 w1).mono ?_
  rintro e w2 ⟨rfl, hb2⟩
  obtain ⟨_, ⟨d0, d1, d2, d3, d4⟩, hf, hbw, _, _⟩ := two_box (HB1.out.trans (hb2.mono HB1.out.size))
  have f0 := hf 0
  have f1' := hf 1
  have f2' := hf 2
  have f3 := hf 3
  have f4 := hf 4
  have HBW : Hid (Below w.heap.size w w2) := hbw
  clear hb2 hf hbw HB1
  go_wp2
  refine bodyPost_ret (v := bareV 1 0) (by simp [results, Tryz.results9, go_sem, d0, d1, d2, d3, d4]) rfl ⟨rfl, ?_⟩
  exact below_set5b HBW.out (Nat.le_succ _)

set_option maxHeartbeats 4000000 in
set_option maxRecDepth 100000 in
theorem do_begin (T : Ending → World → Prop) (p : Nat) (c m : Int) (nm pt : ByteArray) (ka : Option Addr) (kn kc : Nat) (ks : List ByteArray) (w : World) (hnm : nm.size ≤ 100000) (hpt : pt.size ≤ 100000) (hk : KeysAt w ka kn kc ks) (hmay : may ⟨c, 1, 1, m, nm, pt, ks⟩ = true)
    (H : ∀ W, Below (W2of w 1 nm pt ka kn kc m).heap.size (W2of w 1 nm pt ka kn kc m) W → Calls Tryz.prog 20 #[.pointer (some ⟨p, 0, none⟩), .int .i64 c, .string nm] W fun e w2 => ∃ x : An, e = .returned x.val ∧ Hid (ResAt w2 (w.heap.size + 1)) ∧ Hid (T (.returned x.val) (x.put w2 (w.heap.size + 1)))) :
    Calls Tryz.prog 9 #[.pointer (some ⟨p, 0, none⟩), .int .i64 c, opV 1 nm pt ka kn kc m] w T := by
  have HC : Hid (∀ W, Below w.heap.size w W → Calls Tryz.prog 18 #[.agg #[.int .i64 c, .int .i64 1, .int .i64 1, .string nm, .string pt, .slice ka kn kc, .int .i64 m]] W fun e w' => e = .returned .nilIface ∧ Below W.heap.size W w') := fun W hb => by
    have h1 := check_any ⟨c, 1, 1, m, nm, pt, ks⟩ ka kn kc W hnm hpt (hk.below hb)
    rw [if_pos hmay] at h1
    exact h1
  have HH : Hid (∀ W, Below (W2of w 1 nm pt ka kn kc m).heap.size (W2of w 1 nm pt ka kn kc m) W → _) := H
  clear H hmay hk hnm hpt
  go_enter Tryz.func9, Tryz.ntmps9
  go_wp2_with fail
  refine (HC.out _ (((Below.refl _ _).alloc (Nat.le_refl w.heap.size) _).alloc (by simp) _)).mono ?_
  rintro e w1 ⟨rfl, hb1⟩
  have HB1 : Hid (Below (W2of w 1 nm pt ka kn kc m).heap.size (W2of w 1 nm pt ka kn kc m) w1) := hb1
  obtain ⟨⟨o0, o1, o2, o3, o4⟩, _⟩ := two_box hb1
  clear hb1 HC
  go_wp2_with fail
  refine (HH.out _ HB1.out).mono ?_
  rintro e w2 ⟨⟨a, b, s2, n2, c2, s3, n3, c3, s4, n4, c4⟩, rfl, hR, HT⟩
  have hr : ResAt w2 (w.heap.size + 1) := hR.out
  obtain ⟨⟨d0, d1, d2, d3, d4⟩, hf⟩ := hr
  have f0 := hf 0
  have f1' := hf 1
  have f2' := hf 2
  have f3 := hf 3
  have f4 := hf 4
  clear hf hR HH HB1 o0 o1 o2 o3 o4
  go_wp2
  exact bodyPost_ret (v := An.val ⟨a, b, s2, n2, c2, s3, n3, c3, s4, n4, c4⟩) (by simp [results, Tryz.results9, go_sem, d0, d1, d2, d3, d4]) rfl HT.out

set_option maxHeartbeats 4000000 in
set_option maxRecDepth 100000 in
theorem do_add (T : Ending → World → Prop) (p : Nat) (c m : Int) (nm pt : ByteArray) (ka : Option Addr) (kn kc : Nat) (ks : List ByteArray) (w : World) (hnm : nm.size ≤ 100000) (hpt : pt.size ≤ 100000) (hk : KeysAt w ka kn kc ks) (hmay : may ⟨c, 1, 2, m, nm, pt, ks⟩ = true)
    (H : ∀ W, Below (W2of w 2 nm pt ka kn kc m).heap.size (W2of w 2 nm pt ka kn kc m) W → Calls Tryz.prog 21 #[.pointer (some ⟨p, 0, none⟩), .int .i64 c, opV 2 nm pt ka kn kc m] W fun e w2 => ∃ x : An, e = .returned x.val ∧ Hid (ResAt w2 (w.heap.size + 1)) ∧ Hid (T (.returned x.val) (x.put w2 (w.heap.size + 1)))) :
    Calls Tryz.prog 9 #[.pointer (some ⟨p, 0, none⟩), .int .i64 c, opV 2 nm pt ka kn kc m] w T := by
  have HC : Hid (∀ W, Below w.heap.size w W → Calls Tryz.prog 18 #[.agg #[.int .i64 c, .int .i64 1, .int .i64 2, .string nm, .string pt, .slice ka kn kc, .int .i64 m]] W fun e w' => e = .returned .nilIface ∧ Below W.heap.size W w') := fun W hb => by
    have h1 := check_any ⟨c, 1, 2, m, nm, pt, ks⟩ ka kn kc W hnm hpt (hk.below hb)
    rw [if_pos hmay] at h1
    exact h1
  have HH : Hid (∀ W, Below (W2of w 2 nm pt ka kn kc m).heap.size (W2of w 2 nm pt ka kn kc m) W → _) := H
  clear H hmay hk hnm hpt
  go_enter Tryz.func9, Tryz.ntmps9
  go_wp2_with fail
  refine (HC.out _ (((Below.refl _ _).alloc (Nat.le_refl w.heap.size) _).alloc (by simp) _)).mono ?_
  rintro e w1 ⟨rfl, hb1⟩
  have HB1 : Hid (Below (W2of w 2 nm pt ka kn kc m).heap.size (W2of w 2 nm pt ka kn kc m) w1) := hb1
  obtain ⟨⟨o0, o1, o2, o3, o4⟩, _⟩ := two_box hb1
  clear hb1 HC
  go_wp2_with fail
  refine (HH.out _ HB1.out).mono ?_
  rintro e w2 ⟨⟨a, b, s2, n2, c2, s3, n3, c3, s4, n4, c4⟩, rfl, hR, HT⟩
  have hr : ResAt w2 (w.heap.size + 1) := hR.out
  obtain ⟨⟨d0, d1, d2, d3, d4⟩, hf⟩ := hr
  have f0 := hf 0
  have f1' := hf 1
  have f2' := hf 2
  have f3 := hf 3
  have f4 := hf 4
  clear hf hR HH HB1 o0 o1 o2 o3 o4
  go_wp2
  exact bodyPost_ret (v := An.val ⟨a, b, s2, n2, c2, s3, n3, c3, s4, n4, c4⟩) (by simp [results, Tryz.results9, go_sem, d0, d1, d2, d3, d4]) rfl HT.out

set_option maxHeartbeats 4000000 in
set_option maxRecDepth 100000 in
theorem do_commit (T : Ending → World → Prop) (p : Nat) (c m : Int) (nm pt : ByteArray) (ka : Option Addr) (kn kc : Nat) (ks : List ByteArray) (w : World) (hnm : nm.size ≤ 100000) (hpt : pt.size ≤ 100000) (hk : KeysAt w ka kn kc ks) (hmay : may ⟨c, 1, 3, m, nm, pt, ks⟩ = true)
    (H : ∀ W, Below (W2of w 3 nm pt ka kn kc m).heap.size (W2of w 3 nm pt ka kn kc m) W → Calls Tryz.prog 22 #[.pointer (some ⟨p, 0, none⟩), .int .i64 c, .string nm] W fun e w2 => ∃ x : An, e = .returned x.val ∧ Hid (ResAt w2 (w.heap.size + 1)) ∧ Hid (T (.returned x.val) (x.put w2 (w.heap.size + 1)))) :
    Calls Tryz.prog 9 #[.pointer (some ⟨p, 0, none⟩), .int .i64 c, opV 3 nm pt ka kn kc m] w T := by
  have HC : Hid (∀ W, Below w.heap.size w W → Calls Tryz.prog 18 #[.agg #[.int .i64 c, .int .i64 1, .int .i64 3, .string nm, .string pt, .slice ka kn kc, .int .i64 m]] W fun e w' => e = .returned .nilIface ∧ Below W.heap.size W w') := fun W hb => by
    have h1 := check_any ⟨c, 1, 3, m, nm, pt, ks⟩ ka kn kc W hnm hpt (hk.below hb)
    rw [if_pos hmay] at h1
    exact h1
  have HH : Hid (∀ W, Below (W2of w 3 nm pt ka kn kc m).heap.size (W2of w 3 nm pt ka kn kc m) W → _) := H
  clear H hmay hk hnm hpt
  go_enter Tryz.func9, Tryz.ntmps9
  go_wp2_with fail
  refine (HC.out _ (((Below.refl _ _).alloc (Nat.le_refl w.heap.size) _).alloc (by simp) _)).mono ?_
  rintro e w1 ⟨rfl, hb1⟩
  have HB1 : Hid (Below (W2of w 3 nm pt ka kn kc m).heap.size (W2of w 3 nm pt ka kn kc m) w1) := hb1
  obtain ⟨⟨o0, o1, o2, o3, o4⟩, _⟩ := two_box hb1
  clear hb1 HC
  go_wp2_with fail
  refine (HH.out _ HB1.out).mono ?_
  rintro e w2 ⟨⟨a, b, s2, n2, c2, s3, n3, c3, s4, n4, c4⟩, rfl, hR, HT⟩
  have hr : ResAt w2 (w.heap.size + 1) := hR.out
  obtain ⟨⟨d0, d1, d2, d3, d4⟩, hf⟩ := hr
  have f0 := hf 0
  have f1' := hf 1
  have f2' := hf 2
  have f3 := hf 3
  have f4 := hf 4
  clear hf hR HH HB1 o0 o1 o2 o3 o4
  go_wp2
  exact bodyPost_ret (v := An.val ⟨a, b, s2, n2, c2, s3, n3, c3, s4, n4, c4⟩) (by simp [results, Tryz.results9, go_sem, d0, d1, d2, d3, d4]) rfl HT.out

set_option maxHeartbeats 4000000 in
set_option maxRecDepth 100000 in
theorem do_abort (T : Ending → World → Prop) (p : Nat) (c m : Int) (nm pt : ByteArray) (ka : Option Addr) (kn kc : Nat) (ks : List ByteArray) (w : World) (hnm : nm.size ≤ 100000) (hpt : pt.size ≤ 100000) (hk : KeysAt w ka kn kc ks) (hmay : may ⟨c, 1, 4, m, nm, pt, ks⟩ = true)
    (H : ∀ W, Below (W2of w 4 nm pt ka kn kc m).heap.size (W2of w 4 nm pt ka kn kc m) W → Calls Tryz.prog 23 #[.pointer (some ⟨p, 0, none⟩), .int .i64 c, .string nm] W fun e w2 => ∃ x : An, e = .returned x.val ∧ Hid (ResAt w2 (w.heap.size + 1)) ∧ Hid (T (.returned x.val) (x.put w2 (w.heap.size + 1)))) :
    Calls Tryz.prog 9 #[.pointer (some ⟨p, 0, none⟩), .int .i64 c, opV 4 nm pt ka kn kc m] w T := by
  have HC : Hid (∀ W, Below w.heap.size w W → Calls Tryz.prog 18 #[.agg #[.int .i64 c, .int .i64 1, .int .i64 4, .string nm, .string pt, .slice ka kn kc, .int .i64 m]] W fun e w' => e = .returned .nilIface ∧ Below W.heap.size W w') := fun W hb => by
    have h1 := check_any ⟨c, 1, 4, m, nm, pt, ks⟩ ka kn kc W hnm hpt (hk.below hb)
    rw [if_pos hmay] at h1
    exact h1
  have HH : Hid (∀ W, Below (W2of w 4 nm pt ka kn kc m).heap.size (W2of w 4 nm pt ka kn kc m) W → _) := H
  clear H hmay hk hnm hpt
  go_enter Tryz.func9, Tryz.ntmps9
  go_wp2_with fail
  refine (HC.out _ (((Below.refl _ _).alloc (Nat.le_refl w.heap.size) _).alloc (by simp) _)).mono ?_
  rintro e w1 ⟨rfl, hb1⟩
  have HB1 : Hid (Below (W2of w 4 nm pt ka kn kc m).heap.size (W2of w 4 nm pt ka kn kc m) w1) := hb1
  obtain ⟨⟨o0, o1, o2, o3, o4⟩, _⟩ := two_box hb1
  clear hb1 HC
  go_wp2_with fail
  refine (HH.out _ HB1.out).mono ?_
  rintro e w2 ⟨⟨a, b, s2, n2, c2, s3, n3, c3, s4, n4, c4⟩, rfl, hR, HT⟩
  have hr : ResAt w2 (w.heap.size + 1) := hR.out
  obtain ⟨⟨d0, d1, d2, d3, d4⟩, hf⟩ := hr
  have f0 := hf 0
  have f1' := hf 1
  have f2' := hf 2
  have f3 := hf 3
  have f4 := hf 4
  clear hf hR HH HB1 o0 o1 o2 o3 o4
  go_wp2
  exact bodyPost_ret (v := An.val ⟨a, b, s2, n2, c2, s3, n3, c3, s4, n4, c4⟩) (by simp [results, Tryz.results9, go_sem, d0, d1, d2, d3, d4]) rfl HT.out

set_option maxHeartbeats 4000000 in
set_option maxRecDepth 100000 in
theorem do_list (T : Ending → World → Prop) (p : Nat) (c m : Int) (nm pt : ByteArray) (ka : Option Addr) (kn kc : Nat) (ks : List ByteArray) (w : World) (hnm : nm.size ≤ 100000) (hpt : pt.size ≤ 100000) (hk : KeysAt w ka kn kc ks) (hmay : may ⟨c, 1, 5, m, nm, pt, ks⟩ = true)
    (H : ∀ W, Below (W2of w 5 nm pt ka kn kc m).heap.size (W2of w 5 nm pt ka kn kc m) W → Calls Tryz.prog 24 #[.pointer (some ⟨p, 0, none⟩), .int .i64 c] W fun e w2 => ∃ s n k, e = .returned (.slice s n k) ∧ Hid (ResAt w2 (w.heap.size + 1)) ∧ Hid (T (.returned (An.val ⟨0, 0, s, n, k, none, 0, 0, none, 0, 0⟩)) (An.put ⟨0, 0, s, n, k, none, 0, 0, none, 0, 0⟩ w2 (w.heap.size + 1)))) :
    Calls Tryz.prog 9 #[.pointer (some ⟨p, 0, none⟩), .int .i64 c, opV 5 nm pt ka kn kc m] w T := by
  have HC : Hid (∀ W, Below w.heap.size w W → Calls Tryz.prog 18 #[.agg #[.int .i64 c, .int .i64 1, .int .i64 5, .string nm, .string pt, .slice ka kn kc, .int .i64 m]] W fun e w' => e = .returned .nilIface ∧ Below W.heap.size W w') := fun W hb => by
    have h1 := check_any ⟨c, 1, 5, m, nm, pt, ks⟩ ka kn kc W hnm hpt (hk.below hb)
    rw [if_pos hmay] at h1
    exact h1
  have HH : Hid (∀ W, Below (W2of w 5 nm pt ka kn kc m).heap.size (W2of w 5 nm pt ka kn kc m) W → _) := H
  clear H hmay hk hnm hpt
  go_enter Tryz.func9, Tryz.ntmps9
  go_wp2_with fail
  refine (HC.out _ (((Below.refl _ _).alloc (Nat.le_refl w.heap.size) _).alloc (by simp) _)).mono ?_
  rintro e w1 ⟨rfl, hb1⟩
  have HB1 : Hid (Below (W2of w 5 nm pt ka kn kc m).heap.size (W2of w 5 nm pt ka kn kc m) w1) := hb1
  obtain ⟨⟨o0, o1, o2, o3, o4⟩, _⟩ := two_box hb1
  clear hb1 HC
  go_wp2_with fail
  refine (HH.out _ HB1.out).mono ?_
  rintro e w2 ⟨s, n, k, rfl, hR, HT⟩
  have hr : ResAt w2 (w.heap.size + 1) := hR.out
  obtain ⟨⟨d0, d1, d2, d3, d4⟩, hf⟩ := hr
  have f0 := hf 0
  have f1' := hf 1
  have f2' := hf 2
  have f3 := hf 3
  have f4 := hf 4
  clear hf hR HH HB1 o0 o1 o2 o3 o4
  go_wp2
  exact bodyPost_ret (v := An.val ⟨0, 0, s, n, k, none, 0, 0, none, 0, 0⟩) (by simp [results, Tryz.results9, go_sem, d0, d1, d2, d3, d4]) rfl HT.out

set_option maxHeartbeats 4000000 in
set_option maxRecDepth 100000 in
theorem do_look (T : Ending → World → Prop) (p : Nat) (c m : Int) (nm pt : ByteArray) (ka : Option Addr) (kn kc : Nat) (ks : List ByteArray) (w : World) (hnm : nm.size ≤ 100000) (hpt : pt.size ≤ 100000) (hk : KeysAt w ka kn kc ks) (hmay : may ⟨c, 1, 6, m, nm, pt, ks⟩ = true)
    (H : ∀ W, Below (W2of w 6 nm pt ka kn kc m).heap.size (W2of w 6 nm pt ka kn kc m) W → Calls Tryz.prog 25 #[.pointer (some ⟨p, 0, none⟩), .int .i64 c, .string nm, .string pt] W fun e w2 => ∃ x : An, e = .returned x.val ∧ Hid (ResAt w2 (w.heap.size + 1)) ∧ Hid (T (.returned x.val) (x.put w2 (w.heap.size + 1)))) :
    Calls Tryz.prog 9 #[.pointer (some ⟨p, 0, none⟩), .int .i64 c, opV 6 nm pt ka kn kc m] w T := by
  have HC : Hid (∀ W, Below w.heap.size w W → Calls Tryz.prog 18 #[.agg #[.int .i64 c, .int .i64 1, .int .i64 6, .string nm, .string pt, .slice ka kn kc, .int .i64 m]] W fun e w' => e = .returned .nilIface ∧ Below W.heap.size W w') := fun W hb => by
    have h1 := check_any ⟨c, 1, 6, m, nm, pt, ks⟩ ka kn kc W hnm hpt (hk.below hb)
    rw [if_pos hmay] at h1
    exact h1
  have HH : Hid (∀ W, Below (W2of w 6 nm pt ka kn kc m).heap.size (W2of w 6 nm pt ka kn kc m) W → _) := H
  clear H hmay hk hnm hpt
  go_enter Tryz.func9, Tryz.ntmps9
  go_wp2_with fail
  refine (HC.out _ (((Below.refl _ _).alloc (Nat.le_refl w.heap.size) _).alloc (by simp) _)).mono ?_
  rintro e w1 ⟨rfl, hb1⟩
  have HB1 : Hid (Below (W2of w 6 nm pt ka kn kc m).heap.size (W2of w 6 nm pt ka kn kc m) w1) := hb1
  obtain ⟨⟨o0, o1, o2, o3, o4⟩, _⟩ := two_box hb1
  clear hb1 HC
  go_wp2_with fail
  refine (HH.out _ HB1.out).mono ?_
  rintro e w2 ⟨⟨a, b, s2, n2, c2, s3, n3, c3, s4, n4, c4⟩, rfl, hR, HT⟩
  have hr : ResAt w2 (w.heap.size + 1) := hR.out
  obtain ⟨⟨d0, d1, d2, d3, d4⟩, hf⟩ := hr
  have f0 := hf 0
  have f1' := hf 1
  have f2' := hf 2
  have f3 := hf 3
  have f4 := hf 4
  clear hf hR HH HB1 o0 o1 o2 o3 o4
  go_wp2
  exact bodyPost_ret (v := An.val ⟨a, b, s2, n2, c2, s3, n3, c3, s4, n4, c4⟩) (by simp [results, Tryz.results9, go_sem, d0, d1, d2, d3, d4]) rfl HT.out

set_option maxHeartbeats 4000000 in
set_option maxRecDepth 100000 in
theorem do_plan (T : Ending → World → Prop) (p : Nat) (c m : Int) (nm pt : ByteArray) (ka : Option Addr) (kn kc : Nat) (ks : List ByteArray) (w : World) (hnm : nm.size ≤ 100000) (hpt : pt.size ≤ 100000) (hk : KeysAt w ka kn kc ks) (hmay : may ⟨c, 1, 7, m, nm, pt, ks⟩ = true)
    (H : ∀ W, Below (W2of w 7 nm pt ka kn kc m).heap.size (W2of w 7 nm pt ka kn kc m) W → Calls Tryz.prog 26 #[.pointer (some ⟨p, 0, none⟩), .int .i64 c, .string nm] W fun e w2 => ∃ x : An, e = .returned x.val ∧ Hid (ResAt w2 (w.heap.size + 1)) ∧ Hid (T (.returned x.val) (x.put w2 (w.heap.size + 1)))) :
    Calls Tryz.prog 9 #[.pointer (some ⟨p, 0, none⟩), .int .i64 c, opV 7 nm pt ka kn kc m] w T := by
  have HC : Hid (∀ W, Below w.heap.size w W → Calls Tryz.prog 18 #[.agg #[.int .i64 c, .int .i64 1, .int .i64 7, .string nm, .string pt, .slice ka kn kc, .int .i64 m]] W fun e w' => e = .returned .nilIface ∧ Below W.heap.size W w') := fun W hb => by
    have h1 := check_any ⟨c, 1, 7, m, nm, pt, ks⟩ ka kn kc W hnm hpt (hk.below hb)
    rw [if_pos hmay] at h1
    exact h1
  have HH : Hid (∀ W, Below (W2of w 7 nm pt ka kn kc m).heap.size (W2of w 7 nm pt ka kn kc m) W → _) := H
  clear H hmay hk hnm hpt
  go_enter Tryz.func9, Tryz.ntmps9
  go_wp2_with fail
  refine (HC.out _ (((Below.refl _ _).alloc (Nat.le_refl w.heap.size) _).alloc (by simp) _)).mono ?_
  rintro e w1 ⟨rfl, hb1⟩
  have HB1 : Hid (Below (W2of w 7 nm pt ka kn kc m).heap.size (W2of w 7 nm pt ka kn kc m) w1) := hb1
  obtain ⟨⟨o0, o1, o2, o3, o4⟩, _⟩ := two_box hb1
  clear hb1 HC
  go_wp2_with fail
  refine (HH.out _ HB1.out).mono ?_
  rintro e w2 ⟨⟨a, b, s2, n2, c2, s3, n3, c3, s4, n4, c4⟩, rfl, hR, HT⟩
  have hr : ResAt w2 (w.heap.size + 1) := hR.out
  obtain ⟨⟨d0, d1, d2, d3, d4⟩, hf⟩ := hr
  have f0 := hf 0
  have f1' := hf 1
  have f2' := hf 2
  have f3 := hf 3
  have f4 := hf 4
  clear hf hR HH HB1 o0 o1 o2 o3 o4
  go_wp2
  exact bodyPost_ret (v := An.val ⟨a, b, s2, n2, c2, s3, n3, c3, s4, n4, c4⟩) (by simp [results, Tryz.results9, go_sem, d0, d1, d2, d3, d4]) rfl HT.out

set_option maxHeartbeats 4000000 in
set_option maxRecDepth 100000 in
theorem do_prune (T : Ending → World → Prop) (p : Nat) (c m : Int) (nm pt : ByteArray) (ka : Option Addr) (kn kc : Nat) (ks : List ByteArray) (w : World) (hnm : nm.size ≤ 100000) (hpt : pt.size ≤ 100000) (hk : KeysAt w ka kn kc ks) (hmay : may ⟨c, 1, 8, m, nm, pt, ks⟩ = true)
    (H : ∀ W, Below (W2of w 8 nm pt ka kn kc m).heap.size (W2of w 8 nm pt ka kn kc m) W → Calls Tryz.prog 27 #[.pointer (some ⟨p, 0, none⟩), .int .i64 c, .int .i64 m] W fun e w2 => ∃ b : Int, e = .returned (.int .i64 b) ∧ Hid (ResAt w2 (w.heap.size + 1)) ∧ Hid (T (.returned (An.val ⟨0, b, none, 0, 0, none, 0, 0, none, 0, 0⟩)) (An.put ⟨0, b, none, 0, 0, none, 0, 0, none, 0, 0⟩ w2 (w.heap.size + 1)))) :
    Calls Tryz.prog 9 #[.pointer (some ⟨p, 0, none⟩), .int .i64 c, opV 8 nm pt ka kn kc m] w T := by
  have HC : Hid (∀ W, Below w.heap.size w W → Calls Tryz.prog 18 #[.agg #[.int .i64 c, .int .i64 1, .int .i64 8, .string nm, .string pt, .slice ka kn kc, .int .i64 m]] W fun e w' => e = .returned .nilIface ∧ Below W.heap.size W w') := fun W hb => by
    have h1 := check_any ⟨c, 1, 8, m, nm, pt, ks⟩ ka kn kc W hnm hpt (hk.below hb)
    rw [if_pos hmay] at h1
    exact h1
  have HH : Hid (∀ W, Below (W2of w 8 nm pt ka kn kc m).heap.size (W2of w 8 nm pt ka kn kc m) W → _) := H
  clear H hmay hk hnm hpt
  go_enter Tryz.func9, Tryz.ntmps9
  go_wp2_with fail
  refine (HC.out _ (((Below.refl _ _).alloc (Nat.le_refl w.heap.size) _).alloc (by simp) _)).mono ?_
  rintro e w1 ⟨rfl, hb1⟩
  have HB1 : Hid (Below (W2of w 8 nm pt ka kn kc m).heap.size (W2of w 8 nm pt ka kn kc m) w1) := hb1
  obtain ⟨⟨o0, o1, o2, o3, o4⟩, _⟩ := two_box hb1
  clear hb1 HC
  go_wp2_with fail
  refine (HH.out _ HB1.out).mono ?_
  rintro e w2 ⟨b, rfl, hR, HT⟩
  have hr : ResAt w2 (w.heap.size + 1) := hR.out
  obtain ⟨⟨d0, d1, d2, d3, d4⟩, hf⟩ := hr
  have f0 := hf 0
  have f1' := hf 1
  have f2' := hf 2
  have f3 := hf 3
  have f4 := hf 4
  clear hf hR HH HB1 o0 o1 o2 o3 o4
  go_wp2
  exact bodyPost_ret (v := An.val ⟨0, b, none, 0, 0, none, 0, 0, none, 0, 0⟩) (by simp [results, Tryz.results9, go_sem, d0, d1, d2, d3, d4]) rfl HT.out

set_option maxHeartbeats 4000000 in
set_option maxRecDepth 100000 in
theorem do_held (T : Ending → World → Prop) (p : Nat) (c m : Int) (nm pt : ByteArray) (ka : Option Addr) (kn kc : Nat) (ks : List ByteArray) (w : World) (hnm : nm.size ≤ 100000) (hpt : pt.size ≤ 100000) (hk : KeysAt w ka kn kc ks) (hmay : may ⟨c, 1, 9, m, nm, pt, ks⟩ = true)
    (H : ∀ W, Below (W2of w 9 nm pt ka kn kc m).heap.size (W2of w 9 nm pt ka kn kc m) W → Calls Tryz.prog 28 #[.pointer (some ⟨p, 0, none⟩)] W fun e w2 => ∃ s n k, e = .returned (.slice s n k) ∧ Hid (ResAt w2 (w.heap.size + 1)) ∧ Hid (T (.returned (An.val ⟨0, 0, none, 0, 0, s, n, k, none, 0, 0⟩)) (An.put ⟨0, 0, none, 0, 0, s, n, k, none, 0, 0⟩ w2 (w.heap.size + 1)))) :
    Calls Tryz.prog 9 #[.pointer (some ⟨p, 0, none⟩), .int .i64 c, opV 9 nm pt ka kn kc m] w T := by
  have HC : Hid (∀ W, Below w.heap.size w W → Calls Tryz.prog 18 #[.agg #[.int .i64 c, .int .i64 1, .int .i64 9, .string nm, .string pt, .slice ka kn kc, .int .i64 m]] W fun e w' => e = .returned .nilIface ∧ Below W.heap.size W w') := fun W hb => by
    have h1 := check_any ⟨c, 1, 9, m, nm, pt, ks⟩ ka kn kc W hnm hpt (hk.below hb)
    rw [if_pos hmay] at h1
    exact h1
  have HH : Hid (∀ W, Below (W2of w 9 nm pt ka kn kc m).heap.size (W2of w 9 nm pt ka kn kc m) W → _) := H
  clear H hmay hk hnm hpt
  go_enter Tryz.func9, Tryz.ntmps9
  go_wp2_with fail
  refine (HC.out _ (((Below.refl _ _).alloc (Nat.le_refl w.heap.size) _).alloc (by simp) _)).mono ?_
  rintro e w1 ⟨rfl, hb1⟩
  have HB1 : Hid (Below (W2of w 9 nm pt ka kn kc m).heap.size (W2of w 9 nm pt ka kn kc m) w1) := hb1
  obtain ⟨⟨o0, o1, o2, o3, o4⟩, _⟩ := two_box hb1
  clear hb1 HC
  go_wp2_with fail
  refine (HH.out _ HB1.out).mono ?_
  rintro e w2 ⟨s, n, k, rfl, hR, HT⟩
  have hr : ResAt w2 (w.heap.size + 1) := hR.out
  obtain ⟨⟨d0, d1, d2, d3, d4⟩, hf⟩ := hr
  have f0 := hf 0
  have f1' := hf 1
  have f2' := hf 2
  have f3 := hf 3
  have f4 := hf 4
  clear hf hR HH HB1 o0 o1 o2 o3 o4
  go_wp2
  exact bodyPost_ret (v := An.val ⟨0, 0, none, 0, 0, s, n, k, none, 0, 0⟩) (by simp [results, Tryz.results9, go_sem, d0, d1, d2, d3, d4]) rfl HT.out

end Go.Proofs.YtlpgdfdadkljfaaGreat.Cat
