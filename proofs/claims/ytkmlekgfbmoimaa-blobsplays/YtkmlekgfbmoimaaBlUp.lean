/-
  The document's example, a Put whatever comes of it, and rows of Puts.
-/
import Derived.Test.YtkmlekgfbmoimaaBlLaw
namespace Go.Proofs.Ytkmlekgfbmoimaa.Blobs
open Go.RowKit Route

theorem eqNil (w : World) : (binOp .eql 26 .nilIface .nilIface).run Try.prog w = .ok (.bool true) w := by kernel_rfl
theorem neNil (w : World) : (binOp .neq 26 .nilIface .nilIface).run Try.prog w = .ok (.bool false) w := by kernel_rfl
theorem eqArg (w : World) : (binOp .eql 26 (.iface 29 (.int .i64 1)) (.iface 29 (.int .i64 1))).run Try.prog w = .ok (.bool true) w := by kernel_rfl
theorem eqFull (w : World) : (binOp .eql 26 (.iface 29 (.int .i64 5)) (.iface 29 (.int .i64 5))).run Try.prog w = .ok (.bool true) w := by kernel_rfl
theorem neArg (w : World) : (binOp .neq 26 (.iface 29 (.int .i64 1)) (.iface 29 (.int .i64 1))).run Try.prog w = .ok (.bool false) w := by kernel_rfl
theorem neNone (w : World) : (binOp .neq 26 (.iface 29 (.int .i64 3)) (.iface 29 (.int .i64 3))).run Try.prog w = .ok (.bool false) w := by kernel_rfl
theorem neFull (w : World) : (binOp .neq 26 (.iface 29 (.int .i64 5)) (.iface 29 (.int .i64 5))).run Try.prog w = .ok (.bool false) w := by kernel_rfl

/-- What the store in (b, m) has turned stays so for what is below. -/
theorem Trn.later {b m : Nat} {w0 w w' : World} (h : Below w0.heap.size w0 w) (ht : Trn b m w w') (hb : w0.heap.size ≤ b) (hm : w0.heap.size ≤ m) : Below w0.heap.size w0 w' :=
  h.trans (ht.below hb hm h.size)

set_option maxHeartbeats 2000000 in
theorem up_any (w : World) : Calls Try.prog 6 #[] w fun e w' => e = .returned (.bool true) ∧ Below w.heap.size w w' := by
  have h1 := eqNil
  have h2 := eqArg
  have h3 := eqFull
  have HN : Hid (Calls _ _ _ _ _) := new_ok 3 w (by decide)
  have HX : Hid (∀ w, Calls Try.prog 7 #[.int .i64 (-1)] w _) := fun w => new_bad (-1) w (by decide)
  go_enter Try.func6, Try.ntmps6
  go_wp2_with fail
  refine HN.out.mono ?_
  rintro e w1 ⟨rfl, hs1, hb1, hz1⟩
  have HS1 : Hid (StoreIn w1 (w.heap.size + 1) w.heap.size 3 0 []) := hs1
  have HB1 : Hid (Below w.heap.size w w1) := hb1
  clear hs1 hb1 HN
  go_wp2_with fail
  refine (HX.out w1).mono ?_
  rintro e w2 ⟨rfl, rfl⟩
  have HP : Hid (Calls _ _ _ _ _) := put_new HS1.out (⟨#[97, 98]⟩ : ByteArray) (by decide) (by decide) rfl (by decide) (by decide)
  go_wp2_with fail
  refine HP.out.mono ?_
  rintro e w3 ⟨rfl, hs3, ht3⟩
  have HS3 : Hid (StoreIn w3 (w.heap.size + 1) w.heap.size 3 1 (ins ⟨#[97, 98]⟩ [])) := hs3
  have HB3 : Hid (Below w.heap.size w w3) := Trn.later HB1.out ht3 (by omega) (Nat.le_refl _)
  clear hs3 ht3
  have HP2 : Hid (Calls _ _ _ _ _) := put_full HS3.out (⟨#[99, 100]⟩ : ByteArray) (by decide) (by decide) (by decide) (by decide)
  go_wp2_with fail
  refine HP2.out.mono ?_
  rintro e w4 ⟨rfl, hb4⟩
  have hs4 := HS3.out.below hb4
  have HB4 : Hid (Below w.heap.size w w4) := HB3.out.trans (hb4.mono HB3.out.size)
  have hh := has_any hs4 (⟨#[97, 98]⟩ : ByteArray) (by decide)
  rw [show inB (ins (⟨#[97, 98]⟩ : ByteArray) []) ⟨#[97, 98]⟩ = true by decide] at hh
  have HH : Hid (Calls _ _ _ _ _) := hh
  have HZ : Hid (∀ w5, Below w4.heap.size w4 w5 → Calls Try.prog 18 #[.pointer (some ⟨w.heap.size + 1, 0, none⟩)] w5 fun e w' => e = .returned (.int .i64 2) ∧ w' = w5) := fun w5 hb => size_any (hs4.below hb)
  clear hs4 hb4 hh HP HP2 HX
  go_wp2_with fail
  refine HH.out.mono ?_
  rintro e w5 ⟨rfl, hb5⟩
  go_wp2_with fail
  refine (HZ.out w5 hb5).mono ?_
  rintro e w6 ⟨rfl, rfl⟩
  go_wp2
  go_ret
  exact ⟨rfl, HB4.out.trans (hb5.mono HB4.out.size)⟩

/-- A Put, whatever comes of it. -/
theorem put_go {w : World} {b m q n : Nat} {S : List ByteArray} (h : StoreIn w b m q n S) (k : ByteArray) (hk : k.size ≤ maxLen) (hnn : n ≤ 1000000) :
    Calls Try.prog 13 #[.pointer (some ⟨b, 0, none⟩), .string k] w fun e w' => ∃ v, e = .returned v ∧ StoreIn w' b m q (n + 1) (putS q k S) ∧ Trn b m w w' := by
  have hmore : ∀ w', StoreIn w' b m q n S → StoreIn w' b m q (n + 1) S := fun w' h => ⟨h.box, let ⟨D, h1, h2⟩ := h.set; ⟨D, h1.mono (Nat.le_succ _), h2⟩, h.asc, h.ok, h.room, h.lim⟩
  by_cases h1 : 1 ≤ k.size ∧ k.size ≤ 64
  · cases h2 : inB S k with
    | true =>
      have e : putS q k S = S := by simp [putS, h2]
      rw [e]
      refine (put_old h k h1.1 h1.2 h2).mono ?_
      rintro e w' ⟨rfl, hb⟩
      exact ⟨_, rfl, hmore _ (h.below hb), .of hb⟩
    | false =>
      by_cases h3 : k.size + total S ≤ q
      · have e : putS q k S = ins k S := by simp [putS, h1, h2, h3]
        rw [e]
        refine (put_new h k h1.1 h1.2 h2 h3 hnn).mono ?_
        rintro e w' ⟨rfl, hs, ht⟩
        exact ⟨_, rfl, hs, ht⟩
      · have e : putS q k S = S := by simp [putS, h3]
        rw [e]
        refine (put_full h k h1.1 h1.2 h2 (by omega)).mono ?_
        rintro e w' ⟨rfl, hb⟩
        exact ⟨_, rfl, hmore _ (h.below hb), .of hb⟩
  · have e : putS q k S = S := by
      unfold putS
      rw [decide_eq_false h1]; rfl
    rw [e]
    refine (put_arg k hk h1).mono ?_
    rintro e w' ⟨rfl, rfl⟩
    exact ⟨_, rfl, hmore _ h, Trn.refl _ _ _⟩

/-- The store that these texts were put in, with room for all. -/
structure Fed (l S : List ByteArray) : Prop where
  mem : ∀ s, s ∈ S ↔ s ∈ l ∧ 1 ≤ s.size ∧ s.size ≤ 64
  room : total S ≤ 64 * l.length

theorem Fed.nil : Fed [] [] := ⟨fun s => by simp, Nat.le_refl _⟩
theorem Fed.put {l S : List ByteArray} (h : Fed l S) (k : ByteArray) (hl : l.length ≤ 100) : Fed (l ++ [k]) (putS 65536 k S) := by
  have hr := h.room
  by_cases h1 : 1 ≤ k.size ∧ k.size ≤ 64
  · cases h2 : inB S k with
    | true =>
      have e : putS 65536 k S = S := by simp [putS, h2]
      rw [e]
      refine ⟨fun s => ?_, by rw [List.length_append]; simp; omega⟩
      rw [h.mem s, List.mem_append, List.mem_singleton]
      constructor
      · rintro ⟨a, b⟩; exact ⟨.inl a, b⟩
      · rintro ⟨a | rfl, b⟩
        · exact ⟨a, b⟩
        · exact (h.mem s).1 (inB_iff.1 h2)
    | false =>
      have e : putS 65536 k S = ins k S := by simp [putS, h1, h2]; omega
      rw [e]
      refine ⟨fun s => ?_, by rw [total_ins, List.length_append]; simp; omega⟩
      rw [mem_ins, h.mem s, List.mem_append, List.mem_singleton]
      constructor
      · rintro (rfl | ⟨a, b⟩)
        · exact ⟨.inr rfl, h1⟩
        · exact ⟨.inl a, b⟩
      · rintro ⟨a | rfl, b⟩
        · exact .inr ⟨a, b⟩
        · exact .inl rfl
  · have e : putS 65536 k S = S := by
      unfold putS
      rw [decide_eq_false h1]; rfl
    rw [e]
    refine ⟨fun s => ?_, by rw [List.length_append]; simp; omega⟩
    rw [h.mem s, List.mem_append, List.mem_singleton]
    constructor
    · rintro ⟨a, b⟩; exact ⟨.inl a, b⟩
    · rintro ⟨a | rfl, b⟩
      · exact ⟨a, b⟩
      · exact absurd b h1

theorem StoreIn.trn {w w' : World} {b m q n b' m' : Nat} {S : List ByteArray} (h : StoreIn w b m q n S) (ht : Trn b' m' w w') (h1 : b ≠ b') (h2 : b ≠ m') (h3 : m ≠ b') (h4 : m ≠ m') : StoreIn w' b m q n S :=
  h.keep (ht.block b h.lt.1 h1 h2) (ht.block m h.lt.2 h3 h4)
theorem StoreIn.few {w : World} {b m q n : Nat} {S : List ByteArray} (h : StoreIn w b m q n S) : S.length ≤ 65536 := by
  have h1 : ∀ l : List ByteArray, (∀ s ∈ l, 1 ≤ s.size) → l.length ≤ total l := fun l => by
    induction l with
    | nil => intro _; exact Nat.le_refl _
    | cons x r ih =>
      intro hx
      have := ih fun s hs => hx s (List.mem_cons_of_mem _ hs)
      have := hx x (List.mem_cons_self ..)
      rw [List.length_cons, total]; omega
  exact Nat.le_trans (h1 S fun s hs => (h.ok s hs).1) (Nat.le_trans h.room h.lim)
end Go.Proofs.Ytkmlekgfbmoimaa.Blobs
