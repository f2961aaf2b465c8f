/-
  What a look and a plan tell.
-/
import Derived.Test.YtlpgdfdadkljfaaGreatCtOps2
namespace Go.Proofs.YtlpgdfdadkljfaaGreat.Cat
open Go.RowKit Route Tree

/-- An answer in memory: its rows are new. -/
def AnsV (B : Nat) (x : Ans) (e : Ending) (w : World) : Prop :=
  ∃ nv kv ev Y, e = .returned (.agg #[.int .i64 (x.code : Nat), .int .i64 x.n, nv, kv, ev]) ∧ w.ownsRow B 9 1 nv x.names.length (sv x.names) ∧ w.ownsRow B 9 1 kv x.keys.length (sv x.keys) ∧ Y.map (·.1) = x.ents ∧ EOwn B ev Y w

theorem EOwn.nil (B : Nat) (w : World) : EOwn B (.slice none 0 0) [] w := ⟨World.ownsRow_nil _ _ _ _, fun y hy => by simp at hy⟩
theorem AnsV.no {B : Nat} {c : Nat} {w : World} : AnsV B (no c) (.returned (bareV (c : Nat) 0)) w :=
  ⟨_, _, _, [], rfl, World.ownsRow_nil _ _ _ _, World.ownsRow_nil _ _ _ _, rfl, EOwn.nil _ _⟩
theorem AnsV.bare {B : Nat} {n : Int} {w : World} : AnsV B ⟨0, n, [], [], []⟩ (.returned (bareV 0 n)) w :=
  ⟨_, _, _, [], rfl, World.ownsRow_nil _ _ _ _, World.ownsRow_nil _ _ _ _, rfl, EOwn.nil _ _⟩

theorem own_far5 {w : World} {B r e s n : Nat} {v : Value} {xs : List Value} {a b c d f : Value} (h : w.ownsRow B e s v n xs) (hr : r < B) : (((((w.setCell ⟨r, 0, none⟩ a).setCell ⟨r, 1, none⟩ b).setCell ⟨r, 2, none⟩ c).setCell ⟨r, 3, none⟩ d).setCell ⟨r, 4, none⟩ f).ownsRow B e s v n xs :=
  ownsRow_setCell_below (ownsRow_setCell_below (ownsRow_setCell_below (ownsRow_setCell_below (ownsRow_setCell_below h (a := ⟨r, 0, none⟩) hr a) (a := ⟨r, 1, none⟩) hr b) (a := ⟨r, 2, none⟩) hr c) (a := ⟨r, 3, none⟩) hr d) (a := ⟨r, 4, none⟩) hr f

/-- What is asked of a catalog's snapshots. -/
def EntsFit (E : List Ent) : Prop := isTree E ∧ ∀ e ∈ E, EOk e
theorem EntsFit.ok {E : List Ent} (h : EntsFit E) : EntsOk E.length E := by
  refine ⟨rfl, by have := h.1.1; omega, fun j hj => ?_⟩
  have := h.2 _ (ent_mem hj)
  refine ⟨by have := this.1; omega, by have := this.2.1; omega, fun k hk => ?_⟩
  have := this.2.2 ((entOf E j).2.2.getD k ByteArray.empty) (by simp [List.getD_eq_getElem?_getD, hk])
  omega
theorem EOk.short {e : Ent} (h : EOk e) : EShort e :=
  ⟨by have := h.1; omega, by have := h.2.1; omega, fun j hj => by have := h.2.2 (e.2.2.getD j ByteArray.empty) (by simp [List.getD_eq_getElem?_getD, hj]); omega⟩

theorem find_at {E : List Ent} {p : ByteArray} {j : Nat} (ht : isTree E) (hj : j < E.length) (hp : (entOf E j).1 = p) : E.find? (fun e => decide (e.1 = p)) = some (entOf E j) := by
  have hs := (treeL_iff.1 ht).2.2
  rw [List.find?_eq_some_iff_getElem]
  refine ⟨by simp [hp], j, hj, (ent_get hj).symm, fun k hk => ?_⟩
  have := (List.pairwise_iff_getElem.1 hs k j (by omega) hj hk).1
  rw [← ent_get hj, hp] at this
  simpa using lt_ne this

theorem find_not {E : List Ent} {p : ByteArray} (h : ∀ k, k < E.length → (entOf E k).1 ≠ p) : E.find? (fun e => decide (e.1 = p)) = none := by
  rw [List.find?_eq_none]
  intro x hx
  obtain ⟨k, hk, rfl⟩ := List.mem_iff_getElem.1 hx
  have := h k hk
  rw [ent_get hk] at this
  simpa using this

set_option maxHeartbeats 4000000 in
set_option maxRecDepth 100000 in
theorem look_no (p : Nat) (a : Option Addr) (n cap : Nat) (S : List Snap) (c : Int) (nm pt : ByteArray) (w : World) (h : See p a n cap S w) (hp : (found c nm true S).2 ≠ 0) :
    Calls Tryz.prog 25 #[.pointer (some ⟨p, 0, none⟩), .int .i64 c, .string nm, .string pt] w fun e w' => e = .returned (bareV ((found c nm true S).2 : Nat) 0) ∧ Below w.heap.size w w' := by
  have HP : Hid (Calls _ _ _ _ _) := find_any p a n cap S c nm true (w.alloc zero30) (h.below (Below.alloc (Below.refl _ _) (Nat.le_refl w.heap.size) zero30) (Nat.le_refl _))
  generalize (found c nm true S).1 = f1 at HP
  generalize (found c nm true S).2 = f2 at HP hp
  have hd : ((f2 : Int) == 0) = false := by simp; omega
  clear h hp
  go_enter Tryz.func25, Tryz.ntmps25
  go_wp2_with fail
  refine HP.out.mono ?_
  rintro e w1 ⟨rfl, hb1⟩
  have HB1 : Hid (Below (w.alloc zero30).heap.size (w.alloc zero30) w1) := hb1
  clear hb1 HP
  go_wp2_with fail
  refine (refusal_any (f2 : Int) w1).mono ?_
  rintro e w2 ⟨rfl, hb2⟩
  obtain ⟨⟨d0, d1, d2, d3, d4⟩, hf, hbw, _, _⟩ := res_box (HB1.out.trans (hb2.mono HB1.out.size))
  have f0 := hf 0
  have f1' := hf 1
  have f2' := hf 2
  have f3 := hf 3
  have f4 := hf 4
  have HBW : Hid (Below w.heap.size w w2) := hbw
  clear hb2 hf hbw HB1 hd
  go_wp2
  refine bodyPost_ret (v := bareV (f2 : Int) 0) (by simp [results, Tryz.results25, go_sem, d0, d1, d2, d3, d4]) rfl ⟨rfl, ?_⟩
  exact below_set5 HBW.out

set_option maxHeartbeats 4000000 in
set_option maxRecDepth 100000 in
theorem plan_no (p : Nat) (a : Option Addr) (n cap : Nat) (S : List Snap) (c : Int) (nm : ByteArray) (w : World) (h : See p a n cap S w) (hp : (found c nm true S).2 ≠ 0) :
    Calls Tryz.prog 26 #[.pointer (some ⟨p, 0, none⟩), .int .i64 c, .string nm] w fun e w' => e = .returned (bareV ((found c nm true S).2 : Nat) 0) ∧ Below w.heap.size w w' := by
  have HP : Hid (Calls _ _ _ _ _) := find_any p a n cap S c nm true (w.alloc zero30) (h.below (Below.alloc (Below.refl _ _) (Nat.le_refl w.heap.size) zero30) (Nat.le_refl _))
  generalize (found c nm true S).1 = f1 at HP
  generalize (found c nm true S).2 = f2 at HP hp
  have hd : ((f2 : Int) == 0) = false := by simp; omega
  clear h hp
  go_enter Tryz.func26, Tryz.ntmps26
  go_wp2_with fail
  refine HP.out.mono ?_
  rintro e w1 ⟨rfl, hb1⟩
  have HB1 : Hid (Below (w.alloc zero30).heap.size (w.alloc zero30) w1) := hb1
  clear hb1 HP
  go_wp2_with fail
  refine (refusal_any (f2 : Int) w1).mono ?_
  rintro e w2 ⟨rfl, hb2⟩
  obtain ⟨⟨d0, d1, d2, d3, d4⟩, hf, hbw, _, _⟩ := res_box (HB1.out.trans (hb2.mono HB1.out.size))
  have f0 := hf 0
  have f1' := hf 1
  have f2' := hf 2
  have f3 := hf 3
  have f4 := hf 4
  have HBW : Hid (Below w.heap.size w w2) := hbw
  clear hb2 hf hbw HB1 hd
  go_wp2
  refine bodyPost_ret (v := bareV (f2 : Int) 0) (by simp [results, Tryz.results26, go_sem, d0, d1, d2, d3, d4]) rfl ⟨rfl, ?_⟩
  exact below_set5 HBW.out

/-- What is read of the i-th snapshot, in each later world. -/
theorem See.snap {p : Nat} {a : Option Addr} {n cap : Nat} {S : List Snap} {w : World} (h : See p a n cap S w) {i : Nat} (hi : i < S.length) : ∃ x ea ec, a = some x ∧ (snapAt S i).2.2.2.length ≤ ec ∧ ∀ W, Below w.heap.size w W → W.cell? ⟨p, 0, none⟩ = some (.slice a n cap) ∧ W.cell? ⟨(x.add (i * 4)).block, (x.add (i * 4)).off + 3, none⟩ = some (.slice ea (snapAt S i).2.2.2.length ec) ∧ LiesE W ea (snapAt S i).2.2.2 := by
  obtain ⟨x, hx, _, _, _, ea, ec, g3, hle, _, hl⟩ := h.lies.at hi
  exact ⟨x, ea, ec, hx, hle, fun W hb => ⟨cell_kept hb h.cell, cell_kept hb g3, hl.below hb (Nat.le_refl _)⟩⟩

set_option maxHeartbeats 4000000 in
set_option maxRecDepth 100000 in
theorem plan_ok (p : Nat) (a : Option Addr) (n cap : Nat) (S : List Snap) (c : Int) (nm : ByteArray) (w : World) (h : See p a n cap S w) (hp : (found c nm true S).2 = 0) (hfit : ∀ s ∈ S, EntsFit s.2.2.2) :
    Calls Tryz.prog 26 #[.pointer (some ⟨p, 0, none⟩), .int .i64 c, .string nm] w fun e w' => AnsV w.heap.size ⟨0, 0, [], [], (snapAt S (found c nm true S).1).2.2.2⟩ e w' ∧ Below w.heap.size w w' := by
  have HP : Hid (Calls _ _ _ _ _) := find_any p a n cap S c nm true (w.alloc zero30) (h.below (Below.alloc (Below.refl _ _) (Nat.le_refl w.heap.size) zero30) (Nat.le_refl _))
  have hi := (place_some (found_ok hp).1).1
  rw [hp] at HP
  generalize (found c nm true S).1 = i at HP hi ⊢
  obtain ⟨x, ea, ec, rfl, hle, hsee⟩ := h.snap hi
  have HV : Hid (∀ W, Below w.heap.size w W → W.cell? ⟨p, 0, none⟩ = some (.slice (some x) n cap) ∧ W.cell? ⟨(x.add (i * 4)).block, (x.add (i * 4)).off + 3, none⟩ = some (.slice ea (snapAt S i).2.2.2.length ec) ∧ LiesE W ea (snapAt S i).2.2.2) := hsee
  have hf := hfit _ (snapAt_mem hi)
  generalize (snapAt S i).2.2.2 = E at HV hf hle ⊢
  obtain ⟨en, hen⟩ : ∃ en, en = E.length := ⟨_, rfl⟩
  have HC : Hid (∀ W, LiesE W ea E → Calls Tryz.prog 49 #[.slice ea en ec] W fun e w' => ∃ a3 cap3 Y, e = .returned (.slice a3 en cap3) ∧ Y.map (·.1) = E ∧ Ents W.heap.size (.slice a3 en cap3) Y W w') := fun W hl => by
    refine (copyEntries_any ea en ec E W hen hl (by have := hf.1.1; omega) fun e he => (hf.2 e he).short).mono ?_
    rintro e w' ⟨v, Y, rfl, hY, hE⟩
    obtain ⟨a3, cap3, rfl, _⟩ := hE.liesN (show en = Y.length by rw [hen, ← hY, List.length_map])
    exact ⟨a3, cap3, Y, rfl, hY, hE⟩
  rw [← hen] at HV
  have hin : i < n := by rw [h.len]; exact hi
  have hnl : n ≤ 9223372036854775807 := by have := h.le; have := h.max; unfold maxLen at this; omega
  have hix := fun w => index_snap x n cap i hin w
  clear h hp hi hfit hf hle hen hsee
  go_enter Tryz.func26, Tryz.ntmps26
  go_wp2_with fail
  refine HP.out.mono ?_
  rintro e w1 ⟨rfl, hb1⟩
  obtain ⟨_, _, hbw1, _, _⟩ := res_box hb1
  obtain ⟨c0, c3, hl⟩ := HV.out w1 hbw1
  have HB1 : Hid (Below (w.alloc zero30).heap.size (w.alloc zero30) w1) := hb1
  have HCC : Hid (Calls _ _ _ _ _) := HC.out w1 hl
  clear hb1 HP hbw1 HV HC hl
  go_wp2_with fail
  refine HCC.out.mono ?_
  rintro e w2 ⟨a3, cap3, Y, rfl, hY, hE⟩
  obtain ⟨⟨d0, d1, d2, d3, d4⟩, hf, hbw, hlt, _⟩ := res_box (HB1.out.trans (hE.2.1.mono HB1.out.size))
  have f0 := hf 0
  have f1' := hf 1
  have f2' := hf 2
  have f3 := hf 3
  have f4 := hf 4
  have HBW : Hid (Below w.heap.size w w2) := hbw
  have HYY : Hid (Y.map (·.1) = E) := hY
  have HE : Hid (EOwn w1.heap.size (.slice a3 en cap3) Y w2) := ⟨hE.1, hE.2.2.2⟩
  have HLT : Hid (w.heap.size < w1.heap.size) := (res_box HB1.out).2.2.2.1
  clear hf hbw HB1 hE hY c0 c3 HCC hix
  go_wp2
  refine bodyPost_ret (v := .agg #[.int .i64 0, .int .i64 0, .slice none 0 0, .slice none 0 0, .slice a3 en cap3]) (by simp [results, Tryz.results26, go_sem, d0, d1, d2, d3, d4]) rfl ⟨?_, ?_⟩
  · refine ⟨_, _, _, Y, rfl, World.ownsRow_nil _ _ _ _, World.ownsRow_nil _ _ _ _, HYY.out, own_any (own_far5 HE.out.1 HLT.out) (Nat.le_of_lt HLT.out), fun y hy => own_any (own_far5 (HE.out.2 y hy) HLT.out) (Nat.le_of_lt HLT.out)⟩
  · exact below_set5 HBW.out

set_option maxHeartbeats 4000000 in
set_option maxRecDepth 100000 in
theorem look_miss (p : Nat) (a : Option Addr) (n cap : Nat) (S : List Snap) (c : Int) (nm pt : ByteArray) (w : World) (h : See p a n cap S w) (hp : (found c nm true S).2 = 0) (hfit : ∀ s ∈ S, EntsFit s.2.2.2) (hno : (snapAt S (found c nm true S).1).2.2.2.find? (fun e => decide (e.1 = pt)) = none) :
    Calls Tryz.prog 25 #[.pointer (some ⟨p, 0, none⟩), .int .i64 c, .string nm, .string pt] w fun e w' => e = .returned (bareV 3 0) ∧ Below w.heap.size w w' := by
  have HP : Hid (Calls _ _ _ _ _) := find_any p a n cap S c nm true (w.alloc zero30) (h.below (Below.alloc (Below.refl _ _) (Nat.le_refl w.heap.size) zero30) (Nat.le_refl _))
  have hi := (place_some (found_ok hp).1).1
  rw [hp] at HP
  generalize (found c nm true S).1 = i at HP hi hno
  obtain ⟨x, ea, ec, rfl, hle, hsee⟩ := h.snap hi
  have HV : Hid (∀ W, Below w.heap.size w W → W.cell? ⟨p, 0, none⟩ = some (.slice (some x) n cap) ∧ W.cell? ⟨(x.add (i * 4)).block, (x.add (i * 4)).off + 3, none⟩ = some (.slice ea (snapAt S i).2.2.2.length ec) ∧ LiesE W ea (snapAt S i).2.2.2) := hsee
  have hf := hfit _ (snapAt_mem hi)
  generalize (snapAt S i).2.2.2 = E at HV hf hle hno
  obtain ⟨en, hen⟩ : ∃ en, en = E.length := ⟨_, rfl⟩
  have HC : Hid (∀ W, LiesE W ea E → Calls Tryz.prog 48 #[.slice ea en ec, .string pt] W fun e w' => e = .returned (.tuple #[.agg #[.string ⟨#[]⟩, .int .i64 0, .slice none 0 0], .iface 53 (.int .i64 3)]) ∧ Below W.heap.size W w') := fun W hl => by
    rw [hen]
    refine find_core _ ea _ ec E pt W hf.ok hl hle hf.1 (fun j hj hjp => ?_) (fun _ w' hb => ⟨rfl, hb⟩)
    rw [find_at hf.1 hj hjp] at hno
    cases hno
  rw [← hen] at HV
  have hin : i < n := by rw [h.len]; exact hi
  have hnl : n ≤ 9223372036854775807 := by have := h.le; have := h.max; unfold maxLen at this; omega
  have hix := fun w => index_snap x n cap i hin w
  clear h hp hi hfit hf hle hen hsee hno
  go_enter Tryz.func25, Tryz.ntmps25
  go_wp2_with fail
  refine HP.out.mono ?_
  rintro e w1 ⟨rfl, hb1⟩
  obtain ⟨_, _, hbw1, _, _⟩ := res_box hb1
  obtain ⟨c0, c3, hl⟩ := HV.out w1 hbw1
  have HB1 : Hid (Below (w.alloc zero30).heap.size (w.alloc zero30) w1) := hb1
  have HCC : Hid (Calls _ _ _ _ _) := HC.out w1 hl
  clear hb1 HP hbw1 HV HC hl
  go_wp2_with fail
  refine HCC.out.mono ?_
  rintro e w2 ⟨rfl, hb2⟩
  have HB2 : Hid (Below (w.alloc zero30).heap.size (w.alloc zero30) w2) := HB1.out.trans (hb2.mono HB1.out.size)
  have q1 : ∀ W, (binOp .neq 38 (.iface 53 (.int .i64 3)) .nilIface).run Tryz.prog W = .ok (.bool true) W := fun W => by kernel_rfl
  have q2 : ∀ t W, (eqGuard .neq 38 (.tmp t) (.const .nilIface) (.iface 53 (.int .i64 3)) .nilIface).run Tryz.prog W = .ok () W := fun t W => by kernel_rfl
  clear hb2 HB1 HCC c0 c3 hix
  go_wp2_with fail
  refine (refusal_any 3 _).mono ?_
  rintro e w3 ⟨rfl, hb3⟩
  obtain ⟨⟨d0, d1, d2, d3, d4⟩, hf, hbw, _, _⟩ := res_box (HB2.out.trans (((Below.refl w2.heap.size w2).alloc (Nat.le_refl _) _).trans (hb3.mono (by simp)) |>.mono HB2.out.size))
  have f0 := hf 0
  have f1' := hf 1
  have f2' := hf 2
  have f3 := hf 3
  have f4 := hf 4
  have HBW : Hid (Below w.heap.size w w3) := hbw
  clear hf hbw HB2 hb3 q1 q2
  go_wp2
  refine bodyPost_ret (v := bareV 3 0) (by simp [results, Tryz.results25, go_sem, d0, d1, d2, d3, d4]) rfl ⟨rfl, ?_⟩
  exact below_set5 HBW.out

set_option maxHeartbeats 4000000 in
set_option maxRecDepth 100000 in
theorem look_hit (p : Nat) (a : Option Addr) (n cap : Nat) (S : List Snap) (c : Int) (nm pt : ByteArray) (w : World) (en0 : Ent) (h : See p a n cap S w) (hp : (found c nm true S).2 = 0) (hfit : ∀ s ∈ S, EntsFit s.2.2.2) (hno : (snapAt S (found c nm true S).1).2.2.2.find? (fun e => decide (e.1 = pt)) = some en0) :
    Calls Tryz.prog 25 #[.pointer (some ⟨p, 0, none⟩), .int .i64 c, .string nm, .string pt] w fun e w' => AnsV w.heap.size ⟨0, en0.2.1, [], en0.2.2, []⟩ e w' ∧ Below w.heap.size w w' := by
  have HP : Hid (Calls _ _ _ _ _) := find_any p a n cap S c nm true (w.alloc zero30) (h.below (Below.alloc (Below.refl _ _) (Nat.le_refl w.heap.size) zero30) (Nat.le_refl _))
  have hi := (place_some (found_ok hp).1).1
  rw [hp] at HP
  generalize (found c nm true S).1 = i at HP hi hno
  obtain ⟨x, ea, ec, rfl, hle, hsee⟩ := h.snap hi
  have HV : Hid (∀ W, Below w.heap.size w W → W.cell? ⟨p, 0, none⟩ = some (.slice (some x) n cap) ∧ W.cell? ⟨(x.add (i * 4)).block, (x.add (i * 4)).off + 3, none⟩ = some (.slice ea (snapAt S i).2.2.2.length ec) ∧ LiesE W ea (snapAt S i).2.2.2) := hsee
  have hf := hfit _ (snapAt_mem hi)
  generalize (snapAt S i).2.2.2 = E at HV hf hle hno
  obtain ⟨en, hen⟩ : ∃ en, en = E.length := ⟨_, rfl⟩
  obtain ⟨kn, hkn⟩ : ∃ kn, kn = en0.2.2.length := ⟨_, rfl⟩
  have HC : Hid (∀ W, LiesE W ea E → Calls Tryz.prog 48 #[.slice ea en ec, .string pt] W fun e w' => ∃ a3 cap3, e = .returned (.tuple #[.agg #[.string pt, .int .i64 en0.2.1, .slice a3 kn cap3], .nilIface]) ∧ Strs W.heap.size (.slice a3 kn cap3) en0.2.2 W w') := fun W hl => by
    rw [hen]
    refine find_core _ ea _ ec E pt W hf.ok hl hle hf.1 (fun j hj hjp v w' hst => ?_) (fun hm _ _ => ?_)
    · rw [find_at hf.1 hj hjp] at hno
      simp only [Option.some.injEq] at hno
      rw [hno] at hst ⊢
      obtain ⟨a3, cap3, rfl, _⟩ := hst.liesN hkn
      exact ⟨a3, cap3, rfl, hst⟩
    · rw [find_not hm] at hno
      cases hno
  rw [← hen] at HV
  have hin : i < n := by rw [h.len]; exact hi
  have hnl : n ≤ 9223372036854775807 := by have := h.le; have := h.max; unfold maxLen at this; omega
  have hix := fun w => index_snap x n cap i hin w
  generalize en0.2.1 = sz at *
  generalize en0.2.2 = ks at *
  clear h hp hi hfit hf hle hen hsee hno
  go_enter Tryz.func25, Tryz.ntmps25
  go_wp2_with fail
  refine HP.out.mono ?_
  rintro e w1 ⟨rfl, hb1⟩
  obtain ⟨_, _, hbw1, _, _⟩ := res_box hb1
  obtain ⟨c0, c3, hl⟩ := HV.out w1 hbw1
  have HB1 : Hid (Below (w.alloc zero30).heap.size (w.alloc zero30) w1) := hb1
  have HCC : Hid (Calls _ _ _ _ _) := HC.out w1 hl
  have HKN : Hid (kn = ks.length) := hkn
  clear hb1 HP hbw1 HV HC hl hkn
  go_wp2_with fail
  refine HCC.out.mono ?_
  rintro e w2 ⟨a3, cap3, rfl, hst⟩
  have HST : Hid (Strs w1.heap.size (.slice a3 kn cap3) ks w1 w2) := hst
  have q1 : ∀ W, (binOp .neq 38 .nilIface .nilIface).run Tryz.prog W = .ok (.bool false) W := fun W => by kernel_rfl
  obtain ⟨⟨d0, d1, d2, d3, d4⟩, hf, hbw, hlt2, _⟩ := res_box (HB1.out.trans (hst.2.1.mono HB1.out.size))
  have f0 := hf 0
  have f1' := hf 1
  have f2' := hf 2
  have f3 := hf 3
  have f4 := hf 4
  have HBW : Hid (Below w.heap.size w w2) := hbw
  have HLT : Hid (w.heap.size < w1.heap.size) := (res_box HB1.out).2.2.2.1
  clear hf hbw HB1 hst HCC hix c0 c3
  go_wp2
  refine bodyPost_ret (v := .agg #[.int .i64 0, .int .i64 sz, .slice none 0 0, .slice a3 kn cap3, .slice none 0 0]) (by simp [results, Tryz.results25, go_sem, hlt2, d0, d1, d2, d3, d4]) rfl ⟨?_, ?_⟩
  · refine ⟨_, _, _, [], rfl, World.ownsRow_nil _ _ _ _, own_any ((own_far5 HST.out.1 HLT.out).alloc _) (Nat.le_of_lt HLT.out), rfl, EOwn.nil _ _⟩
  · exact (below_set5 HBW.out).alloc (below_set5 HBW.out).size _
end Go.Proofs.YtlpgdfdadkljfaaGreat.Cat
