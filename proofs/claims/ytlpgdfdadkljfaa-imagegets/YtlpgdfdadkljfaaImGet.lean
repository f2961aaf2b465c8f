/-
  Rows of snapshots read; Get.
-/
import Derived.Test.YtlpgdfdadkljfaaImRead3
import Derived.Test.YtlpgdfdadkljfaaImPut
namespace Go.Proofs.Ytlpgdfdadkljfaa.Img
open Go.RowKit Route Tree Order Cat

theorem SRow.keep {B : Nat} {v : Value} {Z : List SZ} {w w' : World} (h : SRow B v Z w) (hk : ∀ g, B ≤ g → g < w.heap.size → w'.heap[g]? = w.heap[g]?) : SRow B v Z w' :=
  ⟨row_keep h.own hk, fun z hz => ⟨row_keep (h.ents z hz).1 hk, fun y hy => row_keep ((h.ents z hz).2 y hy) hk⟩, h.apart⟩
theorem snapsR_step (l : List UInt8) (k : Nat) (s : St) : snapsR l (k + 1) s = ((snapR l s).1 :: (snapsR l k (snapR l s).2).1, (snapsR l k (snapR l s).2).2) := rfl

/-- What stands while snapshots are read. -/
structure Sn (w W : World) (p : Nat) (a : Option Addr) (n cap : Nat) (l : List UInt8) (x : Nat) (f : Bool) (v : Value) (Z : List SZ) : Prop where
  rd : Rd 67 W p a n cap l x f
  tn : Tn p w W
  row : SRow w.heap.size v Z W
  old : p < w.heap.size

theorem Sn.next {w W W' : World} {p : Nat} {a : Option Addr} {n cap : Nat} {l : List UInt8} {x x' : Nat} {f f' : Bool} {v : Value} {Z : List SZ} {z : SZ} (h : Sn w W p a n cap l x f v Z) (hr : Rd 67 W' p a n cap l x' f' ∧ Tn p W W' ∧ ERow W.heap.size W' z) :
    Sn w W' p a n cap l x' f' v Z ∧ ERow w.heap.size W' z ∧ ∀ y ∈ Z, Apart y z := by
  have hb := h.tn.size
  have ho := h.old
  have hrow := SRow.keep h.row (w' := W') fun g h1 h2 => hr.2.1.block g h2 (by omega)
  refine ⟨⟨hr.1, h.tn.trans hr.2.1, hrow, ho⟩, ⟨own_any hr.2.2.1 hb, fun y hy => own_any (hr.2.2.2 y hy) hb⟩, fun y hy => ?_⟩
  unfold Apart
  cases hbk : y.2.2.2.1.ownBlock with
  | none => exact .inl rfl
  | some g =>
    right
    intro e
    have h1 := ((h.row.ents y hy).1.lt g hbk).2
    have h2 := (hr.2.2.1.lt g e.symm).1
    omega

theorem Sn.grown {w W W1 W' : World} {p : Nat} {a : Option Addr} {n cap : Nat} {l : List UInt8} {x : Nat} {f : Bool} {v v' : Value} {Z Z' : List SZ} (h : Sn w W p a n cap l x f v Z) (hb : Below W.heap.size W W1) (hr : SRow w.heap.size v' Z' W') (hg : W1.grownBy W' v.ownBlock) : Sn w W' p a n cap l x f v' Z' := by
  have ho := h.old
  have hs := h.tn.size
  have hk : ∀ k, k < w.heap.size → W'.heap[k]? = W.heap[k]? := fun k hk => by
    refine (hg.block k (by have := hb.size; omega) fun e => ?_).trans (hb.block k (by omega))
    have := (h.row.own.lt k e.symm).1
    omega
  exact ⟨h.rd.keep fun k hk' => hk k (by omega), ⟨(hg.os.trans hb.os).trans h.tn.os, (hg.tape.trans hb.tape).trans h.tn.tape, (hg.output.trans hb.output).trans h.tn.output, by have := hb.size; have := hg.size; omega, fun k h1 h2 => (hk k h1).trans (h.tn.block k h1 h2)⟩, hr, ho⟩

set_option maxHeartbeats 4000000 in
set_option maxRecDepth 100000 in
theorem snaps_call {w : World} {p : Nat} {a : Option Addr} {n cap : Nat} {l : List UInt8} (h : Rd 67 w p a n cap l 0 false) :
    Calls Try.prog 29 #[.pointer (some ⟨p, 0, none⟩)] w fun e w' => ∃ v Z, e = .returned v ∧ Hid (Z.map snapOf = (decR l).1 ∧ Sn w w' p a n cap l (decR l).2.1 (decR l).2.2 v Z) := by
  unfold decR
  generalize ea : num l 64 0 false = J
  have hJ : J.1 ≤ 64 ∧ J.2.1 ≤ l.length := by rw [← ea]; exact num_le (Nat.zero_le _)
  have HJ2 : Hid (J.2.1 ≤ l.length) := hJ.2
  have hJ1 := hJ.1
  have hp := h.lt
  have N0 : Hid (Calls _ _ _ _ _) := num_named h 64 (by omega) J ea
  clear ea h hJ
  go_enter Try.func29, Try.ntmps29
  go_wp2_with fail
  refine N0.out.mono ?_
  rintro e w1 ⟨rfl, hr⟩
  have HI : Hid (Sn w w1 p a n cap l J.2.1 J.2.2 (.slice none 0 0) []) := ⟨hr.out.1, hr.out.2, SRow.nil _ _, hp⟩
  clear N0 hr
  go_wp2
  go_loopw [3, 6] (fun t3 t6 wr => ∃ (j : Nat) (v3 : Value), v3 = t3 ∧ t6 = .int .i64 (j : Int) ∧ j ≤ J.1 ∧ Hid (∃ (Z : List SZ) (x : Nat) (f : Bool), Z.length = j ∧ x ≤ l.length ∧ Sn w wr p a n cap l x f v3 Z ∧ snapsR l J.1 J.2 = (Z.map snapOf ++ (snapsR l (J.1 - j) (x, f)).1, (snapsR l (J.1 - j) (x, f)).2))) (fun _ t6 _ => J.1 - (intOf t6).toNat)
  case atStart => exact ⟨0, _, rfl, rfl, Nat.zero_le _, [], J.2.1, J.2.2, rfl, HJ2.out, HI.out, rfl⟩
  case round =>
    obtain ⟨j, v3, rfl, rfl, hj, HR⟩ := hrel
    clear HI
    obtain ⟨Z, x, f, hks, hxl, hS, htx⟩ := HR.out
    have HS : Hid (Sn _ _ _ _ _ _ _ _ _ _ _) := hS
    have HT : Hid (_ = _) := htx
    have HK : Hid (Z.length = j) := hks
    have HXL : Hid (x ≤ l.length) := hxl
    by_cases hlt : j < J.1
    · have HCL : Hid (Calls _ _ _ _ _) := snap_call hS.rd hxl
      clear hS htx hks HR hxl
      go_wp2_with (first
        | (go_at_call 47; refine HCL.out.mono ?_; rintro e w5 ⟨z, rfl, hz⟩; obtain ⟨P1, P2, P3⟩ := HS.out.next hz.out.2)
        | (at_builtin; refine wpList_snap rfl (.tmp 8) (.tmp 11) rfl w.heap.size _ Z rfl w5 z P1.row P1.tn.size P2 P3 rfl (by have := HK.out; omega) ?_; intro v' w6 hb6 hg6))
      have HN : Hid (Sn w w6 p a n cap l (snapR l (x, f)).2.1 (snapR l (x, f)).2.2 v' (Z ++ [z])) := P1.grown ((Below.refl _ _).alloc (Nat.le_refl _) _) hb6.out hg6.out
      have HZ : Hid (snapOf z = (snapR l (x, f)).1) := hz.out.1
      clear P1 P2 P3 hb6 hg6 hz HCL
      go_roundw
      case rel =>
        refine ⟨j + 1, v', rfl, by go_num, by omega, Z ++ [z], _, _, by rw [List.length_append, HK.out]; rfl, (snapR_rds l (x, f) HXL.out HXL.out).1, HN.out, ?_⟩
        have e1 : J.1 - j = (J.1 - (j + 1)) + 1 := by omega
        rw [HT.out, e1, snapsR_step, List.map_append, ← HZ.out]
        simp
      case measure => simp [intOf]; omega
    · have ej : J.1 - j = 0 := by omega
      have htx2 : snapsR l J.1 J.2 = (Z.map snapOf, x, f) := by rw [HT.out, ej]; simp [snapsR]
      have HT2 : Hid (snapsR l J.1 J.2 = (Z.map snapOf, x, f)) := htx2
      clear htx2 ej HR hS htx hks hxl
      go_wp2
      go_ret
      refine ⟨_, Z, rfl, ?_⟩
      rw [HT2.out]
      exact ⟨rfl, HS.out⟩

/-- What Get comes to. -/
def Got (l : List UInt8) (w : World) (e : Ending) (w' : World) : Prop :=
  (((decR l).2.2 = false ∧ l.length ≤ (decR l).2.1 ∧ May (decR l).1) ∧ ∃ p v Z, e = .returned (.tuple #[.pointer (some ⟨p, 0, none⟩), .nilIface]) ∧ Z.map snapOf = (decR l).1 ∧ Cat p p v Z w' ∧ w.heap.size ≤ p ∧ Below w.heap.size w w') ∨
  (¬ ((decR l).2.2 = false ∧ l.length ≤ (decR l).2.1 ∧ May (decR l).1) ∧ e = .returned (.tuple #[.pointer none, .iface 36 (.int .i64 2)]) ∧ Below w.heap.size w w')

theorem eqCode1 (w : World) : (binOp .neq 27 (.iface 36 (.int .i64 1)) .nilIface).run Try.prog w = .ok (.bool true) w := by kernel_rfl
theorem eqNil0 (w : World) : (binOp .neq 27 .nilIface .nilIface).run Try.prog w = .ok (.bool false) w := by kernel_rfl

theorem texs_small {l : List UInt8} {m : Nat} : ∀ (k p : Nat) (f : Bool), p ≤ l.length → ∀ s ∈ (texs l m k p f).1, s.size ≤ m
  | 0, p, f, _, s, hs => by simp [texs] at hs
  | k + 1, p, f, hp, s, hs => by
    have h1 := tex_le (m := m) (f := f) hp
    rcases List.mem_cons.1 (show s ∈ (tex l m p f).1 :: (texs l m k (tex l m p f).2.1 (tex l m p f).2.2).1 from hs) with rfl | hs
    · exact h1.1
    · exact texs_small k _ _ h1.2 s hs
theorem entR_short {l : List UInt8} {s : St} (hs : s.1 ≤ l.length) : shortE (entR l s).1 := by
  unfold entR
  simp only
  have h1 := tex_le (m := 4096) (f := s.2) hs
  generalize tex l 4096 s.1 s.2 = a at *
  have h2 := num_le (m := 1024) (f := a.2.2) h1.2
  generalize num l 1024 a.2.1 a.2.2 = b at *
  have h3 := num_le (m := 16) (f := b.2.2) h2.2
  generalize num l 16 b.2.1 b.2.2 = c at *
  have h4 := texs_small (m := 64) c.1 c.2.1 c.2.2 h3.2
  have h5 := texs_cnt l 64 c.1 c.2.1 c.2.2
  refine ⟨by simp only; omega, by simp only; omega, fun k hk => ?_⟩
  simp only at hk ⊢
  have := h4 ((texs l 64 c.1 c.2.1 c.2.2).1.getD k ByteArray.empty) (by simp [List.getD_eq_getElem?_getD, hk])
  omega
theorem entsR_short {l : List UInt8} : ∀ (k : Nat) (s : St), s.1 ≤ l.length → ∀ e ∈ (entsR l k s).1, shortE e
  | 0, s, _, e, he => by simp [entsR] at he
  | k + 1, s, hs, e, he => by
    rcases List.mem_cons.1 (show e ∈ (entR l s).1 :: (entsR l k (entR l s).2).1 from he) with rfl | he
    · exact entR_short hs
    · exact entsR_short k _ (entR_rds l s hs).1 e he
theorem snapR_given {l : List UInt8} {s : St} (hs : s.1 ≤ l.length) : SGiven (snapR l s).1 := by
  unfold snapR
  simp only
  have h1 := num_le (m := 7) (f := s.2) hs
  generalize num l 7 s.1 s.2 = a at *
  have h2 := tex_le (m := 4096) (f := a.2.2) h1.2
  generalize tex l 4096 a.2.1 a.2.2 = b at *
  have h3 := num_le (m := 1) (f := b.2.2) h2.2
  generalize num l 1 b.2.1 b.2.2 = c at *
  have h4 := num_le (m := 32) (f := c.2.2) h3.2
  generalize num l 32 c.2.1 c.2.2 = d at *
  have h5 := entsR_short d.1 d.2 h4.2
  have h6 := entsR_cnt l d.1 d.2
  refine ⟨by simp only; omega, rfl, by simp only; omega, fun j hj => ?_⟩
  simp only at hj ⊢
  exact h5 _ (ent_mem hj)
theorem snapsR_given {l : List UInt8} : ∀ (k : Nat) (s : St), s.1 ≤ l.length → ∀ x ∈ (snapsR l k s).1, SGiven x
  | 0, s, _, e, he => by simp [snapsR] at he
  | k + 1, s, hs, e, he => by
    rcases List.mem_cons.1 (show e ∈ (snapR l s).1 :: (snapsR l k (snapR l s).2).1 from he) with rfl | he
    · exact snapR_given hs
    · exact snapsR_given k _ (snapR_rds l s hs hs).1 e he
theorem decR_given (l : List UInt8) : (decR l).1.length ≤ 64 ∧ ∀ s ∈ (decR l).1, SGiven s := by
  unfold decR
  have h1 := num_le (l := l) (m := 64) (p := 0) (f := false) (Nat.zero_le _)
  refine ⟨by rw [snapsR_cnt]; exact h1.1, snapsR_given _ _ h1.2⟩
theorem decR_le (l : List UInt8) : (decR l).2.1 ≤ l.length := by
  unfold decR
  have h1 := num_le (l := l) (m := 64) (p := 0) (f := false) (Nat.zero_le _)
  exact (snapsR_rds l _ _ h1.2 h1.2).1

set_option maxHeartbeats 4000000 in
set_option maxRecDepth 100000 in
theorem get_any (a : Option Addr) (n cap : Nat) (l : List UInt8) (w : World) (hn : n = l.length) (hl : Go.Proofs.Ytlpgdfdadkljfaa.Lies w a l) (hm : n ≤ 100000000) (hc : n ≤ cap) (hcm : cap ≤ maxLen) (ho : l = [] ∨ ∀ y, a = some y → y.block < w.heap.size) :
    Calls Try.prog 14 #[.slice a n cap] w (Got l w) := by
  obtain ⟨W1, hW1⟩ : ∃ W1, W1 = w.alloc (.cells #[.slice a n cap, .int .i64 0, .bool false] 67) := ⟨_, rfl⟩
  have HW1 : Hid (W1 = _) := hW1
  have HBW : Hid (Below w.heap.size w W1) := by rw [hW1]; exact (Below.refl _ _).alloc (Nat.le_refl _) _
  have hR : Rd 67 W1 w.heap.size a n cap l 0 false := ⟨by rw [hW1]; exact (MapKept.heap_alloc w _).1, hn, Go.Proofs.Ytlpgdfdadkljfaa.Lies.below hl HBW.out (Nat.le_refl _), hm, hc, hcm, Nat.zero_le _, ho⟩
  have C1 : Hid (Calls _ _ _ _ _) := snaps_call hR
  have q1 := eqCode1
  have q2 := eqNil0
  have HN : Hid (n = l.length) := hn
  have HGV : Hid ((decR l).1.length ≤ 64 ∧ ∀ s ∈ (decR l).1, SGiven s) := decR_given l
  have HLE : Hid ((decR l).2.1 ≤ l.length) := decR_le l
  have HNo : Hid (∀ e w', ¬ ((decR l).2.2 = false ∧ n ≤ (decR l).2.1 ∧ May (decR l).1) → e = .returned (.tuple #[.pointer none, .iface 36 (.int .i64 2)]) → Below w.heap.size w w' → Got l w e w') := fun e w' h1 h2 h3 => .inr ⟨by rw [← hn]; exact h1, h2, h3⟩
  have HYes : Hid (∀ e w', ((decR l).2.2 = false ∧ n ≤ (decR l).2.1 ∧ May (decR l).1) → (∃ p v Z, e = .returned (.tuple #[.pointer (some ⟨p, 0, none⟩), .nilIface]) ∧ Z.map snapOf = (decR l).1 ∧ Cat p p v Z w' ∧ w.heap.size ≤ p ∧ Below w.heap.size w w') → Got l w e w') := fun e w' h1 h2 => .inl ⟨by rw [← hn]; exact h1, h2⟩
  generalize decR l = D at *
  obtain ⟨S, x, f⟩ := D
  simp only at C1 HGV HLE HNo HYes
  clear hn hl ho hR hW1
  go_enter Try.func14, Try.ntmps14
  go_wp2_with fail
  rw [← HW1.out]
  refine C1.out.mono ?_
  rintro e w2 ⟨v, Z, rfl, hS⟩
  obtain ⟨hZ, hSn⟩ := hS.out
  obtain ⟨a0, c0, rfl, hlz⟩ := hSn.row.sees
  rw [hZ] at hlz
  obtain ⟨n0, hn0⟩ : ∃ n0, n0 = Z.length := ⟨_, rfl⟩
  have HZN : Hid (n0 = S.length) := by show _ = _; rw [hn0, ← hZ]; simp
  rw [← hn0]
  have HB2 : Hid (Below w.heap.size w w2) := HBW.out.trans (hSn.tn.below (Nat.le_refl _) HBW.out.size)
  have HL2 : Hid (LiesN w2 a0 S) := hlz
  obtain ⟨⟨b0, b1, b2⟩, _⟩ := cells3 hSn.rd.box
  have hxn : x ≤ n := by rw [HN.out]; exact HLE.out
  clear hS hSn hZ hn0 hlz C1
  cases f with
  | true =>
    go_wp2
    go_ret2
    exact HNo.out _ _ (fun h => by cases h.1) rfl HB2.out
  | false =>
    by_cases hxl : x < n
    · go_wp2
      go_ret2
      exact HNo.out _ _ (fun h => by have := h.2.1; omega) rfl HB2.out
    · have C2 : Hid (Calls _ _ _ _ _) := from_any a0 n0 c0 S w2 HZN.out HL2.out (by have := HGV.out.1; have := HZN.out; omega) HGV.out.2
      have hxe : n ≤ x := by omega
      go_wp2_with fail
      refine C2.out.mono ?_
      rintro e w3 hF
      rcases hF with ⟨hMay, v3, Z3, rfl, hZ3, hC3, hB3⟩ | ⟨hMay, rfl, hB3⟩
      · go_wp2
        go_ret2
        exact HYes.out _ _ ⟨by first | rfl | trivial, hxe, hMay⟩ ⟨_, v3, Z3, rfl, hZ3, hC3, HB2.out.size, HB2.out.trans (hB3.mono HB2.out.size)⟩
      · have HB3 : Hid (Below w.heap.size w w3) := HB2.out.trans (hB3.mono HB2.out.size)
        have HM : Hid (¬ May S) := hMay
        clear hB3 hMay
        go_wp2
        go_ret2
        exact HNo.out _ _ (fun h => HM.out h.2.2) rfl HB3.out
end Go.Proofs.Ytlpgdfdadkljfaa.Img
