/-
  The walk of ImageGets.
-/
import Derived.Test.YtlpgdfdadkljfaaImRGetW
import Derived.Test.YtlpgdfdadkljfaaImUp
import Derived.Test.YtlpgdfdadkljfaaCtSame
namespace Go.Proofs.Ytlpgdfdadkljfaa.Img
open Go.RowKit Route Tree Order Cat

theorem lies_old {w : World} {a : Option Addr} {l : List UInt8} (h : Go.Proofs.Ytlpgdfdadkljfaa.Lies w a l) : l = [] ∨ ∀ y, a = some y → y.block < w.heap.size := by
  rcases h with h | ⟨x, rfl, h⟩
  · exact .inl h
  · cases l with
    | nil => exact .inl rfl
    | cons b r =>
      refine .inr fun y hy => ?_
      cases hy
      have := World.block_lt_of_cell? w _ (h 0 _ rfl)
      rwa [show (x.add 0).block = x.block from rfl] at this
theorem inv_fewG {S : List Snap} (h : Inv S) : ∀ s ∈ S, SFew s := inv_few fun s hs => ⟨by have := (treeL_iff.1 (h.tree s hs)).1; omega, fun e he => by have := (h.ents s hs e he).2.1; omega⟩
theorem eqPtr0 (w : World) : (binOp .eql 25 (.pointer none) (.pointer none)).run Try.prog w = .ok (.bool true) w := by kernel_rfl

set_option maxHeartbeats 16000000 in
set_option maxRecDepth 100000 in
theorem imageGets_main (a : Option Addr) (n cap : Nat) (l : List UInt8) (w : World) (hn : n = l.length) (hl : Go.Proofs.Ytlpgdfdadkljfaa.Lies w a l) (hc : n ≤ cap) (hcm : cap ≤ maxLen) (ho : l = [] ∨ ∀ y, a = some y → y.block < w.heap.size) :
    Calls Try.prog 4 #[.slice a n cap] w fun e w' => e = .returned (.bool true) ∧ Below w.heap.size w w' := by
  have HN : Hid (n = l.length) := hn
  have HL : Hid (Go.Proofs.Ytlpgdfdadkljfaa.Lies w a l ∧ n ≤ cap ∧ cap ≤ maxLen ∧ (l = [] ∨ ∀ y, a = some y → y.block < w.heap.size)) := ⟨hl, hc, hcm, ho⟩
  have HU : Hid (Calls _ _ _ _ _) := up_any w
  have q1 := ee0
  have q2 := ee2
  have q3 := eqPtr0
  clear hn hl hc hcm ho
  go_enter Try.func4, Try.ntmps4
  go_wp2_with fail
  refine HU.out.mono ?_
  rintro e w1 ⟨rfl, hb1⟩
  have HB1 : Hid (Below w.heap.size w w1) := hb1
  clear HU hb1
  by_cases hbig : 20000 < n
  · go_wp2
    go_ret
    exact ⟨by rfl, HB1.out⟩
  have hsm : n ≤ 20000 := by omega
  have HBy : Hid (∀ W, Below w.heap.size w W → Go.Proofs.Ytlpgdfdadkljfaa.Lies W a l ∧ n ≤ cap ∧ cap ≤ maxLen ∧ (l = [] ∨ ∀ y, a = some y → y.block < W.heap.size)) := fun W hb => ⟨Go.Proofs.Ytlpgdfdadkljfaa.Lies.below HL.out.1 hb (Nat.le_refl _), HL.out.2.1, HL.out.2.2.1, HL.out.2.2.2.imp id fun h y hy => Nat.lt_of_lt_of_le (h y hy) hb.size⟩
  have HG : Hid (Calls _ _ _ _ _) := get_any a n cap l w1 HN.out (HBy.out w1 HB1.out).1 (by omega) (HBy.out w1 HB1.out).2.1 (HBy.out w1 HB1.out).2.2.1 (HBy.out w1 HB1.out).2.2.2
  go_wp2_with fail
  refine HG.out.mono ?_
  rintro e w2 hg
  clear HG HL
  have hb2 : Below w1.heap.size w1 w2 := by
    rcases hg with ⟨_, p, v, Z, _, _, _, _, hb⟩ | ⟨_, _, hb⟩
    · exact hb
    · exact hb
  have HB2 : Hid (Below w.heap.size w w2) := HB1.out.trans (hb2.mono HB1.out.size)
  clear hb2
  have HQ : Hid (Calls _ _ _ _ _) := refGet_any a n cap l w2 HN.out (HBy.out w2 HB2.out).1 hsm (HBy.out w2 HB2.out).2.1 (HBy.out w2 HB2.out).2.2.1 (HBy.out w2 HB2.out).2.2.2
  rcases hg with ⟨hy, p, v, Z, rfl, hZ, hC, hp, -⟩ | ⟨hy, rfl, -⟩
  · have HY : Hid ((decR l).2.2 = false ∧ l.length ≤ (decR l).2.1 ∧ May (decR l).1) := hy
    have HZ : Hid (Z.map snapOf = (decR l).1) := hZ
    have HC : Hid (Cat p p v Z w2) := hC
    clear hy hZ hC
    go_wp2_with fail
    refine HQ.out.mono ?_
    rintro e w3 hq
    rcases hq with ⟨hy2, v2, Z2, rfl, hZ2, hR2, hb3⟩ | ⟨hn2, _, _⟩
    case inr => exact absurd (both_read.1 HY.out) hn2
    have HI : Hid (Inv (Z.map snapOf)) := by show Inv _; rw [HZ.out]; exact May.inv HY.out.2.2
    have HE : Hid (Z2.map snapOf = Z.map snapOf) := by show _ = _; rw [hZ2, HZ.out]; exact both_same HY.out
    have HB3 : Hid (Below w.heap.size w w3) := HB2.out.trans (hb3.mono HB2.out.size)
    obtain ⟨a2, c2, rfl, hl2⟩ := hR2.sees
    rw [HE.out] at hl2
    have hlen : Z2.length = Z.length := by have := congrArg List.length HE.out; simpa using this
    rw [hlen]
    obtain ⟨a0, n0, c0, rfl, hs⟩ := (HC.out.below hb3).see
    have hs64 : (Z.map snapOf).length ≤ 64 := inv_len HI.out
    have HSN : Hid (Calls _ _ _ _ _) := snaps_any p a0 n0 c0 _ w3 hs (by have := hs.len; omega) HI.out.short
    have HL2 : Hid (LiesN w3 a2 (Z.map snapOf)) := hl2
    obtain ⟨zn, hzn⟩ : ∃ zn, zn = Z.length := ⟨_, rfl⟩
    rw [← hzn]
    have HZN : Hid (zn = (Z.map snapOf).length) := by show _ = _; rw [hzn]; simp
    have hz64 : zn ≤ 64 := by have := HZN.out; omega
    clear hl2 hR2 hZ2 hy2 hb3 hlen hs hzn hs64
    go_wp2_with (first
      | (go_at_call 17; refine HSN.out.mono ?_; rintro e w4 ⟨v4, Z4, rfl, hZ4, hR4, hb4⟩; obtain ⟨a4, c4, rfl, hl4⟩ := hR4.sees; rw [hZ4] at hl4; have hlen4 : Z4.length = zn := (by have := congrArg List.length hZ4; have := HZN.out; simp at *; omega); rw [hlen4]; have HSM : Hid (Calls _ _ _ _ _) := sameS_yes a4 a2 zn c4 c2 (Z.map snapOf) w4 HZN.out hl4 (HL2.out.below hb4 (Nat.le_refl _)) (by omega) (inv_fewG HI.out); have HB4 : Hid (Below w.heap.size w w4) := HB3.out.trans (hb4.mono HB3.out.size))
      | (go_at_call 16; refine HSM.out.mono ?_; rintro e w5 ⟨rfl, hb5⟩; have HB5 : Hid (Below w.heap.size w w5) := HB4.out.trans (hb5.mono HB4.out.size)))
    go_ret
    exact ⟨by rfl, HB5.out⟩
  · have HY : Hid (¬ ((decR l).2.2 = false ∧ l.length ≤ (decR l).2.1 ∧ May (decR l).1)) := hy
    clear hy
    go_wp2_with fail
    refine HQ.out.mono ?_
    rintro e w3 hq
    rcases hq with ⟨hy2, _, _, _, _, _, _⟩ | ⟨_, rfl, hb3⟩
    case inl => exact absurd (both_read.2 hy2) HY.out
    have HB3 : Hid (Below w.heap.size w w3) := HB2.out.trans (hb3.mono HB2.out.size)
    clear hb3
    go_wp2
    go_ret
    exact ⟨by rfl, HB3.out⟩

theorem imageGets_walk (ab : Option Addr) (lb : List UInt8) (nb cb : Nat) (w : World) (hnb : nb = lb.length) (hlb : Go.Proofs.Ytlpgdfdadkljfaa.Lies w ab lb) (hcb : nb ≤ cb) (hcm : cb ≤ maxLen) (_ : ab = none → cb = 0) :
    Calls Try.prog 4 #[.slice ab nb cb] w fun e w' => e = .returned (.bool true) ∧ Below w.heap.size w w' :=
  imageGets_main ab nb cb lb w hnb hlb hcb hcm (lies_old hlb)
end Go.Proofs.Ytlpgdfdadkljfaa.Img
