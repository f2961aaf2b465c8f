/-
  Do, whole.
-/
import Derived.Test.YtlpgdfdadkljfaaGreatCtDo2
import Derived.Test.YtlpgdfdadkljfaaGreatCtAdd3
namespace Go.Proofs.YtlpgdfdadkljfaaGreat.Cat
open Go.RowKit Route Tree Order

theorem add_mid {B p : Nat} {v : Value} {Z : List SZ} {c m : Int} {nm pt : ByteArray} {ka : Option Addr} {kn kc : Nat} {ks : List ByteArray} {W : World} (h : Cat B p v Z W) (hB : B ≤ W.heap.size) (hI : Inv (Z.map snapOf)) (hk : KeysAt W ka kn kc ks) (hmay : may ⟨c, 1, 2, m, nm, pt, ks⟩ = true) :
    Calls Tryz.prog 21 #[.pointer (some ⟨p, 0, none⟩), .int .i64 c, opV 2 nm pt ka kn kc m] W (Mid B p v Z W (step (Z.map snapOf) ⟨c, 1, 2, m, nm, pt, ks⟩)) := by
  have hok := may_ok hmay
  have hkl : ks.length ≤ 16 := hok.kl
  have hpt : pt.size ≤ 520 := hok.pt
  have hks : ∀ s ∈ ks, 1 ≤ s.size ∧ s.size ≤ 64 := hok.ks
  have hlen := hk.len
  obtain ⟨a, n, cap, _, hs⟩ := h.see
  have hst : step (Z.map snapOf) ⟨c, 1, 2, m, nm, pt, ks⟩ = if (found c nm false (Z.map snapOf)).2 ≠ 0 then (no (found c nm false (Z.map snapOf)).2, Z.map snapOf) else if fault (snapAt (Z.map snapOf) (found c nm false (Z.map snapOf)).1).2.2.2 pt (keysSize ks) ≠ 0 then (no (fault (snapAt (Z.map snapOf) (found c nm false (Z.map snapOf)).1).2.2.2 pt (keysSize ks)), Z.map snapOf) else (no 0, (Z.map snapOf).set (found c nm false (Z.map snapOf)).1 (c, nm, false, putE (snapAt (Z.map snapOf) (found c nm false (Z.map snapOf)).1).2.2.2 (pt, (keysSize ks : Int), ks))) := by simp [step, hmay]
  rw [hst]
  by_cases h1 : (found c nm false (Z.map snapOf)).2 ≠ 0
  · rw [if_pos h1]
    exact (add_no p a n cap _ c 2 m nm pt ka kn kc W hs h1).mono fun e w' he => mid_no h he.1 he.2
  rw [if_neg h1]
  refine add_core _ B p v Z c 2 m nm pt ka kn kc ks W h hB (by omega) hk (by omega) (fun j hj => ?_) (by omega) (fun s hs => ⟨hI.tree s hs, hI.ents s hs⟩) (fun hf w' hb => ?_) (fun hf v' z' w' hz hN => ?_)
  · have : (ks.getD j ByteArray.empty) ∈ ks := by simp [List.getD_eq_getElem?_getD, hj]
    have := (hks _ this).2
    omega
  · rw [if_pos hf]
    exact mid_no h rfl hb
  · rw [if_neg (by omega)]
    exact ⟨v', _, hN, by rw [List.map_set, hz], AnsV.no (c := 0)⟩

theorem below_box2 (w : World) (a b : Obj) : Below w.heap.size w ((w.alloc a).alloc b) := ((Below.refl _ _).alloc (Nat.le_refl w.heap.size) _).alloc (by simp) _

/-- Do, of every kind but the ninth. -/
theorem do_any {B p : Nat} {v : Value} {Z : List SZ} {c k m : Int} {nm pt : ByteArray} {ka : Option Addr} {kn kc : Nat} {ks : List ByteArray} {w : World} (h : Cat B p v Z w) (hB : B ≤ w.heap.size) (hI : Inv (Z.map snapOf)) (hl : Z.length ≤ 64) (hnm : nm.size ≤ 100000) (hpt : pt.size ≤ 100000) (hk : KeysAt w ka kn kc ks) (h9 : k ≠ 9 ∨ may ⟨c, 1, k, m, nm, pt, ks⟩ = false) :
    Calls Tryz.prog 9 #[.pointer (some ⟨p, 0, none⟩), .int .i64 c, opV k nm pt ka kn kc m] w (Mid B p v Z w (step (Z.map snapOf) ⟨c, 1, k, m, nm, pt, ks⟩)) := by
  cases hmay : may ⟨c, 1, k, m, nm, pt, ks⟩ with
  | false =>
    have hst : step (Z.map snapOf) ⟨c, 1, k, m, nm, pt, ks⟩ = (no 1, Z.map snapOf) := by simp [step, hmay]
    rw [hst]
    exact (do_no p c k m nm pt ka kn kc ks w hnm hpt hk hmay).mono fun e w' he => mid_no (c := 1) h he.1 he.2
  | true =>
    have hok := may_ok hmay
    have hk1 : 1 ≤ k ∧ k ≤ 9 := hok.k
    have hm : 0 ≤ m ∧ m ≤ 100 := hok.n
    have h9' : k ≠ 9 := h9.resolve_right (by rw [hmay]; decide)
    have hW : ∀ {W : World}, Below (W2of w k nm pt ka kn kc m).heap.size (W2of w k nm pt ka kn kc m) W → Cat B p v Z W ∧ B ≤ W.heap.size ∧ KeysAt W ka kn kc ks := fun {W} hb => by
      have hbw : Below w.heap.size w W := (below_box2 w _ _).trans (hb.mono (below_box2 w _ _).size)
      exact ⟨h.below hbw, Nat.le_trans hB hbw.size, hk.below hbw⟩
    have hcase : k = 1 ∨ k = 2 ∨ k = 3 ∨ k = 4 ∨ k = 5 ∨ k = 6 ∨ k = 7 ∨ k = 8 := by omega
    rcases hcase with rfl | rfl | rfl | rfl | rfl | rfl | rfl | rfl
    · exact do_begin _ p c m nm pt ka kn kc ks w hnm hpt hk hmay fun W hb => (begin_mid (hW hb).1 (hW hb).2.1 hl hnm hmay).mono fun e w2 hm => mid_end h hb hm
    · exact do_add _ p c m nm pt ka kn kc ks w hnm hpt hk hmay fun W hb => (add_mid (hW hb).1 (hW hb).2.1 hI (hW hb).2.2 hmay).mono fun e w2 hm => mid_end h hb hm
    · exact do_commit _ p c m nm pt ka kn kc ks w hnm hpt hk hmay fun W hb => (commit_mid (hW hb).1 hmay).mono fun e w2 hm => mid_end h hb hm
    · exact do_abort _ p c m nm pt ka kn kc ks w hnm hpt hk hmay fun W hb => (abort_mid (hW hb).1 hmay).mono fun e w2 hm => mid_end h hb hm
    · exact do_list _ p c m nm pt ka kn kc ks w hnm hpt hk hmay fun W hb => (list_mid (hW hb).1 hI hl hmay).mono fun e w2 ⟨s, n, q, he, hm⟩ => ⟨s, n, q, he, mid_put h hb _ hm⟩
    · exact do_look _ p c m nm pt ka kn kc ks w hnm hpt hk hmay fun W hb => (look_mid (hW hb).1 hI hmay).mono fun e w2 hm => mid_end h hb hm
    · exact do_plan _ p c m nm pt ka kn kc ks w hnm hpt hk hmay fun W hb => (plan_mid (hW hb).1 hI hmay).mono fun e w2 hm => mid_end h hb hm
    · obtain ⟨q, rfl⟩ : ∃ q : Nat, m = (q : Int) := ⟨m.toNat, by omega⟩
      exact do_prune _ p c (q : Int) nm pt ka kn kc ks w hnm hpt hk hmay fun W hb => (prune_mid (hW hb).1 (hW hb).2.1 hI hl (by omega) hmay).mono fun e w2 ⟨b, he, hm⟩ => ⟨b, he, mid_put h hb _ hm⟩
end Go.Proofs.YtlpgdfdadkljfaaGreat.Cat
