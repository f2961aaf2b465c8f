/-
  All chunks, each once, rising: the program's 'held'.
-/
import Derived.Test.YtlpgdfdadkljfaaGreatCtSort
import Derived.Test.YtlpgdfdadkljfaaGreatMgF
namespace Go.Proofs.YtlpgdfdadkljfaaGreat.Cat
open Go.RowKit Route Tree

def keysE (E : List Ent) : List ByteArray := E.flatMap (·.2.2)
theorem chunks_snoc {S : List Snap} {i : Nat} (h : i < S.length) : chunksOf (S.take (i + 1)) = chunksOf (S.take i) ++ keysE (snapAt S i).2.2.2 := by
  rw [snap_take h]; simp [chunksOf, keysE]
theorem keysE_snoc {E : List Ent} {j : Nat} (h : j < E.length) : keysE (E.take (j + 1)) = keysE (E.take j) ++ (entOf E j).2.2 := by
  rw [take_succ_ent h]; simp [keysE]
theorem keysE_len {E : List Ent} (h : ∀ e ∈ E, e.2.2.length ≤ 16) : (keysE E).length ≤ E.length * 16 := by
  induction E with
  | nil => simp [keysE]
  | cons e E ih =>
    have := ih fun x hx => h x (by simp [hx])
    have := h e (by simp)
    simp only [keysE, List.flatMap_cons, List.length_append, List.length_cons] at *
    omega
theorem chunks_len {S : List Snap} (h : ∀ s ∈ S, s.2.2.2.length ≤ 32 ∧ ∀ e ∈ s.2.2.2, e.2.2.length ≤ 16) : (chunksOf S).length ≤ S.length * 512 := by
  induction S with
  | nil => simp [chunksOf]
  | cons s S ih =>
    have h1 := ih fun x hx => h x (by simp [hx])
    have h2 := h s (by simp)
    have h3 := keysE_len h2.2
    simp only [chunksOf, keysE, List.flatMap_cons, List.length_append, List.length_cons] at *
    omega

set_option maxHeartbeats 8000000 in
set_option maxRecDepth 100000 in
theorem held_any (p : Nat) (a : Option Addr) (n cap : Nat) (S : List Snap) (w : World) (h : See p a n cap S w) (hm : n ≤ 1000) (hs : ∀ s ∈ S, s.2.2.2.length ≤ 32 ∧ ∀ e ∈ s.2.2.2, e.2.2.length ≤ 16 ∧ ∀ k ∈ e.2.2, k.size ≤ 1000000) :
    Calls Tryz.prog 28 #[.pointer (some ⟨p, 0, none⟩)] w fun e w' => ∃ v K, e = .returned v ∧ Held S K ∧ Strs w.heap.size v K w w' := by
  have HN : Hid (n = S.length) := h.len
  have HL : Hid (LiesN w a S) := h.lies
  have HSS : Hid (∀ s ∈ S, s.2.2.2.length ≤ 32 ∧ ∀ e ∈ s.2.2.2, e.2.2.length ≤ 16 ∧ ∀ k ∈ e.2.2, k.size ≤ 1000000) := hs
  have HCB : Hid (∀ i, (chunksOf (S.take i)).length ≤ 1000 * 512) := fun i => by
    have := chunks_len (S := S.take i) fun s hs' => ⟨(hs s (List.mem_of_mem_take hs')).1, fun e he => ((hs s (List.mem_of_mem_take hs')).2 e he).1⟩
    have h2 : (S.take i).length ≤ n := by rw [List.length_take, h.len]; omega
    have h3 : (S.take i).length * 512 ≤ 1000 * 512 := Nat.mul_le_mul_right _ (by omega)
    omega
  have hcell := h.cell
  clear h hs
  go_enter Tryz.func28, Tryz.ntmps28
  go_wp2
  go_loopw [3, 13] (fun t3 t13 wr => ∃ i : Nat, t13 = .int .i64 (i : Int) ∧ i ≤ n ∧ Hid (Strs w.heap.size t3 (chunksOf (S.take i)) w wr)) (fun _ t13 _ => n - (intOf t13).toNat)
  case atStart => exact ⟨0, rfl, Nat.zero_le _, (by simpa [chunksOf] using Strs.nil w : Strs w.heap.size (.slice none 0 0) (chunksOf (S.take 0)) w w)⟩
  case round =>
    obtain ⟨i, rfl, hi, HST⟩ := hrel
    clear hcell
    by_cases hin : i < n
    · obtain ⟨x, hx, g0, g1, g2, ea, ec, g3, _, _, hle⟩ := HL.out.at (j := i) (by rw [← HN.out]; exact hin)
      have hx0 := hx
      have g0 := cell_kept HST.out.2.1 g0
      have g1 := cell_kept HST.out.2.1 g1
      have g2 := cell_kept HST.out.2.1 g2
      have g3 := cell_kept HST.out.2.1 g3
      subst hx
      have HT : Hid (chunksOf (S.take (i + 1)) = chunksOf (S.take i) ++ keysE (snapAt S i).2.2.2) := chunks_snoc (by rw [← HN.out]; exact hin)
      have hcb := HCB.out i
      have hsm := HSS.out (snapAt S i) (snapAt_mem (by rw [← HN.out]; exact hin))
      generalize snapAt S i = s at g0 g1 g2 g3 hle HT hsm
      obtain ⟨c0, n0, d0, E⟩ := s
      simp only at g0 g1 g2 g3 hle HT hsm
      obtain ⟨en, hen⟩ : ∃ en, en = E.length := ⟨_, rfl⟩
      have HEN : Hid (en = E.length) := hen
      rw [← hen] at g3
      have hen32 : en ≤ 32 := by rw [hen]; exact hsm.1
      have HKB : Hid (∀ j, (keysE (E.take j)).length ≤ 32 * 16 ∧ (j < en → (entOf E j).2.2.length ≤ 16)) := fun j => by
        refine ⟨?_, fun hj => (hsm.2 _ (ent_mem (by rw [← hen]; exact hj))).1⟩
        have h1 := keysE_len (E := E.take j) fun e he => (hsm.2 e (List.mem_of_mem_take he)).1
        have h2 : (E.take j).length ≤ 32 := by rw [List.length_take, ← hen]; omega
        omega
      have hix := index_snap x n cap i hin
      generalize x.add (i * 4) = q at g0 g1 g2 g3 hix
      generalize chunksOf (S.take i) = C at HST HT hcb
      have HLE : Hid (∀ W, Below w.heap.size w W → LiesE W ea E) := fun W hb => hle.below hb (Nat.le_refl _)
      have HSB : Hid (Strs w.heap.size u3 C w (wr.alloc (.cells #[.int .i64 c0, .string n0, .bool d0, .slice ea en ec] 71))) := HST.out.alloc _
      have hcbl : C.length ≤ 512000 := by omega
      clear hsm hen hle hcb
      go_wp2
      clear g0 g1 g2 g3 hix
      obtain ⟨wa, hwa⟩ : ∃ wa, wa = wr.alloc (.cells #[.int .i64 c0, .string n0, .bool d0, .slice ea en ec] 71) := ⟨_, rfl⟩
      rw [← hwa] at HSB ⊢
      clear hwa HST
      go_loopw [3, 20] (fun t3 t20 wq => ∃ j : Nat, t20 = .int .i64 (j : Int) ∧ j ≤ en ∧ Hid (Strs w.heap.size t3 (C ++ keysE (E.take j)) w wq) ) (fun _ t20 _ => en - (intOf t20).toNat)
      case atStart => exact ⟨0, rfl, Nat.zero_le _, (by simpa [keysE] using HSB.out : Strs w.heap.size u3 (C ++ keysE (E.take 0)) w wa)⟩
      case round =>
        obtain ⟨j, rfl, hj, HSQ⟩ := hrel
        by_cases hjn : j < en
        · obtain ⟨y, hy, e0, e1, ka, kc, e2, hk⟩ := (HLE.out wr HSQ.out.2.1).at (j := j) (by rw [← HEN.out]; exact hjn)
          subst hy
          have HT2 : Hid (keysE (E.take (j + 1)) = keysE (E.take j) ++ (entOf E j).2.2) := keysE_snoc (by rw [← HEN.out]; exact hjn)
          have hkb := (HKB.out j).1
          have hkl := (HKB.out j).2 hjn
          generalize entOf E j = en0 at e0 e1 e2 hk HT2 hkl
          obtain ⟨p0, sz, ks⟩ := en0
          simp only at e0 e1 e2 hk HT2 hkl
          obtain ⟨kn, hkn⟩ : ∃ kn, kn = ks.length := ⟨_, rfl⟩
          have HK : Hid (kn = ks.length) := hkn
          rw [← hkn] at e2 hkl
          have hix := index_ent y en ec j hjn
          generalize y.add (j * 3) = q2 at e0 e1 e2 hix
          generalize hF : keysE (E.take j) = F at HSQ HT2 hkb
          have HCF : Hid ((C ++ F).length ≤ 600000) := by show _ ≤ _; rw [List.length_append]; omega
          have HKI : Hid (KeysIn wr ka kc ks) := hk
          have HSQ2 : Hid (Strs w.heap.size u3 (C ++ F) w (wr.alloc (.cells #[.string p0, .int .i64 sz, .slice ka kn kc] 84))) := HSQ.out.alloc _
          clear hkn hk hF hkb
          go_wp2_with (at_builtin; refine wpList_strs rfl (.tmp 24) (.tmp 26) rfl w.heap.size _ (C ++ F) rfl w HSQ2.out ks ka kn kc rfl HK.out (HKI.out.1.below ((Below.refl _ _).alloc (Nat.le_refl _) _) (Nat.le_refl _)) HKI.out.2.2.2 (by rw [HK.out]; exact HKI.out.2.1) (by have := HCF.out; omega) ?_; intro v' w' hb')
          go_roundw
          case rel => exact ⟨j + 1, by go_num, by omega, by rw [HT2.out, ← List.append_assoc]; exact hb'⟩
          case measure => simp [intOf]; omega
        · have HSE : Hid (Strs w.heap.size u3 (chunksOf (S.take (i + 1))) w wr) := by
            have h9 := HSQ.out
            rw [List.take_of_length_le (by rw [← HEN.out]; omega)] at h9
            show Strs _ _ _ _ _
            rw [HT.out]
            exact h9
          clear HSQ
          go_wp2
          go_roundw
          case rel => exact ⟨i + 1, by go_num, by omega, HSE⟩
          case measure => simp [intOf]; omega
    · have HSE : Hid (Strs w.heap.size u3 (chunksOf S) w wr) := by
        have h9 := HST.out
        rw [List.take_of_length_le (by rw [← HN.out]; omega)] at h9
        exact h9
      have hcl : (chunksOf S).length ≤ 512000 := by
        have := HCB.out S.length
        rw [List.take_length] at this
        omega
      have hkz : ∀ k ∈ chunksOf S, k.size ≤ 1000000 := fun k hk => by
        simp only [chunksOf, List.mem_flatMap] at hk
        obtain ⟨s, hs, e, he, hk⟩ := hk
        exact ((HSS.out s hs).2 e he).2 k hk
      have HS1 : Hid (Calls Tryz.prog 50 #[u3] wr fun e w' => e = .returned (.tuple #[]) ∧ Strs w.heap.size u3 (sorted (chunksOf S)) w w') := sort_any HSE.out (by omega)
      have hsl : (sorted (chunksOf S)).length ≤ 512000 := by rw [len_sorted]; exact hcl
      have HS2 : Hid (∀ W, Strs w.heap.size u3 (sorted (chunksOf S)) w W → Calls Tryz.prog 52 #[u3] W fun e w' => ∃ v', e = .returned v' ∧ Strs w.heap.size v' (single (sorted (chunksOf S))) w w') := fun W h => compact_any h (by omega)
      have hss := single_sorted (chunksOf S)
      have HHELD : Hid (Held S (single (sorted (chunksOf S)))) := ⟨hss.1, hss.2⟩
      have hkl : (single (sorted (chunksOf S))).length ≤ 512000 := by
        have := compact_le (raw (sorted (chunksOf S)))
        rw [len_raw] at this
        simp only [single, back, List.length_map]
        omega
      have HS3 : Hid (∀ v' W, Strs w.heap.size v' (single (sorted (chunksOf S))) w W → Calls Tryz.prog 51 #[v'] W fun e w' => ∃ v, e = .returned v ∧ Strs w.heap.size v (single (sorted (chunksOf S))) w w') := fun v' W h => by
        obtain ⟨a', cap', rfl, _, _, hl⟩ := h.lies
        refine (copyTexts_any a' _ cap' _ W rfl hl (by omega) fun j hj => hkz _ ((hss.2 _).1 (by simp [List.getD_eq_getElem?_getD, hj]))).mono ?_
        rintro e w' ⟨v, rfl, hst⟩
        exact ⟨v, rfl, own_mono hst.1 h.2.2, h.2.1.trans (hst.2.1.mono h.2.2), Nat.le_trans h.2.2 hst.2.2⟩
      generalize single (sorted (chunksOf S)) = K at *
      generalize sorted (chunksOf S) = K0 at *
      clear HST HSE hcl hkz hsl hss hkl
      go_wp2_with fail
      refine HS1.out.mono ?_
      rintro e w2 ⟨rfl, hs2⟩
      have HA : Hid (Strs w.heap.size u3 K0 w w2) := hs2
      clear hs2 HS1
      go_wp2_with fail
      refine (HS2.out _ HA.out).mono ?_
      rintro e w3 ⟨v3, rfl, hs3⟩
      have HA3 : Hid (Strs w.heap.size v3 K w w3) := hs3
      clear hs3 HS2 HA
      go_wp2_with fail
      refine (HS3.out _ _ HA3.out).mono ?_
      rintro e w4 ⟨v4, rfl, hs4⟩
      have HA4 : Hid (Strs w.heap.size v4 K w w4) := hs4
      clear hs4 HS3 HA3
      go_wp2
      go_ret
      exact ⟨_, K, rfl, HHELD.out, HA4.out⟩
end Go.Proofs.YtlpgdfdadkljfaaGreat.Cat
