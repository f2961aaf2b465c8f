/-
  TreeBack, walked, where the files make a tree: it is built twice alike, checked, and restored by its own chunks.
-/
import Derived.Test.YtcjkficpiedpfaaDoorTrBackErr
import Derived.Test.YtcjkficpiedpfaaDoorTrRest2
import Derived.Laws.StructEq
namespace Go.Proofs.YtcjkficpiedpfaaDoor.Tree
open Go.RowKit Route Chunk

theorem eqFile (p q p' q' : ByteArray) (w : World) : (binOp .eql 58 (.agg #[.string p, .string q]) (.agg #[.string p', .string q'])).run Tryd.prog w = .ok (.bool (decide (p = p' ∧ q = q'))) w := by
  have u9 := Tryd.underlying9
  have a9 := Tryd.isAgg9
  have z9 := Tryd.sizeOf9
  have hS : Tryd.prog.underlying 58 = some (.struct (Tryd.prog.fieldsOf 58)) := by kernel_rfl
  have hp : Tryd.prog.stoodInHeld 58 = false := by kernel_rfl
  rw [run_eql_struct, show (10000 : Nat) = 9999 + 1 from rfl, run_equalIn_agg w 9999 58 _ _ hS hp]
  simp only [Program.fieldsOf, Tryd.underlying58]
  go_simp
  have e : ∀ a b : ByteArray, a.toList = b.toList ↔ a = b := fun a b => ⟨list_eq, fun h => by rw [h]⟩
  by_cases h1 : p = p' <;> by_cases h2 : q = q' <;> simp [e, h1, h2]

/-- All chunks of entries, one behind the other. -/
def flatK (L : List (ByteArray × Int × List ByteArray)) : List ByteArray := L.flatMap (·.2.2)

theorem flatK_len {n : Nat} {L : List (ByteArray × Int × List ByteArray)} (h : EntsOk n L) (i : Nat) : (flatK (L.take i)).length ≤ 1200 * 100 := by
  have key : ∀ l : List (ByteArray × Int × List ByteArray), (∀ e ∈ l, e.2.2.length ≤ 1200) → (flatK l).length ≤ 1200 * l.length := by
    intro l
    induction l with
    | nil => intro _; simp [flatK]
    | cons e l ih =>
      intro hl
      have h1 := ih (fun x hx => hl x (List.mem_cons_of_mem _ hx))
      have h2 := hl e List.mem_cons_self
      simp only [flatK, List.flatMap_cons, List.length_append, List.length_cons] at *
      omega
  have h1 := key (L.take i) (fun e he => by
    obtain ⟨j, hj, rfl⟩ := List.getElem_of_mem (List.mem_of_mem_take he)
    have := (h.2.2 j (by rw [h.1]; exact hj)).2.1
    rw [ent_at hj] at this
    exact this)
  have h2 : (L.take i).length ≤ 100 := by rw [List.length_take, ← h.1]; have := h.2.1; omega
  have h3 := Nat.mul_le_mul_left 1200 h2
  omega

theorem flatK_all {L : List (ByteArray × Int × List ByteArray)} {j : Nat} (hj : j < L.length) : allIn (flatK L) (entOf L j) := by
  intro k hk
  simp only [flatK, List.mem_flatMap]
  refine ⟨_, ent_mem hj, ?_⟩
  simp [List.getD_eq_getElem?_getD, hk]

theorem restF_at {L : List (ByteArray × Int × List ByteArray)} {i : Nat} (hi : i < L.length) : fileOf (L.map restF) i = restF (entOf L i) := by
  simp [fileOf, entOf, List.getD_eq_getElem?_getD, hi]

theorem restF_sorted {L : List (ByteArray × Int × List ByteArray)} (h : Sorted L) {i : Nat} (hi : i < L.length) (h0 : 0 < i) : lt (fileOf (L.map restF) (i - 1)).1 (fileOf (L.map restF) i).1 = true := by
  rw [restF_at hi, restF_at (show i - 1 < L.length by omega), ent_at hi, ent_at (show i - 1 < L.length by omega)]
  exact List.pairwise_iff_getElem.1 h (i - 1) i (by omega) hi (by omega)

theorem restF_entF (m M K : Nat) (f : ByteArray × ByteArray) : restF (entF m M K f) = f := by
  show (f.1, cat (chunks m M K f.2)) = f
  rw [chunks_cat]

theorem filesOk_perm {n : Nat} {l l' : List (ByteArray × ByteArray)} (h : FilesOk n l) (hp : l'.Perm l) : FilesOk n l' := by
  refine ⟨by rw [hp.length_eq]; exact h.1, h.2.1, fun j hj => ?_⟩
  have hj' : j < l'.length := by rw [hp.length_eq, ← h.1]; exact hj
  obtain ⟨i, hi, he⟩ := List.getElem_of_mem (hp.mem_iff.1 (file_mem hj'))
  have := h.2.2 i (by rw [h.1]; exact hi)
  rw [file_at hi, he] at this
  exact this

theorem index_at_file (x : Addr) (n cap i : Nat) (j : Int) (hj : j = (i : Int)) (hi : i < n) (w : World) : (Instr.indexAt 41 (.slice (some x) n cap) (.int .i64 j)).run Tryd.prog w = .ok (.pointer (some (x.add (i * 2)))) w := by
  subst hj; exact index_file x n cap i hi w

set_option maxHeartbeats 8000000 in
set_option maxRecDepth 100000 in
theorem back_ok (a : Option Addr) (n cap : Nat) (l : List (ByteArray × ByteArray)) (m M K : Nat) (t : Int) (w : World) (hg : Known w) (hn : n = l.length) (hl : LiesF w a l) (hc : n ≤ cap) (h0 : 0 < n) (ht0 : -9223372036854775808 ≤ t) (ht1 : t ≤ 9223372036854775807)
    (hm : 1 ≤ m) (hmM : m ≤ M) (hM : M ≤ 64) (hK : K < 256) (hn32 : n ≤ 32) (hgood : Good l) :
    Calls Tryd.prog 6 #[.slice a n cap, cutV (m : Int) (M : Int) (K : Int), .int .i64 t] w fun e w' => e = .returned (.bool true) ∧ Below w.heap.size w w' := by
  obtain ⟨mn, hmn⟩ : ∃ mn : Int, mn = (m : Int) := ⟨_, rfl⟩
  obtain ⟨mx, hmx⟩ : ∃ mx : Int, mx = (M : Int) := ⟨_, rfl⟩
  obtain ⟨mk, hmk⟩ : ∃ mk : Int, mk = (K : Int) := ⟨_, rfl⟩
  have HUP : Hid (Calls Tryd.prog 9 #[] (w.alloc (.cells #[.int .i64 mn, .int .i64 mx, .int .i64 mk] 43)) fun e w' => e = .returned (.bool true) ∧ Below (w.alloc (.cells #[.int .i64 mn, .int .i64 mx, .int .i64 mk] 43)).heap.size (w.alloc (.cells #[.int .i64 mn, .int .i64 mx, .int .i64 mk] 43)) w') := up_any _ (hg.below ((Below.refl _ _).alloc (Nat.le_refl _) _) (Nat.le_refl _))
  have HFW : Hid (∀ W, Below w.heap.size w W → Calls Tryd.prog 18 #[.slice a n cap] W fun e w' => Fews e n l ∧ w' = W) := fun W hb => few_any a n cap l W hn (hl.below hb (Nat.le_refl _))
  have hbd : ∀ (a' : Option Addr) cap' (l' : List (ByteArray × ByteArray)) W, l'.Perm l → LiesF W a' l' → n ≤ cap' → FilesOk n l → Calls Tryd.prog 19 #[.slice a' n cap', cutV mn mx mk] W fun e w' => ∃ v Y, e = .returned (.tuple #[v, .nilIface]) ∧ Ents W.heap.size v Y W w' ∧ Sorted (Y.map (·.1)) ∧ (Y.map (·.1)).Perm (l.map (entF m M K)) := by
    intro a' cap' l' W hp hl' hc' hok
    subst hmn; subst hmx; subst hmk
    refine (build_any a' n cap' l' m M K W hm hmM hM hK hn32 (filesOk_perm hok hp) hl' hc').mono ?_
    rintro e w' (⟨_, v, Y, h1, h2, h3, h4⟩ | ⟨h, _⟩)
    · exact ⟨v, Y, h1, h2, h3, h4.trans (hp.map _)⟩
    · exact absurd (hgood.perm hp) h
  have HB1 : Hid (∀ W, Below w.heap.size w W → FilesOk n l → Calls Tryd.prog 19 #[.slice a n cap, cutV mn mx mk] W fun e w' => ∃ v Y, e = .returned (.tuple #[v, .nilIface]) ∧ Ents W.heap.size v Y W w' ∧ Sorted (Y.map (·.1)) ∧ (Y.map (·.1)).Perm (l.map (entF m M K))) := fun W hb hok => hbd a cap l W (List.Perm.refl _) (hl.below hb (Nat.le_refl _)) hc hok
  have HB2 : Hid (∀ (a' : Option Addr) cap' k W, k < n → LiesF W a' (l.drop k ++ l.take k) → n ≤ cap' → FilesOk n l → Calls Tryd.prog 19 #[.slice a' n cap', cutV mn mx mk] W fun e w' => ∃ v Y, e = .returned (.tuple #[v, .nilIface]) ∧ Ents W.heap.size v Y W w' ∧ Sorted (Y.map (·.1)) ∧ (Y.map (·.1)).Perm (l.map (entF m M K))) := fun a' cap' k W _ hl' hc' hok => hbd a' cap' _ W (List.perm_append_comm.trans (by rw [List.take_append_drop])) hl' hc' hok
  have HSH : Hid (∀ L : List (ByteArray × Int × List ByteArray), L.Perm (l.map (entF m M K)) → FilesOk n l → EntsOk n L) := fun L hp hok => built_short hm hmM hM hgood hok hp (by omega)
  have htr : ∀ L : List (ByteArray × Int × List ByteArray), Sorted L → L.Perm (l.map (entF m M K)) → isTree L := fun L hs hp => tree_of hm hmM hM hgood (by omega) hp hs
  have HCK : Hid (∀ (L : List (ByteArray × Int × List ByteArray)) (a' : Option Addr) cap' W, Sorted L → L.Perm (l.map (entF m M K)) → LiesE W a' L → n ≤ cap' → FilesOk n l → Calls Tryd.prog 11 #[.slice a' n cap'] W fun e w' => e = .returned .nilIface ∧ Below W.heap.size W w') := fun L a' cap' W hs hp hl' hc' hok => check_tree a' n cap' L W (HSH.out L hp hok) hl' hc' (htr L hs hp)
  have HSA : Hid (∀ (L : List (ByteArray × Int × List ByteArray)) (a' a'' : Option Addr) cap' cap'' W, L.Perm (l.map (entF m M K)) → LiesE W a' L → LiesE W a'' L → FilesOk n l → Calls Tryd.prog 21 #[.slice a' n cap', .slice a'' n cap''] W fun e w' => e = .returned (.bool true) ∧ Below W.heap.size W w') := fun L a' a'' cap' cap'' W hp h1 h2 hok => sameAll_yes a' a'' n cap' cap'' L W (HSH.out L hp hok).1 h1 h2 (by omega) (fun j hj => Nat.le_trans ((HSH.out L hp hok).2.2 j hj).2.1 (by omega))
  have HRS : Hid (∀ (L : List (ByteArray × Int × List ByteArray)) (a' : Option Addr) cap' (ca : Option Addr) cn ccap W, Sorted L → L.Perm (l.map (entF m M K)) → LiesE W a' L → n ≤ cap' → FilesOk n l → cn = (flatK L).length → Lies W ca (flatK L) → Calls Tryd.prog 22 #[.slice a' n cap', .slice ca cn ccap] W fun e w' => ∃ v, e = .returned (.tuple #[v, .nilIface]) ∧ FRow W.heap.size v (L.map restF) W w') := by
    intro L a' cap' ca cn ccap W hs hp hl' hc' hok hcn hlc
    have hen := HSH.out L hp hok
    have hlen : cn ≤ 1200 * 100 := by
      have := flatK_len hen L.length
      rw [List.take_length] at this
      rw [hcn]; exact this
    refine restore_core _ a' ca n cap' cn ccap L (flatK L) W hen hl' hc' (htr L hs hp) hcn hlc (by omega) (fun j hj => ?_) ?_ ?_
    · have hm2 : (flatK L).getD j ByteArray.empty ∈ flatK L := by simp [List.getD_eq_getElem?_getD, show j < (flatK L).length by rw [← hcn]; exact hj]
      generalize (flatK L).getD j ByteArray.empty = s at hm2
      simp only [flatK, List.mem_flatMap] at hm2
      obtain ⟨e, he, hse⟩ := hm2
      obtain ⟨i, hi, rfl⟩ := List.getElem_of_mem he
      have h3 := (hen.2.2 i (by rw [hen.1]; exact hi)).2.2
      rw [ent_at hi] at h3
      obtain ⟨k, hk, rfl⟩ := List.getElem_of_mem hse
      have := h3 k hk
      simp [List.getD_eq_getElem?_getD, hk] at this
      unfold maxLen
      omega
    · intro j hj _ hq
      exact absurd (flatK_all (by rw [← hen.1]; exact hj)) hq
    · intro _ v w' hf
      exact ⟨v, rfl, hf⟩
  have HFD : Hid (∀ L : List (ByteArray × Int × List ByteArray), L.Perm (l.map (entF m M K)) → ∀ i, i < n → ∃ j, j < n ∧ fileOf l j = fileOf (L.map restF) i) := by
    intro L hp i hi
    have hLn : L.length = n := by rw [hp.length_eq, List.length_map]; exact hn.symm
    obtain ⟨f, hf, he⟩ := List.mem_map.1 (hp.mem_iff.1 (ent_mem (l := L) (i := i) (by omega)))
    obtain ⟨j, hj, rfl⟩ := List.getElem_of_mem hf
    exact ⟨j, by rw [hn]; exact hj, by rw [restF_at (by omega), ← he, restF_entF, file_at hj]⟩
  rw [← hmn, ← hmx, ← hmk]
  unfold cutV at HB1 HB2 ⊢
  have HN : Hid (n = l.length) := hn
  obtain ⟨x, hx, _⟩ := hl.at (j := 0) (by omega)
  subst hx
  have HL : Hid (LiesF w (some x) l) := hl
  clear hg hbd htr hn hl hmn hmx hmk hm hmM hM hK hgood
  have hd0 : ((n : Int) == 0) = false := by simp; omega
  go_enter Tryd.func6, Tryd.ntmps6
  go_wp2_with fail
  refine HUP.out.mono ?_
  rintro e w1 ⟨rfl, hb1⟩
  obtain ⟨k0, k1, k2, hbw, hlt⟩ := cut_box hb1
  go_wp2_with fail
  refine (HFW.out _ hbw).mono ?_
  rintro e w2 ⟨⟨b, rfl, hb⟩, rfl⟩
  clear hb1
  cases b with
  | false =>
    go_wp2
    go_ret
    exact ⟨rfl, hbw⟩
  | true =>
    have HOK : Hid (FilesOk n l) := ⟨HN.out, by have := (hb rfl).1; omega, (hb rfl).2⟩
    have hn100 : n ≤ 100 := (hb rfl).1
    clear hb
    go_wp2_with fail
    refine (HB1.out _ hbw HOK.out).mono ?_
    rintro e w3 ⟨v3, Y, rfl, hen, hso, hpm⟩
    have hYn : n = Y.length := by have := hpm.length_eq; rw [List.length_map, List.length_map] at this; rw [this]; exact HN.out
    obtain ⟨a3, cap3, rfl, hc3, hl3⟩ := hen.liesN hYn
    have hb3 := hen.2.1
    obtain ⟨L, hL⟩ : ∃ L, L = Y.map (·.1) := ⟨_, rfl⟩
    rw [← hL] at hl3 hso hpm
    have HSO : Hid (Sorted L) := hso
    have HPM : Hid (L.Perm (l.map (entF m M K))) := hpm
    have HL3 : Hid (LiesE w3 a3 L) := hl3
    clear hen hYn hL hso hpm hl3
    have c0 := cell_kept hb3 k0
    have c1 := cell_kept hb3 k1
    have c2 := cell_kept hb3 k2
    have HB3 : Hid (Below w.heap.size w w3) := hbw.trans (hb3.mono hbw.size)
    clear k0 k1 k2 hb3 hbw
    have hkk : ∀ k : Nat, k < n → ∃ y : Addr, (∀ W, (Instr.slice 41 (.slice (some x) n cap) (some (.int .i64 (k : Int))) none none).run Tryd.prog W = .ok (.slice (some y) (n - k) (cap - k)) W) ∧ LiesF w3 (some y) (l.drop k) := fun k hk => files_from x n cap k l w3 HN.out (HL.out.below HB3.out (Nat.le_refl _)) hk hc
    by_cases htn : t < 0
    · obtain ⟨k, hkt, hkn⟩ := turn_neg t n htn h0
      have HKT : Hid (-(t + 1).tmod (n : Int) = (k : Int)) := hkt
      obtain ⟨y, hsf, hly⟩ := hkk k hkn
      have hst := slice_files (some x) n cap k (by omega)
      have HLD : Hid (∀ W, Below w3.heap.size w3 W → LiesF W (some y) (l.drop k)) := fun W hb => hly.below hb (Nat.le_refl _)
      have HLT : Hid (∀ W, Below w3.heap.size w3 W → LiesF W (some x) (l.take k)) := fun W hb => ((HL.out.below HB3.out (Nat.le_refl _)).below hb (Nat.le_refl _)).take k
      have HDK : Hid (n - k = (l.drop k).length) := by show _ = _; rw [List.length_drop, ← HN.out]
      have HTK : Hid (k = (l.take k).length) := by show _ = _; rw [List.length_take, ← HN.out]; omega
      have HRN : Hid (n = (l.drop k ++ l.take k).length) := by show _ = _; rw [List.length_append, ← HDK.out, ← HTK.out]; omega
      clear hkt hkk hly
      go_wp2_with fail
      rw [HKT.out]
      go_region_held3 (fun W => Below w3.heap.size w3 W)
        (first | exact hf7.2.1 | exact hf6.2.1 | exact (Below.refl _ _).drew | exact ((Below.refl _ _).drew).alloc (Nat.le_refl _) _ | exact ((Below.refl _ _).alloc (Nat.le_refl _) _).drew | assumption)
        (first
          | (refine step_files (by rfl) _ _ (by rfl) w3.heap.size v6 (l.drop k) (by rfl) w3 _ hf6 (l.take k) x k cap (by rfl) HTK.out (HLT.out _ hf6.2.1) (by rw [← HDK.out]; omega) ?_; intro v7 w7 hf7)
          | (refine step_files (by rfl) _ _ (by rfl) w3.heap.size _ [] (by rfl) w3 _ (by first | exact FRow.fresh w3 | exact (FRow.fresh w3).later ((Below.refl _ _).drew)) (l.drop k) y (n - k) (cap - k) (by rfl) HDK.out (HLD.out _ (by first | exact (Below.refl _ _).alloc (Nat.le_refl _) _ | exact ((Below.refl _ _).alloc (Nat.le_refl _) _).drew)) (by rw [List.length_nil]; omega) ?_; rw [List.nil_append]; intro v6 w6 hf6))
      all_goals
        obtain ⟨a7, cap7, rfl, hc7, hl7⟩ := hf7.liesN HRN.out
        have e0 := cell_kept hf7.2.1 c0
        have e1 := cell_kept hf7.2.1 c1
        have e2 := cell_kept hf7.2.1 c2
        have HB7 : Hid (Below w.heap.size w w7) := HB3.out.trans (hf7.2.1.mono HB3.out.size)
        have hb37 := hf7.2.1
        clear hf7 hf6
        have HLE7 : Hid (LiesE w7 a3 L) := HL3.out.below hb37 (Nat.le_refl _)
        go_wp2_with fail
        refine (HB2.out _ _ k _ hkn hl7 hc7 HOK.out).mono ?_
        rintro e w8 ⟨v8, Y8, rfl, hen8, hso8, hpm8⟩
        have hYn8 : n = Y8.length := by have := hpm8.length_eq; rw [List.length_map, List.length_map] at this; rw [this]; exact HN.out
        obtain ⟨a8, cap8, rfl, hc8, hl8⟩ := hen8.liesN hYn8
        have hLL : Y8.map (·.1) = L := sorted_unique (hpm8.trans HPM.out.symm) hso8 HSO.out
        rw [hLL] at hl8
        have HB8 : Hid (Below w.heap.size w w8) := HB7.out.trans (hen8.2.1.mono HB7.out.size)
        have HL8 : Hid (LiesE w8 a8 L) := hl8
        have HL8' : Hid (LiesE w8 a3 L) := HLE7.out.below hen8.2.1 (Nat.le_refl _)
        clear hen8 hso8 hpm8 hYn8 hLL hl8 e0 e1 e2 hl7 hb37 HLE7
        go_wp2_with fail
        refine (HCK.out L a3 cap3 w8 HSO.out HPM.out HL8'.out hc3 HOK.out).mono ?_
        rintro e w9 ⟨rfl, hb9⟩
        have HLa : Hid (LiesE w9 a3 L) := HL8'.out.below hb9 (Nat.le_refl _)
        have HLb : Hid (LiesE w9 a8 L) := HL8.out.below hb9 (Nat.le_refl _)
        have HB9 : Hid (Below w.heap.size w w9) := HB8.out.trans (hb9.mono HB8.out.size)
        clear hb9
        go_wp2_with fail
        refine (HSA.out L a3 a8 cap3 cap8 w9 HPM.out HLa.out HLb.out HOK.out).mono ?_
        rintro e w10 ⟨rfl, hb10⟩
        have HL10 : Hid (LiesE w10 a3 L) := HLa.out.below hb10 (Nat.le_refl _)
        have HB10 : Hid (Below w.heap.size w w10) := HB9.out.trans (hb10.mono HB9.out.size)
        have HEO : Hid (EntsOk n L) := HSH.out L HPM.out HOK.out
        have HLN : Hid (n = L.length) := HEO.out.1
        clear hb10 HLa HLb HB9 HL8 HL8' HB8 HB7
        go_wp2
        go_loopw [16, 17] (fun t16 t17 wr => ∃ i : Nat, t17 = .int .i64 (i : Int) ∧ i ≤ n ∧ Strs w10.heap.size t16 (flatK (L.take i)) w10 wr) (fun _ t17 _ => n - (intOf t17).toNat)
        case atStart => exact ⟨0, rfl, Nat.zero_le _, Strs.nil w10⟩
        case round =>
          obtain ⟨i, rfl, hi, hst⟩ := hrel
          by_cases hin : i < n
          · obtain ⟨x3, hx3, g0, g1, ka, kc, g2, hk⟩ := (HL10.out.below hst.2.1 (Nat.le_refl _)).at (j := i) (by rw [← HLN.out]; exact hin)
            subst hx3
            have HTK2 : Hid (flatK (L.take (i + 1)) = flatK (L.take i) ++ (entOf L i).2.2) := by
              show _ = _
              rw [take_succ_ent (by rw [← HLN.out]; exact hin)]
              simp [flatK]
            have HFL : Hid ((flatK (L.take i)).length ≤ 1200 * 100) := flatK_len HEO.out i
            have hks : (entOf L i).2.2.length ≤ 1200 := (HEO.out.2.2 i hin).2.1
            generalize entOf L i = en at g0 g1 g2 hk HTK2 hks
            obtain ⟨p, sz, ks⟩ := en
            have hix := index_ent x3 n cap3 i hin
            simp only at g0 g1 g2 hk HTK2 hks
            obtain ⟨kn, hkn2⟩ : ∃ kn, kn = ks.length := ⟨_, rfl⟩
            have HKN : Hid (kn = ks.length) := hkn2
            rw [← hkn2] at g2 hks
            generalize x3.add (i * 3) = q at g0 g1 g2 hix
            generalize flatK (L.take i) = d at hst HTK2 HFL
            have HKI : Hid (KeysIn wr ka kc ks) := hk
            clear hkn2 hk
            go_wp2_with (at_builtin; refine wpList_strs rfl (.tmp 91) (.tmp 96) rfl w10.heap.size _ d rfl w10 hst ks ka kn kc rfl HKN.out HKI.out.1 HKI.out.2.2.2 (by rw [HKN.out]; exact HKI.out.2.1) (by have := HFL.out; omega) ?_; intro v' w' hb')
            go_roundw
            case rel => exact ⟨i + 1, by go_num, by omega, by rw [HTK2.out]; exact hb'⟩
            case measure => simp [intOf]; omega
          · have hst2 : Strs w10.heap.size u16 (flatK L) w10 wr := by rw [List.take_of_length_le (by rw [← HLN.out]; omega)] at hst; exact hst
            clear hst
            obtain ⟨cn, hcn⟩ : ∃ cn, cn = (flatK L).length := ⟨_, rfl⟩
            obtain ⟨ac, capc, rfl, _, _, hlc⟩ := hst2.liesN hcn
            have HBr : Hid (Below w.heap.size w wr) := HB10.out.trans (hst2.2.1.mono HB10.out.size)
            have HCR : Hid (Calls Tryd.prog 22 #[.slice a3 n cap3, .slice ac cn capc] wr fun e w' => ∃ v, e = .returned (.tuple #[v, .nilIface]) ∧ FRow wr.heap.size v (L.map restF) wr w') := HRS.out L a3 cap3 ac cn capc wr HSO.out HPM.out (HL10.out.below hst2.2.1 (Nat.le_refl _)) hc3 HOK.out hcn hlc
            clear hst2 hlc hcn
            go_wp2_with fail
            refine HCR.out.mono ?_
            rintro e w11 ⟨v11, rfl, hf11⟩
            obtain ⟨X, hX⟩ : ∃ X, X = L.map restF := ⟨_, rfl⟩
            rw [← hX] at hf11
            have HXN : Hid (n = X.length) := by show _ = _; rw [hX, List.length_map]; exact HLN.out
            obtain ⟨a11, cap11, rfl, _, hl11⟩ := hf11.liesN HXN.out
            have HXM : Hid (∀ i, i < n → ∃ j, j < n ∧ fileOf l j = fileOf X i) := by rw [hX]; exact HFD.out L HPM.out
            have HXS : Hid (∀ i, i < n → 0 < i → lt (fileOf X (i - 1)).1 (fileOf X i).1 = true) := by rw [hX]; exact fun i hi h0 => restF_sorted HSO.out (by rw [← HLN.out]; exact hi) h0
            have HL11 : Hid (LiesF w11 a11 X) := hl11
            have HLf : Hid (LiesF w11 (some x) l) := HL.out.below (HBr.out.trans (hf11.2.1.mono HBr.out.size)) (Nat.le_refl _)
            have HB11 : Hid (Below w.heap.size w w11) := HBr.out.trans (hf11.2.1.mono HBr.out.size)
            have hdn : ((n : Int) != (n : Int)) = false := by simp
            clear hf11 hl11 hX HCR HBr HL10
            go_wp2
            go_loopw [20, 21, 22] (fun t20 _ _ wq => ∃ i q : Nat, t20 = .int .i64 (i : Int) ∧ i ≤ n ∧ wq = w11.drewN q) (fun t20 _ _ _ => n - (intOf t20).toNat)
            case atStart => exact ⟨0, 0, rfl, Nat.zero_le _, rfl⟩
            case round =>
              obtain ⟨i, q, rfl, hi, rfl⟩ := hrel
              by_cases hin : i < n
              · obtain ⟨x4, hx4, f0, f1⟩ := HL11.out.at (j := i) (by rw [← HXN.out]; exact hin)
                subst hx4
                obtain ⟨jf, hjf, hfe⟩ := HXM.out i hin
                have HFE : Hid (fileOf l jf = fileOf X i) := hfe
                have HSR : Hid (0 < i → lt (fileOf X (i - 1)).1 (fileOf X i).1 = true) := HXS.out i hin
                generalize hen : fileOf X i = en at f0 f1 HFE HSR
                obtain ⟨px, bx⟩ := en
                have hix4 := index_file x4 n cap11 i hin
                simp only at f0 f1 HSR
                have HA4 : Hid (x4.add (i * 2) = x4.add (i * 2)) := rfl
                generalize hq4 : x4.add (i * 2) = q4 at f0 f1 hix4
                clear hfe hen hq4
                go_wp2
                go_loopw [21, 22] (fun t21 t22 wz => ∃ (j q' : Nat) (b : Bool), t21 = .bool b ∧ t22 = .int .i64 (j : Int) ∧ j ≤ n ∧ wz = w11.drewN q' ∧ Hid (jf < j → b = true)) (fun _ t22 _ => n - (intOf t22).toNat)
                case atStart => exact ⟨0, q, false, rfl, rfl, Nat.zero_le _, rfl, fun h => by omega⟩
                case round =>
                  obtain ⟨j, q', b, rfl, rfl, hj, rfl, HJ⟩ := hrel
                  by_cases hjn : j < n
                  · obtain ⟨x5, hx5, d0, d1⟩ := HLf.out.at (j := j) (by rw [← HN.out]; exact hjn)
                    simp only [Option.some.injEq] at hx5
                    subst hx5
                    have HE2 : Hid (j = jf → fileOf l j = (px, bx)) := fun e => by rw [e]; exact HFE.out
                    generalize fileOf l j = en at d0 d1 HE2
                    obtain ⟨pl, bl⟩ := en
                    have hix5 := index_file x n cap j hjn
                    simp only at d0 d1
                    generalize x.add (j * 2) = q5 at d0 d1 hix5
                    cases b with
                    | true =>
                      go_wp2_with fail
                      go_quiet (fail)
                      go_wp2
                      go_roundw
                      case rel => exact ⟨j + 1, q' + nq, true, rfl, by go_num, by omega, by first | rfl | rw [World.drewN_drewN], fun _ => rfl⟩
                      case measure => simp [intOf]; omega
                    | false =>
                      have heq := eqFile pl bl px bx
                      obtain ⟨r, hr⟩ : ∃ r, r = decide (pl = px ∧ bl = bx) := ⟨_, rfl⟩
                      rw [← hr] at heq
                      have HR : Hid (jf < j + 1 → r = true) := fun hlt => by
                        rw [hr]
                        by_cases e : j = jf
                        · have := HE2.out e
                          simp only [Prod.mk.injEq] at this
                          exact decide_eq_true this
                        · exact absurd (HJ.out (by omega)) (by simp)
                      clear hr HE2 HJ
                      go_wp2_with fail
                      go_quiet (fail)
                      go_wp2
                      go_roundw
                      case rel => exact ⟨j + 1, q' + nq, r, rfl, by go_num, by omega, by first | rfl | rw [World.drewN_drewN], HR⟩
                      case measure => simp [intOf]; omega
                  · have hb : b = true := HJ.out (by omega)
                    subst hb
                    clear HJ
                    rcases Nat.eq_zero_or_pos i with hi0 | hi0
                    · subst hi0
                      go_wp2_with fail
                      go_quiet (fail)
                      go_wp2
                      go_roundw
                      case rel => exact ⟨0 + 1, q' + nq, by go_num, by omega, by first | rfl | rw [World.drewN_drewN]⟩
                      case measure => simp [intOf]; omega
                    · obtain ⟨x6, hx6, z0, _⟩ := HL11.out.at (j := i - 1) (by rw [← HXN.out]; omega)
                      simp only [Option.some.injEq] at hx6
                      subst hx6
                      have hix6 := index_at_file x4 n cap11 (i - 1) ((i : Int) - 1) (by omega) (by omega)
                      have hlt := HSR.out hi0
                      generalize (fileOf X (i - 1)).1 = pz at z0 hlt
                      generalize x4.add ((i - 1) * 2) = q6 at z0 hix6
                      have HGE : Hid ((!Op.bytesLess pz.toList px.toList) = false) := by show _ = _; rw [show Op.bytesLess pz.toList px.toList = lt pz px from rfl, hlt]; rfl
                      have hdi : decide (0 < i) = true := decide_eq_true hi0
                      clear hlt
                      go_wp2_with fail
                      go_quiet (fail)
                      rw [HGE.out]
                      go_wp2
                      go_roundw
                      case rel => exact ⟨i + 1, q' + nq, by go_num, by omega, by first | rfl | rw [World.drewN_drewN]⟩
                      case measure => simp [intOf]; omega
              · go_wp2
                go_ret
                exact ⟨rfl, below_drewN HB11.out _⟩
    · obtain ⟨k, hkt, hkn⟩ := turn_pos t n h0
      have HKT : Hid (t % (n : Int) = (k : Int)) := hkt
      obtain ⟨y, hsf, hly⟩ := hkk k hkn
      have hst := slice_files (some x) n cap k (by omega)
      have HLD : Hid (∀ W, Below w3.heap.size w3 W → LiesF W (some y) (l.drop k)) := fun W hb => hly.below hb (Nat.le_refl _)
      have HLT : Hid (∀ W, Below w3.heap.size w3 W → LiesF W (some x) (l.take k)) := fun W hb => ((HL.out.below HB3.out (Nat.le_refl _)).below hb (Nat.le_refl _)).take k
      have HDK : Hid (n - k = (l.drop k).length) := by show _ = _; rw [List.length_drop, ← HN.out]
      have HTK : Hid (k = (l.take k).length) := by show _ = _; rw [List.length_take, ← HN.out]; omega
      have HRN : Hid (n = (l.drop k ++ l.take k).length) := by show _ = _; rw [List.length_append, ← HDK.out, ← HTK.out]; omega
      clear hkt hkk hly
      go_wp2_with fail
      rw [HKT.out]
      go_region_held3 (fun W => Below w3.heap.size w3 W)
        (first | exact hf7.2.1 | exact hf6.2.1 | exact (Below.refl _ _).drew | exact ((Below.refl _ _).drew).alloc (Nat.le_refl _) _ | exact ((Below.refl _ _).alloc (Nat.le_refl _) _).drew | assumption)
        (first
          | (refine step_files (by rfl) _ _ (by rfl) w3.heap.size v6 (l.drop k) (by rfl) w3 _ hf6 (l.take k) x k cap (by rfl) HTK.out (HLT.out _ hf6.2.1) (by rw [← HDK.out]; omega) ?_; intro v7 w7 hf7)
          | (refine step_files (by rfl) _ _ (by rfl) w3.heap.size _ [] (by rfl) w3 _ (by first | exact FRow.fresh w3 | exact (FRow.fresh w3).later ((Below.refl _ _).drew)) (l.drop k) y (n - k) (cap - k) (by rfl) HDK.out (HLD.out _ (by first | exact (Below.refl _ _).alloc (Nat.le_refl _) _ | exact ((Below.refl _ _).alloc (Nat.le_refl _) _).drew)) (by rw [List.length_nil]; omega) ?_; rw [List.nil_append]; intro v6 w6 hf6))
      all_goals
        obtain ⟨a7, cap7, rfl, hc7, hl7⟩ := hf7.liesN HRN.out
        have e0 := cell_kept hf7.2.1 c0
        have e1 := cell_kept hf7.2.1 c1
        have e2 := cell_kept hf7.2.1 c2
        have HB7 : Hid (Below w.heap.size w w7) := HB3.out.trans (hf7.2.1.mono HB3.out.size)
        have hb37 := hf7.2.1
        clear hf7 hf6
        have HLE7 : Hid (LiesE w7 a3 L) := HL3.out.below hb37 (Nat.le_refl _)
        go_wp2_with fail
        refine (HB2.out _ _ k _ hkn hl7 hc7 HOK.out).mono ?_
        rintro e w8 ⟨v8, Y8, rfl, hen8, hso8, hpm8⟩
        have hYn8 : n = Y8.length := by have := hpm8.length_eq; rw [List.length_map, List.length_map] at this; rw [this]; exact HN.out
        obtain ⟨a8, cap8, rfl, hc8, hl8⟩ := hen8.liesN hYn8
        have hLL : Y8.map (·.1) = L := sorted_unique (hpm8.trans HPM.out.symm) hso8 HSO.out
        rw [hLL] at hl8
        have HB8 : Hid (Below w.heap.size w w8) := HB7.out.trans (hen8.2.1.mono HB7.out.size)
        have HL8 : Hid (LiesE w8 a8 L) := hl8
        have HL8' : Hid (LiesE w8 a3 L) := HLE7.out.below hen8.2.1 (Nat.le_refl _)
        clear hen8 hso8 hpm8 hYn8 hLL hl8 e0 e1 e2 hl7 hb37 HLE7
        go_wp2_with fail
        refine (HCK.out L a3 cap3 w8 HSO.out HPM.out HL8'.out hc3 HOK.out).mono ?_
        rintro e w9 ⟨rfl, hb9⟩
        have HLa : Hid (LiesE w9 a3 L) := HL8'.out.below hb9 (Nat.le_refl _)
        have HLb : Hid (LiesE w9 a8 L) := HL8.out.below hb9 (Nat.le_refl _)
        have HB9 : Hid (Below w.heap.size w w9) := HB8.out.trans (hb9.mono HB8.out.size)
        clear hb9
        go_wp2_with fail
        refine (HSA.out L a3 a8 cap3 cap8 w9 HPM.out HLa.out HLb.out HOK.out).mono ?_
        rintro e w10 ⟨rfl, hb10⟩
        have HL10 : Hid (LiesE w10 a3 L) := HLa.out.below hb10 (Nat.le_refl _)
        have HB10 : Hid (Below w.heap.size w w10) := HB9.out.trans (hb10.mono HB9.out.size)
        have HEO : Hid (EntsOk n L) := HSH.out L HPM.out HOK.out
        have HLN : Hid (n = L.length) := HEO.out.1
        clear hb10 HLa HLb HB9 HL8 HL8' HB8 HB7
        go_wp2
        go_loopw [16, 17] (fun t16 t17 wr => ∃ i : Nat, t17 = .int .i64 (i : Int) ∧ i ≤ n ∧ Strs w10.heap.size t16 (flatK (L.take i)) w10 wr) (fun _ t17 _ => n - (intOf t17).toNat)
        case atStart => exact ⟨0, rfl, Nat.zero_le _, Strs.nil w10⟩
        case round =>
          obtain ⟨i, rfl, hi, hst⟩ := hrel
          by_cases hin : i < n
          · obtain ⟨x3, hx3, g0, g1, ka, kc, g2, hk⟩ := (HL10.out.below hst.2.1 (Nat.le_refl _)).at (j := i) (by rw [← HLN.out]; exact hin)
            subst hx3
            have HTK2 : Hid (flatK (L.take (i + 1)) = flatK (L.take i) ++ (entOf L i).2.2) := by
              show _ = _
              rw [take_succ_ent (by rw [← HLN.out]; exact hin)]
              simp [flatK]
            have HFL : Hid ((flatK (L.take i)).length ≤ 1200 * 100) := flatK_len HEO.out i
            have hks : (entOf L i).2.2.length ≤ 1200 := (HEO.out.2.2 i hin).2.1
            generalize entOf L i = en at g0 g1 g2 hk HTK2 hks
            obtain ⟨p, sz, ks⟩ := en
            have hix := index_ent x3 n cap3 i hin
            simp only at g0 g1 g2 hk HTK2 hks
            obtain ⟨kn, hkn2⟩ : ∃ kn, kn = ks.length := ⟨_, rfl⟩
            have HKN : Hid (kn = ks.length) := hkn2
            rw [← hkn2] at g2 hks
            generalize x3.add (i * 3) = q at g0 g1 g2 hix
            generalize flatK (L.take i) = d at hst HTK2 HFL
            have HKI : Hid (KeysIn wr ka kc ks) := hk
            clear hkn2 hk
            go_wp2_with (at_builtin; refine wpList_strs rfl (.tmp 91) (.tmp 96) rfl w10.heap.size _ d rfl w10 hst ks ka kn kc rfl HKN.out HKI.out.1 HKI.out.2.2.2 (by rw [HKN.out]; exact HKI.out.2.1) (by have := HFL.out; omega) ?_; intro v' w' hb')
            go_roundw
            case rel => exact ⟨i + 1, by go_num, by omega, by rw [HTK2.out]; exact hb'⟩
            case measure => simp [intOf]; omega
          · have hst2 : Strs w10.heap.size u16 (flatK L) w10 wr := by rw [List.take_of_length_le (by rw [← HLN.out]; omega)] at hst; exact hst
            clear hst
            obtain ⟨cn, hcn⟩ : ∃ cn, cn = (flatK L).length := ⟨_, rfl⟩
            obtain ⟨ac, capc, rfl, _, _, hlc⟩ := hst2.liesN hcn
            have HBr : Hid (Below w.heap.size w wr) := HB10.out.trans (hst2.2.1.mono HB10.out.size)
            have HCR : Hid (Calls Tryd.prog 22 #[.slice a3 n cap3, .slice ac cn capc] wr fun e w' => ∃ v, e = .returned (.tuple #[v, .nilIface]) ∧ FRow wr.heap.size v (L.map restF) wr w') := HRS.out L a3 cap3 ac cn capc wr HSO.out HPM.out (HL10.out.below hst2.2.1 (Nat.le_refl _)) hc3 HOK.out hcn hlc
            clear hst2 hlc hcn
            go_wp2_with fail
            refine HCR.out.mono ?_
            rintro e w11 ⟨v11, rfl, hf11⟩
            obtain ⟨X, hX⟩ : ∃ X, X = L.map restF := ⟨_, rfl⟩
            rw [← hX] at hf11
            have HXN : Hid (n = X.length) := by show _ = _; rw [hX, List.length_map]; exact HLN.out
            obtain ⟨a11, cap11, rfl, _, hl11⟩ := hf11.liesN HXN.out
            have HXM : Hid (∀ i, i < n → ∃ j, j < n ∧ fileOf l j = fileOf X i) := by rw [hX]; exact HFD.out L HPM.out
            have HXS : Hid (∀ i, i < n → 0 < i → lt (fileOf X (i - 1)).1 (fileOf X i).1 = true) := by rw [hX]; exact fun i hi h0 => restF_sorted HSO.out (by rw [← HLN.out]; exact hi) h0
            have HL11 : Hid (LiesF w11 a11 X) := hl11
            have HLf : Hid (LiesF w11 (some x) l) := HL.out.below (HBr.out.trans (hf11.2.1.mono HBr.out.size)) (Nat.le_refl _)
            have HB11 : Hid (Below w.heap.size w w11) := HBr.out.trans (hf11.2.1.mono HBr.out.size)
            have hdn : ((n : Int) != (n : Int)) = false := by simp
            clear hf11 hl11 hX HCR HBr HL10
            go_wp2
            go_loopw [20, 21, 22] (fun t20 _ _ wq => ∃ i q : Nat, t20 = .int .i64 (i : Int) ∧ i ≤ n ∧ wq = w11.drewN q) (fun t20 _ _ _ => n - (intOf t20).toNat)
            case atStart => exact ⟨0, 0, rfl, Nat.zero_le _, rfl⟩
            case round =>
              obtain ⟨i, q, rfl, hi, rfl⟩ := hrel
              by_cases hin : i < n
              · obtain ⟨x4, hx4, f0, f1⟩ := HL11.out.at (j := i) (by rw [← HXN.out]; exact hin)
                subst hx4
                obtain ⟨jf, hjf, hfe⟩ := HXM.out i hin
                have HFE : Hid (fileOf l jf = fileOf X i) := hfe
                have HSR : Hid (0 < i → lt (fileOf X (i - 1)).1 (fileOf X i).1 = true) := HXS.out i hin
                generalize hen : fileOf X i = en at f0 f1 HFE HSR
                obtain ⟨px, bx⟩ := en
                have hix4 := index_file x4 n cap11 i hin
                simp only at f0 f1 HSR
                have HA4 : Hid (x4.add (i * 2) = x4.add (i * 2)) := rfl
                generalize hq4 : x4.add (i * 2) = q4 at f0 f1 hix4
                clear hfe hen hq4
                go_wp2
                go_loopw [21, 22] (fun t21 t22 wz => ∃ (j q' : Nat) (b : Bool), t21 = .bool b ∧ t22 = .int .i64 (j : Int) ∧ j ≤ n ∧ wz = w11.drewN q' ∧ Hid (jf < j → b = true)) (fun _ t22 _ => n - (intOf t22).toNat)
                case atStart => exact ⟨0, q, false, rfl, rfl, Nat.zero_le _, rfl, fun h => by omega⟩
                case round =>
                  obtain ⟨j, q', b, rfl, rfl, hj, rfl, HJ⟩ := hrel
                  by_cases hjn : j < n
                  · obtain ⟨x5, hx5, d0, d1⟩ := HLf.out.at (j := j) (by rw [← HN.out]; exact hjn)
                    simp only [Option.some.injEq] at hx5
                    subst hx5
                    have HE2 : Hid (j = jf → fileOf l j = (px, bx)) := fun e => by rw [e]; exact HFE.out
                    generalize fileOf l j = en at d0 d1 HE2
                    obtain ⟨pl, bl⟩ := en
                    have hix5 := index_file x n cap j hjn
                    simp only at d0 d1
                    generalize x.add (j * 2) = q5 at d0 d1 hix5
                    cases b with
                    | true =>
                      go_wp2_with fail
                      go_quiet (fail)
                      go_wp2
                      go_roundw
                      case rel => exact ⟨j + 1, q' + nq, true, rfl, by go_num, by omega, by first | rfl | rw [World.drewN_drewN], fun _ => rfl⟩
                      case measure => simp [intOf]; omega
                    | false =>
                      have heq := eqFile pl bl px bx
                      obtain ⟨r, hr⟩ : ∃ r, r = decide (pl = px ∧ bl = bx) := ⟨_, rfl⟩
                      rw [← hr] at heq
                      have HR : Hid (jf < j + 1 → r = true) := fun hlt => by
                        rw [hr]
                        by_cases e : j = jf
                        · have := HE2.out e
                          simp only [Prod.mk.injEq] at this
                          exact decide_eq_true this
                        · exact absurd (HJ.out (by omega)) (by simp)
                      clear hr HE2 HJ
                      go_wp2_with fail
                      go_quiet (fail)
                      go_wp2
                      go_roundw
                      case rel => exact ⟨j + 1, q' + nq, r, rfl, by go_num, by omega, by first | rfl | rw [World.drewN_drewN], HR⟩
                      case measure => simp [intOf]; omega
                  · have hb : b = true := HJ.out (by omega)
                    subst hb
                    clear HJ
                    rcases Nat.eq_zero_or_pos i with hi0 | hi0
                    · subst hi0
                      go_wp2_with fail
                      go_quiet (fail)
                      go_wp2
                      go_roundw
                      case rel => exact ⟨0 + 1, q' + nq, by go_num, by omega, by first | rfl | rw [World.drewN_drewN]⟩
                      case measure => simp [intOf]; omega
                    · obtain ⟨x6, hx6, z0, _⟩ := HL11.out.at (j := i - 1) (by rw [← HXN.out]; omega)
                      simp only [Option.some.injEq] at hx6
                      subst hx6
                      have hix6 := index_at_file x4 n cap11 (i - 1) ((i : Int) - 1) (by omega) (by omega)
                      have hlt := HSR.out hi0
                      generalize (fileOf X (i - 1)).1 = pz at z0 hlt
                      generalize x4.add ((i - 1) * 2) = q6 at z0 hix6
                      have HGE : Hid ((!Op.bytesLess pz.toList px.toList) = false) := by show _ = _; rw [show Op.bytesLess pz.toList px.toList = lt pz px from rfl, hlt]; rfl
                      have hdi : decide (0 < i) = true := decide_eq_true hi0
                      clear hlt
                      go_wp2_with fail
                      go_quiet (fail)
                      rw [HGE.out]
                      go_wp2
                      go_roundw
                      case rel => exact ⟨i + 1, q' + nq, by go_num, by omega, by first | rfl | rw [World.drewN_drewN]⟩
                      case measure => simp [intOf]; omega
              · go_wp2
                go_ret
                exact ⟨rfl, below_drewN HB11.out _⟩
end Go.Proofs.YtcjkficpiedpfaaDoor.Tree
