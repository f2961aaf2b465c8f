/-
  Which files make a tree, whatever their order; what is built of them is one; whether files are few and short: the law's 'few'.
-/
import Derived.Test.YtcjkficpiedpfabDoorTrBuild2
import Derived.Test.YtcjkficpiedpfabDoorTrRest
import Derived.Test.YtcjkficpiedpfabDoorTrSame
namespace Go.Proofs.YtcjkficpiedpfabDoor.Tree
open Go.RowKit Route Chunk

theorem clashB_comm (a b : ByteArray) : clashB a b = clashB b a := by
  unfold clashB
  have e : decide (a = b) = decide (b = a) := decide_eq_decide.2 ⟨Eq.symm, Eq.symm⟩
  rw [e, Bool.or_assoc, Bool.or_assoc, Bool.or_comm (isUnder a b)]

/-- May these files be a tree's? -/
def Good (l : List (ByteArray × ByteArray)) : Prop := (∀ f ∈ l, isPath f.1 = true ∧ f.2.size ≤ 1024) ∧ l.Pairwise fun x y => clashB x.1 y.1 = false

theorem codeF_zero {ahead : List (ByteArray × ByteArray)} {f : ByteArray × ByteArray} : codeF ahead f = 0 ↔ isPath f.1 = true ∧ f.2.size ≤ 1024 ∧ ∀ x ∈ ahead, clashB x.1 f.1 = false := by
  unfold codeF
  by_cases h1 : isPath f.1 = false
  · rw [if_pos h1]; simp [h1]
  · rw [if_neg h1]
    have h1' : isPath f.1 = true := by simpa using h1
    by_cases h2 : 1024 < f.2.size
    · rw [if_pos h2]; simp; omega
    · rw [if_neg h2]
      by_cases h3 : (ahead.any fun x => clashB x.1 f.1) = true
      · rw [if_pos h3]
        rw [List.any_eq_true] at h3
        obtain ⟨x, hx, h⟩ := h3
        refine ⟨fun h => (by cases h), fun hq => ?_⟩
        have := hq.2.2 x hx
        rw [h] at this; cases this
      · rw [if_neg h3]
        refine ⟨fun _ => ⟨h1', by omega, fun x hx => ?_⟩, fun _ => rfl⟩
        cases h : clashB x.1 f.1 with
        | false => rfl
        | true => exact absurd (List.any_eq_true.2 ⟨x, hx, h⟩) h3

theorem file_at {l : List (ByteArray × ByteArray)} {j : Nat} (hj : j < l.length) : fileOf l j = l[j] := by simp [fileOf, List.getD_eq_getElem?_getD, hj]
theorem ent_at {l : List (ByteArray × Int × List ByteArray)} {j : Nat} (hj : j < l.length) : entOf l j = l[j] := by simp [entOf, List.getD_eq_getElem?_getD, hj]

theorem good_iff {l : List (ByteArray × ByteArray)} {n : Nat} (hn : n = l.length) : (∀ j, j < n → codeF (l.take j) (fileOf l j) = 0) ↔ Good l := by
  subst hn
  constructor
  · intro h
    refine ⟨fun f hf => ?_, List.pairwise_iff_getElem.2 fun i j hi hj hij => ?_⟩
    · obtain ⟨j, hj, rfl⟩ := List.getElem_of_mem hf
      have := codeF_zero.1 (h j hj)
      rw [file_at hj] at this
      exact ⟨this.1, this.2.1⟩
    · have := (codeF_zero.1 (h j hj)).2.2 l[i] (by rw [List.mem_take_iff_getElem]; exact ⟨i, by omega, rfl⟩)
      rw [file_at hj] at this
      exact this
  · rintro ⟨h1, h2⟩ j hj
    refine codeF_zero.2 ?_
    rw [file_at hj]
    obtain ⟨h3, h4⟩ := h1 _ (List.getElem_mem hj)
    refine ⟨h3, h4, fun x hx => ?_⟩
    rw [List.mem_take_iff_getElem] at hx
    obtain ⟨i, hi, rfl⟩ := hx
    exact List.pairwise_iff_getElem.1 h2 i j (by omega) hj (by omega)

theorem Good.perm {l l' : List (ByteArray × ByteArray)} (h : Good l) (hp : l'.Perm l) : Good l' :=
  ⟨fun f hf => h.1 f (hp.mem_iff.1 hf), (hp.pairwise_iff (fun {x y} h => by rw [clashB_comm]; exact h)).2 h.2⟩

theorem restB_all (sz : Int) : ∀ (l : List ByteArray) (s : Nat), (∀ k, k < l.length → 1 ≤ (l.getD k ByteArray.empty).size ∧ (l.getD k ByteArray.empty).size ≤ 64) → ((s + (cat l).size : Nat) : Int) = sz → s + (cat l).size ≤ 1024 → restB sz s l = true
  | [], s, _, h1, h2 => by
    have e : (cat []).size = 0 := rfl
    rw [e] at h1 h2
    rw [restB]
    exact decide_eq_true ⟨by simpa using h1, by omega⟩
  | k :: l, s, h0, h1, h2 => by
    have e : (cat (k :: l)).size = k.size + (cat l).size := by
      rw [show cat (k :: l) = k ++ cat l from rfl, ByteArray.size_append]
    rw [e] at h1 h2
    have hk := h0 0 (by simp)
    simp at hk
    rw [restB, decide_eq_true hk, Bool.true_and]
    exact restB_all sz l (s + k.size) (fun j hj => by have := h0 (j + 1) (by simpa using hj); simpa using this) (by rw [← h1]; congr 1; omega) (by omega)

theorem chunks_ok (m M K : Nat) (s : ByteArray) (hm : 1 ≤ m) (hmM : m ≤ M) (hM : M ≤ 64) (hs : s.size ≤ 1024) : restB (s.size : Int) 0 (chunks m M K s) = true := by
  refine restB_all _ _ 0 (fun k hk => ?_) (by rw [chunks_cat]; simp) (by rw [chunks_cat]; omega)
  obtain ⟨h1, h2, _⟩ := chunks_sizes m M K s hmM (by omega) k hk
  exact ⟨h1, by omega⟩

theorem entF_short (m M K : Nat) (f : ByteArray × ByteArray) (hm : 1 ≤ m) (hmM : m ≤ M) (hM : M ≤ 64) (hp : f.1.size ≤ 2000) (hs : f.2.size ≤ 1024) : shortE (entF m M K f) := by
  refine ⟨hp, ?_, fun k hk => ?_⟩
  · have := chunks_count m M K f.2
    show (chunks m M K f.2).length ≤ 1200
    omega
  · obtain ⟨_, h2, _⟩ := chunks_sizes m M K f.2 hmM (by omega) k hk
    show ((chunks m M K f.2).getD k ByteArray.empty).size ≤ 2000
    omega

/-- What is built of good files is a tree. -/
theorem tree_of {l : List (ByteArray × ByteArray)} {Y : List (ByteArray × Int × List ByteArray)} {m M K : Nat} (hm : 1 ≤ m) (hmM : m ≤ M) (hM : M ≤ 64) (hg : Good l) (hn : l.length ≤ 32) (hp : Y.Perm (l.map (entF m M K))) (hs : Sorted Y) : isTree Y := by
  have hlen : Y.length = l.length := by rw [hp.length_eq, List.length_map]
  have hpw : Y.Pairwise fun x y => clashB x.1 y.1 = false := by
    refine (hp.pairwise_iff (fun {x y} h => by rw [clashB_comm]; exact h)).2 ?_
    rw [List.pairwise_map]
    exact hg.2
  refine ⟨by omega, fun j hj => ?_⟩
  have hmem : entOf Y j ∈ l.map (entF m M K) := hp.mem_iff.1 (ent_mem hj)
  obtain ⟨f, hf, he⟩ := List.mem_map.1 hmem
  obtain ⟨hpath, hsz⟩ := hg.1 f hf
  have e1 : (entOf Y j).1 = f.1 := by rw [← he]; rfl
  rw [codeOf, if_neg (by rw [e1, hpath]; simp), if_neg]
  · rw [if_neg]
    rw [← he]
    show ¬ restB (f.2.size : Int) 0 (chunks m M K f.2) = false
    rw [chunks_ok m M K f.2 hm hmM hM hsz]
    simp
  · rintro (⟨x, hx, h⟩ | h)
    · rcases Nat.eq_zero_or_pos j with rfl | h0
      · simp at hx
      · have hl : (Y.take j).length = j := by rw [List.length_take]; omega
        rw [last_ent hl.symm h0] at hx
        simp only [Option.some.injEq] at hx
        have e2 : entOf (Y.take j) (j - 1) = Y[j - 1] := by simp [entOf, List.getD_eq_getElem?_getD, show j - 1 < j by omega, show j - 1 < Y.length by omega]
        rw [← hx, e2, ent_at hj] at h
        have := List.pairwise_iff_getElem.1 hs (j - 1) j (by omega) hj (by omega)
        rw [this] at h; cases h
    · rw [List.any_eq_true] at h
      obtain ⟨x, hx, hu⟩ := h
      rw [List.mem_take_iff_getElem] at hx
      obtain ⟨i, hi, rfl⟩ := hx
      have := List.pairwise_iff_getElem.1 hpw i j (by omega) hj (by omega)
      rw [← ent_at hj] at this
      unfold clashB at this
      rw [hu] at this
      simp at this

theorem built_short {l : List (ByteArray × ByteArray)} {Y : List (ByteArray × Int × List ByteArray)} {m M K n : Nat} (hm : 1 ≤ m) (hmM : m ≤ M) (hM : M ≤ 64) (hg : Good l) (hl : FilesOk n l) (hp : Y.Perm (l.map (entF m M K))) (hn : n ≤ 100) : EntsOk n Y := by
  refine ⟨by rw [hp.length_eq, List.length_map]; exact hl.1, hn, fun j hj => ?_⟩
  have hj' : j < Y.length := by rw [hp.length_eq, List.length_map, ← hl.1]; exact hj
  obtain ⟨f, hf, he⟩ := List.mem_map.1 (hp.mem_iff.1 (ent_mem hj'))
  rw [← he]
  obtain ⟨i, hi, rfl⟩ := List.getElem_of_mem hf
  have h1 := (hl.2.2 i (by rw [hl.1]; exact hi)).1
  rw [file_at hi] at h1
  exact entF_short m M K _ hm hmM hM h1 (hg.1 _ hf).2

/-- What 'few' tells: if true, the files are few and short. -/
def Fews (e : Ending) (n : Nat) (l : List (ByteArray × ByteArray)) : Prop := ∃ b, e = .returned (.bool b) ∧ (b = true → n ≤ 100 ∧ ∀ j, j < n → (fileOf l j).1.size ≤ 2000 ∧ (fileOf l j).2.size ≤ 3000)
theorem Fews.no {e : Ending} {n : Nat} {l : List (ByteArray × ByteArray)} (h : e = .returned (.bool false)) : Fews e n l := ⟨false, h, fun h => by cases h⟩
theorem Fews.yes {e : Ending} {n : Nat} {l : List (ByteArray × ByteArray)} (h : e = .returned (.bool true)) (h1 : n ≤ 100) (h2 : ∀ j, j < n → (fileOf l j).1.size ≤ 2000 ∧ (fileOf l j).2.size ≤ 3000) : Fews e n l := ⟨true, h, fun _ => ⟨h1, h2⟩⟩

set_option maxHeartbeats 4000000 in
set_option maxRecDepth 100000 in
theorem few_any (a : Option Addr) (n cap : Nat) (l : List (ByteArray × ByteArray)) (w : World) (hn0 : n = l.length) (hl0 : LiesF w a l) :
    Calls Tryd.prog 6 #[.slice a n cap] w fun e w' => Fews e n l ∧ w' = w := by
  have HN : Hid (n = l.length) := hn0
  have HL : Hid (LiesF w a l) := hl0
  clear hn0 hl0
  go_enter Tryd.func6, Tryd.ntmps6
  go_wp2
  · go_ret
    exact ⟨.no rfl, rfl⟩
  go_loop [2, 3] (fun t2 t3 => ∃ i : Nat, t2 = .bool false ∧ t3 = .int .i64 (i : Int) ∧ i ≤ n ∧ Hid (∀ j, j < i → (fileOf l j).1.size ≤ 2000 ∧ (fileOf l j).2.size ≤ 3000)) (fun _ t3 => n - (intOf t3).toNat)
  case atStart => exact ⟨0, rfl, rfl, Nat.zero_le _, fun j hj => by omega⟩
  case round =>
    obtain ⟨i, rfl, rfl, hi, HI⟩ := hrel
    by_cases hin : i < n
    · obtain ⟨x, hx, h0, h1⟩ := HL.out.at (j := i) (by rw [← HN.out]; exact hin)
      subst hx
      have HI2 : Hid ((fileOf l i).1.size ≤ 2000 ∧ (fileOf l i).2.size ≤ 3000 → ∀ j, j < i + 1 → (fileOf l j).1.size ≤ 2000 ∧ (fileOf l j).2.size ≤ 3000) := fun hq j hj => by
        by_cases hji : j = i
        · subst hji; exact hq
        · exact HI.out j (by omega)
      generalize fileOf l i = e at h0 h1 HI2
      obtain ⟨p, bs⟩ := e
      have hix := index_file x n cap i hin
      simp only at h0 h1 HI2
      generalize x.add (i * 2) = q at h0 h1 hix
      obtain ⟨z, hz⟩ : ∃ z, z = p.size := ⟨_, rfl⟩
      have hlen := Tree.len_text p z hz
      obtain ⟨y, hy⟩ : ∃ y, y = bs.size := ⟨_, rfl⟩
      have hlen2 := Tree.len_text bs y hy
      rw [← hz, ← hy] at HI2
      clear hz hy HI
      by_cases hz2 : 2000 < z
      · go_wp2
        go_ret
        exact ⟨.no rfl, rfl⟩
      by_cases hy2 : 3000 < y
      · go_wp2
        go_ret
        exact ⟨.no rfl, rfl⟩
      have HI3 : Hid (∀ j, j < i + 1 → (fileOf l j).1.size ≤ 2000 ∧ (fileOf l j).2.size ≤ 3000) := HI2.out ⟨by omega, by omega⟩
      clear HI2
      go_wp2
      go_round
      case rel => exact ⟨i + 1, rfl, by go_num, by omega, HI3⟩
      case measure => simp [intOf]; omega
    · go_wp2
      go_ret
      exact ⟨.yes rfl (by omega) (fun j hj => HI.out j (by omega)), rfl⟩

/-- What 'Build' tells of files, by a cut that may be. -/
theorem build_any (a : Option Addr) (n cap : Nat) (l : List (ByteArray × ByteArray)) (m M K : Nat) (w : World) (hm : 1 ≤ m) (hmM : m ≤ M) (hM : M ≤ 64) (hK : K < 256) (hn : n ≤ 32) (hl : FilesOk n l) (hl0 : LiesF w a l) (hc : n ≤ cap) :
    Calls Tryd.prog 7 #[.slice a n cap, cutV (m : Int) (M : Int) (K : Int)] w fun e w' => (Good l ∧ ∃ v Y, e = .returned (.tuple #[v, .nilIface]) ∧ Ents w.heap.size v Y w w' ∧ Sorted (Y.map (·.1)) ∧ (Y.map (·.1)).Perm (l.map (entF m M K))) ∨ (¬ Good l ∧ (∃ v, e = .returned (.tuple #[.slice none 0 0, v]) ∧ Bad v) ∧ Below w.heap.size w w') := by
  refine build_core _ a n cap l m M K w hm hmM hM hK hn hl hl0 hc ?_ ?_
  · intro j hj _ hne v w' hv hb
    exact .inr ⟨fun hg => hne ((good_iff hl.1).2 hg j hj), ⟨v, rfl, hv.bad hne⟩, hb⟩
  · intro h v Y w' hen hs hp
    exact .inl ⟨(good_iff hl.1).1 h, v, Y, rfl, hen, List.pairwise_map.2 hs, hp⟩
end Go.Proofs.YtcjkficpiedpfabDoor.Tree
