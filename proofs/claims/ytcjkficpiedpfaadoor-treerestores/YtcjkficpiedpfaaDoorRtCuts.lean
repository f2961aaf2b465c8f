/-
  Texts and their parts: parts joined are the path; what is under a path begins with it and a slash.
-/
import Derived.Test.YtcjkficpiedpfaaDoorRtUnder
namespace Go.Proofs.YtcjkficpiedpfaaDoor.Route

/-- What stands between slashes, of a list of bytes, with what was read of the piece. -/
def cuts (acc : List UInt8) : List UInt8 → List (List UInt8)
  | [] => [acc]
  | b :: r => if b = 47 then acc :: cuts [] r else cuts (acc ++ [b]) r

theorem cuts_ne (acc r : List UInt8) : cuts acc r ≠ [] := by
  induction r generalizing acc with
  | nil => simp [cuts]
  | cons b r ih =>
    simp only [cuts]
    split
    · simp
    · exact ih _

theorem bt_list (s : ByteArray) (i : Nat) (h : i < s.size) : (bt s i = 47) ↔ (s.data.toList[i]'(by rw [← Lib.size_eq]; exact h)) = 47 := by
  rw [← bt_at s i h]
  constructor
  · intro e
    apply UInt8.toNat.inj
    exact e
  · intro e
    have : s[i] = 47 := e
    rw [this]; rfl

theorem pieces_cuts (s : ByteArray) (fuel start i : Nat) (hf : s.size ≤ i + fuel) (hst : start ≤ i) (hi : i ≤ s.size) :
    (pieces s fuel start i).map (·.data.toList) = cuts ((s.data.toList.drop start).take (i - start)) (s.data.toList.drop i) := by
  have hsz : s.data.toList.length = s.size := (Lib.size_eq s).symm
  have hend : s.data.toList.drop s.size = [] := List.drop_of_length_le (by omega)
  induction fuel generalizing start i with
  | zero =>
    have : i = s.size := by omega
    subst this
    rw [hend]
    simp only [pieces, cuts, List.map_cons, List.map_nil]
    congr 1
    rw [ByteArray.data_extract, Array.toList_extract]
  | succ f ih =>
    by_cases h : i < s.size
    · have hd : s.data.toList.drop i = (s.data.toList[i]'(by omega)) :: s.data.toList.drop (i + 1) := List.drop_eq_getElem_cons (by omega)
      by_cases hb : bt s i = 47
      · rw [pieces_slash s f start i h hb, hd, cuts, if_pos ((bt_list s i h).1 hb), List.map_cons, ih (i + 1) (i + 1) (by omega) (by omega) (by omega)]
        congr 1
        · rw [ByteArray.data_extract, Array.toList_extract]
        · simp
      · rw [pieces_on s f start i h hb, hd, cuts, if_neg (fun e => hb ((bt_list s i h).2 e)), ih start (i + 1) (by omega) (by omega) (by omega)]
        congr 1
        rw [show i + 1 - start = (i - start) + 1 from by omega, List.take_add_one]
        congr 1
        rw [List.getElem?_drop, show start + (i - start) = i from by omega, List.getElem?_eq_getElem (by omega)]
        rfl
    · have : i = s.size := by omega
      subst this
      rw [pieces_end s _ start s.size (by omega), hend]
      simp only [cuts, List.map_cons, List.map_nil]
      congr 1
      rw [ByteArray.data_extract, Array.toList_extract]

theorem parts_cuts (s : ByteArray) : (parts s).map (·.data.toList) = cuts [] s.data.toList := by
  have := pieces_cuts s s.size 0 0 (by omega) (by omega) (by omega)
  simpa [parts] using this

theorem join_cuts (acc r : List UInt8) : Lib.join (cuts acc r) [47] = acc ++ r := by
  induction r generalizing acc with
  | nil => simp [cuts, Lib.join_one]
  | cons b r ih =>
    simp only [cuts]
    split
    · rename_i h
      subst h
      obtain ⟨x, m, e⟩ : ∃ x m, cuts [] r = x :: m := by
        cases hc : cuts [] r with
        | nil => exact absurd hc (cuts_ne _ _)
        | cons x m => exact ⟨x, m, rfl⟩
      have h2 := ih []
      rw [e, Lib.join_cons] at h2
      rw [Lib.join_cons, e]
      simp only [Lib.joinTail, List.map_cons, List.flatten_cons] at h2 ⊢
      rw [List.append_assoc, h2]
      simp
    · rw [ih]; simp

theorem joined_parts (s : ByteArray) : joined (parts s) = s := by
  rw [joined, parts_cuts, join_cuts]
  simp

theorem cuts_plain (acc x r : List UInt8) (h : ∀ b ∈ x, b ≠ 47) : cuts acc (x ++ r) = cuts (acc ++ x) r := by
  induction x generalizing acc with
  | nil => simp
  | cons b x ih =>
    have hb := h b (by simp)
    rw [List.cons_append, cuts, if_neg hb, ih _ (fun c hc => h c (by simp [hc]))]
    simp

theorem cuts_tail (x : List UInt8) (m : List (List UInt8)) (h : ∀ y ∈ m, ∀ b ∈ y, b ≠ 47) : cuts x (Lib.joinTail [47] m) = x :: m := by
  induction m generalizing x with
  | nil => simp [Lib.joinTail, cuts]
  | cons y m ih =>
    have e : Lib.joinTail [47] (y :: m) = 47 :: (y ++ Lib.joinTail [47] m) := by simp [Lib.joinTail]
    rw [e, cuts, if_pos rfl, cuts_plain [] y _ (h y (by simp)), List.nil_append, ih y (fun z hz => h z (by simp [hz]))]

theorem cuts_join (x : List UInt8) (m : List (List UInt8)) (h : ∀ y ∈ x :: m, ∀ b ∈ y, b ≠ 47) : cuts [] (Lib.join (x :: m) [47]) = x :: m := by
  rw [Lib.join_cons, cuts_plain [] x _ (h x (by simp)), List.nil_append, cuts_tail x m (fun y hy => h y (by simp [hy]))]

theorem cuts_no (acc r : List UInt8) (ha : ∀ b ∈ acc, b ≠ 47) : ∀ y ∈ cuts acc r, ∀ b ∈ y, b ≠ 47 := by
  induction r generalizing acc with
  | nil => intro y hy; simp [cuts] at hy; subst hy; exact ha
  | cons b r ih =>
    intro y hy
    simp only [cuts] at hy
    split at hy
    · rcases List.mem_cons.1 hy with rfl | hy
      · exact ha
      · exact ih [] (by simp) y hy
    · rename_i hb
      exact ih (acc ++ [b]) (by
        intro c hc
        rcases List.mem_append.1 hc with h | h
        · exact ha c h
        · simp at h; subst h; exact hb) y hy

theorem parts_no_slash (s : ByteArray) : ∀ x ∈ parts s, ∀ b ∈ x.data.toList, b ≠ 47 := by
  intro x hx
  have : x.data.toList ∈ (parts s).map (·.data.toList) := List.mem_map_of_mem hx
  rw [parts_cuts] at this
  exact cuts_no [] _ (by simp) _ this

theorem toList_inj {l m : List ByteArray} (h : l.map (·.data.toList) = m.map (·.data.toList)) : l = m := by
  induction l generalizing m with
  | nil => cases m with
    | nil => rfl
    | cons y m => simp at h
  | cons x l ih => cases m with
    | nil => simp at h
    | cons y m =>
      simp only [List.map_cons, List.cons.injEq] at h
      rw [ih h.2]
      congr 1
      apply ByteArray.ext
      exact Array.ext' h.1

theorem parts_joined (l : List ByteArray) (h0 : l ≠ []) (h : ∀ x ∈ l, ∀ b ∈ x.data.toList, b ≠ 47) : parts (joined l) = l := by
  apply toList_inj
  rw [parts_cuts]
  show cuts [] (Lib.join (l.map (·.data.toList)) [47]).toArray.toList = _
  cases l with
  | nil => exact absurd rfl h0
  | cons x l =>
    rw [List.map_cons, cuts_join]
    intro y hy
    have hy' : y ∈ (x :: l).map (fun x => x.data.toList) := hy
    obtain ⟨z, hz, rfl⟩ := List.mem_map.1 hy'
    exact h z hz

theorem isPart_empty : isPart ⟨#[]⟩ = false := by decide +kernel

theorem joined_ne (l : List ByteArray) (h0 : l ≠ []) (h : ∀ x ∈ l, isPart x = true) : joined l ≠ ⟨#[]⟩ := by
  intro e
  have hp : (joined l).data.toList = [] := by rw [e]
  have hp2 : Lib.join (l.map (·.data.toList)) [47] = [] := hp
  cases l with
  | nil => exact h0 rfl
  | cons x l =>
    rw [List.map_cons, Lib.join_cons] at hp2
    have hx : x.data.toList = [] := (List.append_eq_nil_iff.1 hp2).1
    have : x = ⟨#[]⟩ := by
      apply ByteArray.ext
      exact Array.ext' hx
    have h1 := h x (by simp)
    rw [this, isPart_empty] at h1
    cases h1

theorem path_all {s : ByteArray} (h : isPath s = true) : ∀ x ∈ parts s, isPart x = true := by
  simp only [isPath, arePath, Bool.and_eq_true, List.all_eq_true] at h
  exact h.2

theorem under_iff (d s : ByteArray) : isUnder d s = true ↔ isPath d = true ∧ isPath s = true ∧ (parts d).length < (parts s).length ∧ (parts s).take (parts d).length = parts d := by
  simp only [isUnder, Bool.and_eq_true, decide_eq_true_eq, and_assoc]


theorem cuts_app (acc x y : List UInt8) : cuts acc (x ++ 47 :: y) = cuts acc x ++ cuts [] y := by
  induction x generalizing acc with
  | nil => simp [cuts]
  | cons b x ih =>
    rw [List.cons_append, cuts, cuts]
    split
    · rw [ih, List.cons_append]
    · exact ih _

theorem tail_app (l m : List (List UInt8)) : Lib.joinTail [47] (l ++ m) = Lib.joinTail [47] l ++ Lib.joinTail [47] m := by
  simp [Lib.joinTail]

theorem join_app (l m : List (List UInt8)) (hl : l ≠ []) (hm : m ≠ []) : Lib.join (l ++ m) [47] = Lib.join l [47] ++ 47 :: Lib.join m [47] := by
  cases l with
  | nil => exact absurd rfl hl
  | cons x l =>
    cases m with
    | nil => exact absurd rfl hm
    | cons y m =>
      rw [List.cons_append, Lib.join_cons, Lib.join_cons, Lib.join_cons, tail_app]
      simp [Lib.joinTail]

/-- A path is under a text just where it is longer by more than a slash, and begins with it and a slash. -/
theorem under_list (d p : ByteArray) (hp : isPath p = true) : isUnder d p = true ↔ ∃ t : List UInt8, t ≠ [] ∧ p.data.toList = d.data.toList ++ 47 :: t := by
  rw [under_iff]
  constructor
  · rintro ⟨hd, _, hlt, htk⟩
    obtain ⟨R, hR⟩ : ∃ R, R = (parts p).drop (parts d).length := ⟨_, rfl⟩
    have hpR : parts p = parts d ++ R := by
      rw [hR]
      conv => lhs; rw [← List.take_append_drop (parts d).length (parts p), htk]
    have hRn : R ≠ [] := by
      intro e
      rw [hpR, e, List.append_nil] at hlt
      omega
    have h1 : p.data.toList = Lib.join (cuts [] p.data.toList) [47] := by rw [join_cuts, List.nil_append]
    have h2 : d.data.toList = Lib.join (cuts [] d.data.toList) [47] := by rw [join_cuts, List.nil_append]
    refine ⟨Lib.join (R.map (·.data.toList)) [47], ?_, ?_⟩
    · intro e
      have : joined R = ⟨#[]⟩ := by rw [joined, e]
      exact joined_ne R hRn (fun x hx => path_all hp x (by rw [hpR]; exact List.mem_append_right _ hx)) this
    · rw [h1, ← parts_cuts, hpR, List.map_append, join_app _ _ (by rw [parts_cuts]; exact cuts_ne _ _) (by simpa using hRn), parts_cuts, ← h2]
  · rintro ⟨t, ht, e⟩
    have hm : (parts p).map (·.data.toList) = (parts d).map (·.data.toList) ++ cuts [] t := by
      rw [parts_cuts, parts_cuts, e, cuts_app]
    have hlen := congrArg List.length hm
    rw [List.length_append, List.length_map, List.length_map] at hlen
    have hc : 0 < (cuts [] t).length := List.length_pos_iff.2 (cuts_ne _ _)
    have htk : (parts p).take (parts d).length = parts d := by
      apply toList_inj
      rw [List.map_take, hm, List.take_left' (by rw [List.length_map])]
    have hpl := path_len hp
    refine ⟨?_, hp, by omega, htk⟩
    simp only [isPath, arePath, Bool.and_eq_true, decide_eq_true_eq, List.all_eq_true]
    refine ⟨⟨List.length_pos_iff.2 (pieces_ne d _ _ _), by omega⟩, fun x hx => path_all hp x ?_⟩
    rw [← htk] at hx
    exact List.mem_of_mem_take hx

theorem under_begins (d p : ByteArray) (hp : isPath p = true) : isUnder d p = decide (d.size + 1 < p.size ∧ p.extract 0 (d.size + 1) = d ++ ⟨#[47]⟩) := by
  rw [Bool.eq_iff_iff, under_list d p hp, decide_eq_true_eq]
  constructor
  · rintro ⟨t, ht, e⟩
    have hl := congrArg List.length e
    rw [List.length_append, List.length_cons, ← Lib.size_eq, ← Lib.size_eq] at hl
    have h0 : 0 < t.length := List.length_pos_iff.2 ht
    refine ⟨by omega, ?_⟩
    apply ByteArray.ext
    apply Array.ext'
    rw [ByteArray.data_append, Array.toList_append, ByteArray.data_extract, Array.toList_extract, e]
    rw [List.extract, List.drop_zero, Nat.sub_zero, List.take_append, Lib.size_eq, List.take_of_length_le (by omega)]
    simp
  · rintro ⟨h1, h2⟩
    refine ⟨p.data.toList.drop (d.size + 1), ?_, ?_⟩
    · intro e
      have := congrArg List.length e
      rw [List.length_drop, ← Lib.size_eq] at this
      simp at this
      omega
    · have h3 := congrArg (·.data.toList) h2
      simp only [ByteArray.data_append, Array.toList_append, ByteArray.data_extract, Array.toList_extract] at h3
      simp only [List.extract, List.drop_zero, Nat.sub_zero] at h3
      conv => lhs; rw [← List.take_append_drop (d.size + 1) p.data.toList, h3]
      simp
end Go.Proofs.YtcjkficpiedpfaaDoor.Route
