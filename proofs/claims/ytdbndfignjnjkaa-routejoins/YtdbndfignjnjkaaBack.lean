/-
  What follows of texts and their parts: parts joined are the path; the parts of parts joined are these; what is under what is under a path is under it.
-/
import Derived.Test.YtdbndfignjnjkaaUnder
namespace Go.Proofs.Ytdbndfignjnjkaa

/-- What stands between slashes, of a list of bytes, with what was read of the piece. -/
def cuts (acc : List UInt8) : List UInt8 → List (List UInt8)
  | [] => [acc]
  | b :: r => if b = 47 then acc :: cuts [] r else cuts (acc ++ [b]) r

theorem cuts_ne (acc r : List UInt8) : cuts acc r ≠ [] := by
  induction r generalizing acc with
  | nil => simp [cuts]
  | cons b r ih =>
    simp only [cuts]
    split
    · simp
    · exact ih _

theorem bt_list (s : ByteArray) (i : Nat) (h : i < s.size) : (bt s i = 47) ↔ (s.data.toList[i]'(by rw [← Lib.size_eq]; exact h)) = 47 := by
  rw [← bt_at s i h]
  constructor
  · intro e
    apply UInt8.toNat.inj
    exact e
  · intro e
    have : s[i] = 47 := e
    rw [this]; rfl

theorem pieces_cuts (s : ByteArray) (fuel start i : Nat) (hf : s.size ≤ i + fuel) (hst : start ≤ i) (hi : i ≤ s.size) :
    (pieces s fuel start i).map (·.data.toList) = cuts ((s.data.toList.drop start).take (i - start)) (s.data.toList.drop i) := by
  have hsz : s.data.toList.length = s.size := (Lib.size_eq s).symm
  have hend : s.data.toList.drop s.size = [] := List.drop_of_length_le (by omega)
  induction fuel generalizing start i with
  | zero =>
    have : i = s.size := by omega
    subst this
    rw [hend]
    simp only [pieces, cuts, List.map_cons, List.map_nil]
    congr 1
    rw [ByteArray.data_extract, Array.toList_extract]
  | succ f ih =>
    by_cases h : i < s.size
    · have hd : s.data.toList.drop i = (s.data.toList[i]'(by omega)) :: s.data.toList.drop (i + 1) := List.drop_eq_getElem_cons (by omega)
      by_cases hb : bt s i = 47
      · rw [pieces_slash s f start i h hb, hd, cuts, if_pos ((bt_list s i h).1 hb), List.map_cons, ih (i + 1) (i + 1) (by omega) (by omega) (by omega)]
        congr 1
        · rw [ByteArray.data_extract, Array.toList_extract]
        · simp
      · rw [pieces_on s f start i h hb, hd, cuts, if_neg (fun e => hb ((bt_list s i h).2 e)), ih start (i + 1) (by omega) (by omega) (by omega)]
        congr 1
        rw [show i + 1 - start = (i - start) + 1 from by omega, List.take_add_one]
        congr 1
        rw [List.getElem?_drop, show start + (i - start) = i from by omega, List.getElem?_eq_getElem (by omega)]
        rfl
    · have : i = s.size := by omega
      subst this
      rw [pieces_end s _ start s.size (by omega), hend]
      simp only [cuts, List.map_cons, List.map_nil]
      congr 1
      rw [ByteArray.data_extract, Array.toList_extract]

theorem parts_cuts (s : ByteArray) : (parts s).map (·.data.toList) = cuts [] s.data.toList := by
  have := pieces_cuts s s.size 0 0 (by omega) (by omega) (by omega)
  simpa [parts] using this

theorem join_cuts (acc r : List UInt8) : Lib.join (cuts acc r) [47] = acc ++ r := by
  induction r generalizing acc with
  | nil => simp [cuts, Lib.join_one]
  | cons b r ih =>
    simp only [cuts]
    split
    · rename_i h
      subst h
      obtain ⟨x, m, e⟩ : ∃ x m, cuts [] r = x :: m := by
        cases hc : cuts [] r with
        | nil => exact absurd hc (cuts_ne _ _)
        | cons x m => exact ⟨x, m, rfl⟩
      have h2 := ih []
      rw [e, Lib.join_cons] at h2
      rw [Lib.join_cons, e]
      simp only [Lib.joinTail, List.map_cons, List.flatten_cons] at h2 ⊢
      rw [List.append_assoc, h2]
      simp
    · rw [ih]; simp

theorem joined_parts (s : ByteArray) : joined (parts s) = s := by
  rw [joined, parts_cuts, join_cuts]
  simp

theorem cuts_plain (acc x r : List UInt8) (h : ∀ b ∈ x, b ≠ 47) : cuts acc (x ++ r) = cuts (acc ++ x) r := by
  induction x generalizing acc with
  | nil => simp
  | cons b x ih =>
    have hb := h b (by simp)
    rw [List.cons_append, cuts, if_neg hb, ih _ (fun c hc => h c (by simp [hc]))]
    simp

theorem cuts_tail (x : List UInt8) (m : List (List UInt8)) (h : ∀ y ∈ m, ∀ b ∈ y, b ≠ 47) : cuts x (Lib.joinTail [47] m) = x :: m := by
  induction m generalizing x with
  | nil => simp [Lib.joinTail, cuts]
  | cons y m ih =>
    have e : Lib.joinTail [47] (y :: m) = 47 :: (y ++ Lib.joinTail [47] m) := by simp [Lib.joinTail]
    rw [e, cuts, if_pos rfl, cuts_plain [] y _ (h y (by simp)), List.nil_append, ih y (fun z hz => h z (by simp [hz]))]

theorem cuts_join (x : List UInt8) (m : List (List UInt8)) (h : ∀ y ∈ x :: m, ∀ b ∈ y, b ≠ 47) : cuts [] (Lib.join (x :: m) [47]) = x :: m := by
  rw [Lib.join_cons, cuts_plain [] x _ (h x (by simp)), List.nil_append, cuts_tail x m (fun y hy => h y (by simp [hy]))]

theorem cuts_no (acc r : List UInt8) (ha : ∀ b ∈ acc, b ≠ 47) : ∀ y ∈ cuts acc r, ∀ b ∈ y, b ≠ 47 := by
  induction r generalizing acc with
  | nil => intro y hy; simp [cuts] at hy; subst hy; exact ha
  | cons b r ih =>
    intro y hy
    simp only [cuts] at hy
    split at hy
    · rcases List.mem_cons.1 hy with rfl | hy
      · exact ha
      · exact ih [] (by simp) y hy
    · rename_i hb
      exact ih (acc ++ [b]) (by
        intro c hc
        rcases List.mem_append.1 hc with h | h
        · exact ha c h
        · simp at h; subst h; exact hb) y hy

theorem parts_no_slash (s : ByteArray) : ∀ x ∈ parts s, ∀ b ∈ x.data.toList, b ≠ 47 := by
  intro x hx
  have : x.data.toList ∈ (parts s).map (·.data.toList) := List.mem_map_of_mem hx
  rw [parts_cuts] at this
  exact cuts_no [] _ (by simp) _ this

theorem toList_inj {l m : List ByteArray} (h : l.map (·.data.toList) = m.map (·.data.toList)) : l = m := by
  induction l generalizing m with
  | nil => cases m with
    | nil => rfl
    | cons y m => simp at h
  | cons x l ih => cases m with
    | nil => simp at h
    | cons y m =>
      simp only [List.map_cons, List.cons.injEq] at h
      rw [ih h.2]
      congr 1
      apply ByteArray.ext
      exact Array.ext' h.1

theorem parts_joined (l : List ByteArray) (h0 : l ≠ []) (h : ∀ x ∈ l, ∀ b ∈ x.data.toList, b ≠ 47) : parts (joined l) = l := by
  apply toList_inj
  rw [parts_cuts]
  show cuts [] (Lib.join (l.map (·.data.toList)) [47]).toArray.toList = _
  cases l with
  | nil => exact absurd rfl h0
  | cons x l =>
    rw [List.map_cons, cuts_join]
    intro y hy
    have hy' : y ∈ (x :: l).map (fun x => x.data.toList) := hy
    obtain ⟨z, hz, rfl⟩ := List.mem_map.1 hy'
    exact h z hz

theorem isPart_empty : isPart ⟨#[]⟩ = false := by decide +kernel

theorem joined_ne (l : List ByteArray) (h0 : l ≠ []) (h : ∀ x ∈ l, isPart x = true) : joined l ≠ ⟨#[]⟩ := by
  intro e
  have hp : (joined l).data.toList = [] := by rw [e]
  have hp2 : Lib.join (l.map (·.data.toList)) [47] = [] := hp
  cases l with
  | nil => exact h0 rfl
  | cons x l =>
    rw [List.map_cons, Lib.join_cons] at hp2
    have hx : x.data.toList = [] := (List.append_eq_nil_iff.1 hp2).1
    have : x = ⟨#[]⟩ := by
      apply ByteArray.ext
      exact Array.ext' hx
    have h1 := h x (by simp)
    rw [this, isPart_empty] at h1
    cases h1

theorem path_all {s : ByteArray} (h : isPath s = true) : ∀ x ∈ parts s, isPart x = true := by
  simp only [isPath, arePath, Bool.and_eq_true, List.all_eq_true] at h
  exact h.2

/-- A path's parent: empty just where it has one part; else a path that it is under. -/
theorem up_empty {s : ByteArray} (h1 : (parts s).length = 1) : up s = ⟨#[]⟩ := by
  rw [up, h1]; rfl

theorem up_more {s : ByteArray} (h : isPath s = true) (h1 : (parts s).length ≠ 1) : up s ≠ ⟨#[]⟩ ∧ isUnder (up s) s = true := by
  have hl := path_len h
  have hall := path_all h
  have hn : (parts s).take ((parts s).length - 1) ≠ [] := by
    intro e
    have := congrArg List.length e
    rw [List.length_take] at this
    simp at this
    omega
  have hp : parts (up s) = (parts s).take ((parts s).length - 1) := by
    rw [up]
    exact parts_joined _ hn (fun x hx => parts_no_slash s x (List.mem_of_mem_take hx))
  have hlen : ((parts s).take ((parts s).length - 1)).length = (parts s).length - 1 := by rw [List.length_take]; omega
  constructor
  · rw [up]
    exact joined_ne _ hn (fun x hx => hall x (List.mem_of_mem_take hx))
  · have hup : isPath (up s) = true := by
      rw [isPath, hp]
      simp only [arePath, Bool.and_eq_true, decide_eq_true_eq, List.all_eq_true]
      exact ⟨by rw [hlen]; omega, fun x hx => hall x (List.mem_of_mem_take hx)⟩
    rw [isUnder, hup, h, hp, hlen]
    simp only [Bool.true_and, decide_eq_true_eq]
    exact ⟨by omega, trivial⟩

theorem under_iff (d s : ByteArray) : isUnder d s = true ↔ isPath d = true ∧ isPath s = true ∧ (parts d).length < (parts s).length ∧ (parts s).take (parts d).length = parts d := by
  simp only [isUnder, Bool.and_eq_true, decide_eq_true_eq, and_assoc]

theorem under_trans {a b c : ByteArray} (h1 : isUnder a b = true) (h2 : isUnder b c = true) : isUnder a c = true := by
  rw [under_iff] at h1 h2 ⊢
  obtain ⟨p1, p2, p3, p4⟩ := h1
  obtain ⟨q1, q2, q3, q4⟩ := h2
  refine ⟨p1, q2, by omega, ?_⟩
  rw [← p4]
  conv => rhs; rw [← q4]
  rw [List.take_take, List.length_take]

theorem under_not {a b : ByteArray} (h1 : isUnder a b = true) : isUnder b a = false := by
  cases h : isUnder b a with
  | false => rfl
  | true =>
    rw [under_iff] at h1 h
    omega

theorem under_self (a : ByteArray) : isUnder a a = false := by
  cases h : isUnder a a with
  | false => rfl
  | true =>
    rw [under_iff] at h
    omega

/-- One part more, as the document's answer puts it together. -/
theorem joined_step (l : List ByteArray) (i : Nat) (h : i < l.length) : joined (l.take (i + 1)) = (if i = 0 then ⟨#[]⟩ else joined (l.take i) ++ ⟨#[47]⟩) ++ l.getD i ByteArray.empty := by
  cases l with
  | nil => simp at h
  | cons x r =>
    cases i with
    | zero =>
      rw [if_pos rfl]
      apply ByteArray.ext
      simp [joined, Lib.join_one]
    | succ k =>
      rw [if_neg (by omega)]
      have hk : k < r.length := by simpa using h
      have e := Lib.joinTail_take_succ [47] (r.map (·.data.toList)) k r[k].data.toList (by simp [List.getElem?_eq_getElem hk])
      apply ByteArray.ext
      rw [ByteArray.data_append, ByteArray.data_append]
      apply Array.ext'
      simp only [joined, List.take_succ_cons, List.map_cons, Lib.join_cons, Array.toList_append]
      rw [List.map_take, List.map_take, e]
      simp [List.getElem?_eq_getElem hk]
end Go.Proofs.Ytdbndfignjnjkaa
