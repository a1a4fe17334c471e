/-
  Texts as lists of bytes: pieces at a byte, words, numbers; apart from any program.
-/
import Derived.Lib.ItoaNum
import Derived.Lib.Strings
import Derived.Lib.SmallJoins
namespace Go.Proofs.YtmlflmlgjjjmfaaDoor

/-- A text's bytes; the text of bytes. -/
def bl (s : ByteArray) : List UInt8 := s.data.toList
def ba (l : List UInt8) : ByteArray := ⟨l.toArray⟩
theorem bl_ba (l : List UInt8) : bl (ba l) = l := by simp [bl, ba]
theorem ba_bl (s : ByteArray) : ba (bl s) = s := Lib.mk_data s
theorem size_bl (s : ByteArray) : s.size = (bl s).length := Lib.size_eq s
theorem ba_size (l : List UInt8) : (ba l).size = l.length := by rw [size_bl, bl_ba]
theorem toList_bl (s : ByteArray) : s.toList = bl s := Lib.toList_data s
theorem bl_add (a b : ByteArray) : bl (a ++ b) = bl a ++ bl b := Joins.data_append a b
theorem bl_cut (s : ByteArray) (a b : Nat) : bl (s.extract a b) = ((bl s).drop a).take (b - a) := Lib.extract_data s a b
theorem bl_inj {a b : ByteArray} (h : bl a = bl b) : a = b := by rw [← ba_bl a, ← ba_bl b, h]
theorem bl_get (s : ByteArray) (k : Nat) (h : k < s.size) : (bl s)[k]? = some (s[k]'h) := by
  rw [List.getElem?_eq_getElem (by rw [← size_bl]; exact h)]; rfl
theorem take_bl (s : ByteArray) (k : Nat) (h : k < s.size) : (bl s).take (k + 1) = (bl s).take k ++ [s[k]'h] := by
  rw [List.take_succ_eq_append_getElem (by rw [← size_bl]; exact h)]; rfl
theorem same_text (a b : ByteArray) : (a.toList == b.toList) = (bl a == bl b) := by rw [toList_bl, toList_bl]

/-! ### Pieces -/
def step (c : UInt8) (p : List (List UInt8) × List UInt8) (b : UInt8) : List (List UInt8) × List UInt8 :=
  if b = c then (p.1 ++ [p.2], []) else (p.1, p.2 ++ [b])
def cutF (c : UInt8) (l : List UInt8) : List (List UInt8) × List UInt8 := l.foldl (step c) ([], [])
def layL (c : UInt8) (xs : List (List UInt8)) : List UInt8 := xs.flatMap (· ++ [c])

theorem cutF_snoc (c : UInt8) (l : List UInt8) (b : UInt8) : cutF c (l ++ [b]) = step c (cutF c l) b := by simp [cutF]
theorem fold_far (c : UInt8) : ∀ (bs : List UInt8) (p : List (List UInt8) × List UInt8), c ∉ bs → bs.foldl (step c) p = (p.1, p.2 ++ bs)
  | [], p, _ => by simp
  | b :: bs, p, h => by
    simp only [List.mem_cons, not_or] at h
    rw [List.foldl_cons, fold_far c bs _ h.2]
    simp [step, Ne.symm h.1]
theorem cutF_far (c : UInt8) (l bs : List UInt8) (h : c ∉ bs) : cutF c (l ++ bs) = ((cutF c l).1, (cutF c l).2 ++ bs) := by
  unfold cutF; rw [List.foldl_append, fold_far c bs _ h]
theorem fold_from (c : UInt8) : ∀ (l : List UInt8) (p : List (List UInt8)) (r : List UInt8) (q : List (List UInt8)), l.foldl (step c) (q ++ p, r) = (q ++ (l.foldl (step c) (p, r)).1, (l.foldl (step c) (p, r)).2)
  | [], _, _, _ => rfl
  | b :: l, p, r, q => by
    rw [List.foldl_cons, List.foldl_cons]
    by_cases h : b = c
    · simp only [step, h, if_true, List.append_assoc]; exact fold_from c l (p ++ [r]) [] q
    · simp only [step, h, if_false]; exact fold_from c l p (r ++ [b]) q
theorem cutF_seam (c : UInt8) (a t : List UInt8) : cutF c (a ++ c :: t) = ((cutF c a).1 ++ (cutF c a).2 :: (cutF c t).1, (cutF c t).2) := by
  have e : cutF c (a ++ c :: t) = t.foldl (step c) ((cutF c a).1 ++ [(cutF c a).2], []) := by
    unfold cutF; rw [List.foldl_append, List.foldl_cons]; simp [step]
  rw [e]
  have := fold_from c t [] [] ((cutF c a).1 ++ [(cutF c a).2])
  rw [List.append_nil] at this
  rw [this]; simp [cutF]
theorem layL_append (c : UInt8) (xs ys : List (List UInt8)) : layL c (xs ++ ys) = layL c xs ++ layL c ys := by simp [layL]
theorem layL_one (c : UInt8) (x : List UInt8) : layL c [x] = x ++ [c] := by simp [layL]
theorem layL_cons (c : UInt8) (x : List UInt8) (xs : List (List UInt8)) : layL c (x :: xs) = x ++ c :: layL c xs := by simp [layL]

theorem snoc_ind {α : Type} {P : List α → Prop} (h0 : P []) (h1 : ∀ l a, P l → P (l ++ [a])) (l : List α) : P l := by
  rw [← List.reverse_reverse l]
  induction l.reverse with
  | nil => exact h0
  | cons a r ih => rw [List.reverse_cons]; exact h1 _ a ih

theorem lay_cut (c : UInt8) (l : List UInt8) : layL c (cutF c l).1 ++ (cutF c l).2 = l := by
  induction l using snoc_ind with
  | h0 => rfl
  | h1 l b ih =>
    rw [cutF_snoc]; unfold step
    by_cases h : b = c
    · rw [if_pos h, layL_append, layL_one, List.append_nil, ← List.append_assoc, ih, h]
    · rw [if_neg h, ← List.append_assoc, ih]
theorem cut_free (c : UInt8) (l : List UInt8) : (∀ x ∈ (cutF c l).1, c ∉ x) ∧ c ∉ (cutF c l).2 := by
  induction l using snoc_ind with
  | h0 => simp [cutF]
  | h1 l b ih =>
    rw [cutF_snoc]; unfold step
    by_cases h : b = c
    · rw [if_pos h]
      refine ⟨fun x hx => ?_, by simp⟩
      rcases List.mem_append.1 hx with h1 | h1
      · exact ih.1 x h1
      · rw [List.mem_singleton.1 h1]; exact ih.2
    · rw [if_neg h]
      refine ⟨ih.1, fun hx => ?_⟩
      rcases List.mem_append.1 hx with h1 | h1
      · exact ih.2 h1
      · exact h (List.mem_singleton.1 h1).symm
theorem cut_count (c : UInt8) (l : List UInt8) : (cutF c l).1.length = l.count c := by
  induction l using snoc_ind with
  | h0 => rfl
  | h1 l b ih =>
    rw [cutF_snoc, List.count_append, List.count_singleton]; unfold step
    by_cases h : b = c
    · simp [h, ih]
    · simp [h, ih]
theorem cut_one (c : UInt8) (r : List UInt8) (h : c ∉ r) : cutF c r = ([], r) := by
  have := cutF_far c [] r h
  simpa [cutF] using this
theorem cut_lay (c : UInt8) : ∀ (xs : List (List UInt8)) (t : List UInt8), (∀ x ∈ xs, c ∉ x) → cutF c (layL c xs ++ t) = (xs ++ (cutF c t).1, (cutF c t).2)
  | [], t, _ => by simp [layL]
  | x :: xs, t, h => by
    rw [layL_cons, List.append_assoc, List.cons_append, cutF_seam, cut_one c x (h x (by simp)), cut_lay c xs t (fun y hy => h y (by simp [hy]))]
    rfl

/-! ### Words -/
def wb (b : UInt8) : Bool := (decide (97 ≤ b) && decide (b ≤ 122)) || (decide (48 ≤ b) && decide (b ≤ 57))
def wordB (l : List UInt8) : Bool := !l.isEmpty && l.all wb
def wordsB (xs : List (List UInt8)) : Bool := !xs.isEmpty && xs.all wordB
def pieces (l : List UInt8) : List (List UInt8) := (cutF 32 l).1 ++ [(cutF 32 l).2]
def okW (l : List UInt8) : Bool := (pieces l).all wordB
def wordsL (l : List UInt8) : List (List UInt8) := if okW l then pieces l else []
def joinL (xs : List (List UInt8)) : List UInt8 := if wordsB xs then (layL 32 xs).dropLast else []

theorem pieces_mid (a b : List UInt8) : pieces (a ++ 32 :: b) = pieces a ++ pieces b := by
  unfold pieces; rw [cutF_seam]; simp
theorem pieces_nil : pieces [] = [[]] := rfl
theorem word_nil : wordB [] = false := rfl
theorem ok_words (l : List UInt8) : okW l = wordsB (pieces l) := by
  unfold okW wordsB
  have : (pieces l).isEmpty = false := by unfold pieces; simp
  rw [this]; rfl
theorem word_free {x : List UInt8} (h : wordB x = true) : (32 : UInt8) ∉ x := fun h1 => by
  unfold wordB at h
  rw [Bool.and_eq_true, List.all_eq_true] at h
  exact absurd (h.2 _ h1) (by decide)
theorem words_parts {xs : List (List UInt8)} (h : wordsB xs = true) : xs ≠ [] ∧ ∀ x ∈ xs, wordB x = true := by
  unfold wordsB at h
  rw [Bool.and_eq_true, List.all_eq_true] at h
  exact ⟨by intro e; rw [e] at h; simp at h, h.2⟩
theorem words_mk {xs : List (List UInt8)} (h0 : xs ≠ []) (h : ∀ x ∈ xs, wordB x = true) : wordsB xs = true := by
  unfold wordsB
  rw [Bool.and_eq_true, List.all_eq_true]
  exact ⟨by cases xs with | nil => exact absurd rfl h0 | cons => rfl, h⟩
theorem lay_drop (xs : List (List UInt8)) (x : List UInt8) : (layL 32 (xs ++ [x])).dropLast = layL 32 xs ++ x := by
  rw [layL_append, layL_one, ← List.append_assoc, List.dropLast_concat]
theorem split_last {xs : List (List UInt8)} (h : xs ≠ []) : ∃ ys y, xs = ys ++ [y] := ⟨xs.dropLast, xs.getLast h, (List.dropLast_concat_getLast h).symm⟩
theorem pieces_join {xs : List (List UInt8)} (h : wordsB xs = true) : pieces (joinL xs) = xs := by
  obtain ⟨h0, hw⟩ := words_parts h
  obtain ⟨ys, y, rfl⟩ := split_last h0
  unfold joinL; rw [if_pos h, lay_drop]; unfold pieces
  rw [cut_lay 32 ys y (fun x hx => word_free (hw x (by simp [hx]))), cut_one 32 y (word_free (hw y (by simp)))]
  simp
theorem ok_join {xs : List (List UInt8)} (h : wordsB xs = true) : okW (joinL xs) = true := by rw [ok_words, pieces_join h, h]
theorem words_join {xs : List (List UInt8)} (h : wordsB xs = true) : wordsL (joinL xs) = xs := by
  unfold wordsL; rw [if_pos (ok_join h), pieces_join h]
theorem join_ne {xs : List (List UInt8)} (h : wordsB xs = true) : joinL xs ≠ [] := fun e => by
  have := ok_join h
  rw [e] at this
  exact absurd this (by decide)
theorem join_not {xs : List (List UInt8)} (h : wordsB xs = false) : joinL xs = [] := by unfold joinL; rw [h]; rfl
theorem ok_nil : okW [] = false := rfl
theorem words_not {l : List UInt8} (h : okW l = false) : wordsL l = [] := by unfold wordsL; rw [h]; rfl
theorem words_yes {l : List UInt8} (h : okW l = true) : wordsL l = pieces l := by unfold wordsL; rw [h]; rfl
theorem join_pieces (l : List UInt8) (h : okW l = true) : joinL (pieces l) = l := by
  unfold joinL
  rw [← ok_words, if_pos h]
  unfold pieces
  rw [lay_drop, lay_cut]
theorem join_words {l : List UInt8} (h : okW l = true) : joinL (wordsL l) = l := by rw [words_yes h, join_pieces l h]
theorem words_len {l : List UInt8} (h : okW l = true) : 1 ≤ (wordsL l).length := by rw [words_yes h]; unfold pieces; simp
theorem ok_mid (a b : List UInt8) : okW (a ++ 32 :: b) = (okW a && okW b) := by
  unfold okW; rw [pieces_mid, List.all_append]
theorem ok_bytes {x : List UInt8} (h : okW x = true) : ∀ b ∈ x, b = 32 ∨ wb b = true := by
  have hp : ∀ y ∈ pieces x, ∀ b ∈ y, wb b = true := by
    intro y hy b hb
    have h1 := List.all_eq_true.1 h y hy
    unfold wordB at h1
    rw [Bool.and_eq_true, List.all_eq_true] at h1
    exact h1.2 b hb
  intro b hb
  rw [← lay_cut 32 x] at hb
  rcases List.mem_append.1 hb with h1 | h1
  · obtain ⟨y, hy, hb2⟩ := List.mem_flatMap.1 h1
    rcases List.mem_append.1 hb2 with h2 | h2
    · exact .inr (hp y (by unfold pieces; simp [hy]) b h2)
    · exact .inl (List.mem_singleton.1 h2)
  · exact .inr (hp _ (by unfold pieces; simp) b h1)

end Go.Proofs.YtmlflmlgjjjmfaaDoor
