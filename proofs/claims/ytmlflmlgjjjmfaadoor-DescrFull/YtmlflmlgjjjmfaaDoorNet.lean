/-
  Networks as texts: what a line tells, what a text tells, which line is the first that is wrong; apart from any program.
-/
import Derived.Test.YtmlflmlgjjjmfaaDoorNum
namespace Go.Proofs.YtmlflmlgjjjmfaaDoor

structure Ly where
  k : Int
  o : Int
  s : Int
  t : Int
structure Nt where
  c : Int
  h : Int
  x : Int
  ls : List Ly
def Nt.zero : Nt := ⟨0, 0, 0, []⟩

def winB (n : Int) : Bool := decide (0 ≤ n) && decide (n ≤ 999999)
def inW : List UInt8 := [105, 110]
def kw (k : Int) : List UInt8 := if k = 1 then [99, 111, 110, 118] else if k = 2 then [115, 113, 117, 97, 114, 101] else if k = 3 then [112, 111, 111, 108] else if k = 4 then [100, 101, 110, 115, 101] else []
def nums (l : Ly) : List Int := if l.k = 1 then [l.o, l.s, l.t] else if l.k = 3 then [l.s] else if l.k = 4 then [l.o] else []
def offs (k : Int) : List Nat := if k = 1 then [1, 2, 3] else if k = 3 then [2] else if k = 4 then [1] else []
def restB (l : Ly) : Bool := if l.k = 1 then true else if l.k = 3 then l.o == 0 && l.t == 0 else if l.k = 4 then l.s == 0 && l.t == 0 else l.o == 0 && l.s == 0 && l.t == 0
def kindB (k : Int) : Bool := decide (1 ≤ k) && decide (k ≤ 4)
def lyB (l : Ly) : Bool := kindB l.k && (nums l).all winB && restB l
def lineW (w : List UInt8) (ns : List Int) : List UInt8 := joinL (w :: ns.map numL)
def lyL (l : Ly) : List UInt8 := lineW (kw l.k) (nums l)
def inL (n : Nt) : List UInt8 := lineW inW [n.c, n.h, n.x]
def formB (n : Nt) : Bool := [n.c, n.h, n.x].all winB && decide (n.ls.length ≤ 8) && n.ls.all lyB
def linesN (n : Nt) : List (List UInt8) := inL n :: n.ls.map lyL
def printL (n : Nt) : List UInt8 := if formB n then layL 10 (linesN n) else []

def kindL (w : List UInt8) : Int := if w = kw 1 then 1 else if w = kw 2 then 2 else if w = kw 3 then 3 else if w = kw 4 then 4 else 0
def mkL (k : Int) (ns : List Int) : Ly := if k = 1 then ⟨1, ns.getD 0 0, ns.getD 1 0, ns.getD 2 0⟩ else if k = 3 then ⟨3, 0, ns.getD 0 0, 0⟩ else if k = 4 then ⟨4, ns.getD 0 0, 0, 0⟩ else ⟨k, 0, 0, 0⟩
def hdW (l : List UInt8) : List UInt8 := (wordsL l).getD 0 []
def tlW (l : List UInt8) : List (List UInt8) := (wordsL l).drop 1
def okIn (l : List UInt8) : Bool := okW l && (hdW l == inW) && ((tlW l).length == 3) && (tlW l).all getB
def okLy (l : List UInt8) : Bool := okW l && !(kindL (hdW l) == 0) && ((tlW l).length == (offs (kindL (hdW l))).length) && (tlW l).all getB
def lyOf (l : List UInt8) : Ly := mkL (kindL (hdW l)) ((tlW l).map getN)
def numAt (l : List UInt8) (j : Nat) : Int := ((tlW l).map getN).getD j 0
def okAt (i : Nat) (l : List UInt8) : Bool := if i = 0 then okIn l else okLy l
def takeL (n : Nt) (i : Nat) (l : List UInt8) : Nt := if i = 0 then ⟨numAt l 0, numAt l 1, numAt l 2, n.ls⟩ else ⟨n.c, n.h, n.x, n.ls ++ [lyOf l]⟩
def runL : List (List UInt8) → Nat → Nt → Nt × Nat × Int
  | [], _, n => (n, 0, 0)
  | l :: ls, i, n => if 9 ≤ i then (Nt.zero, i + 1, 5) else if okAt i l = true then runL ls (i + 1) (takeL n i l) else (Nt.zero, i + 1, 12)
def linesB (s : List UInt8) : List (List UInt8) := if s = [] ∨ (cutF 10 s).2 ≠ [] then (cutF 10 s).1 ++ [[]] else (cutF 10 s).1
def parseL (s : List UInt8) : Nt × Nat × Int := runL (linesB s) 0 Nt.zero

/-! ### Numbers and words -/
theorem win_parts {n : Int} (h : winB n = true) : 0 ≤ n ∧ n ≤ 999999 := by
  unfold winB at h; rw [Bool.and_eq_true, decide_eq_true_eq, decide_eq_true_eq] at h; exact h
theorem win_mk {n : Int} (h0 : 0 ≤ n) (h1 : n ≤ 999999) : winB n = true := by
  unfold winB; rw [Bool.and_eq_true, decide_eq_true_eq, decide_eq_true_eq]; exact ⟨h0, h1⟩
theorem dig_wb {b : UInt8} (h : isDig b = true) : wb b = true := by
  unfold isDig at h; unfold wb; rw [h, Bool.or_true]
theorem word_of_digs {l : List UInt8} (h0 : l ≠ []) (h : ∀ b ∈ l, isDig b = true) : wordB l = true := by
  unfold wordB
  rw [Bool.and_eq_true, List.all_eq_true]
  exact ⟨by cases l with | nil => exact absurd rfl h0 | cons => rfl, fun b hb => dig_wb (h b hb)⟩
theorem num_word {n : Int} (h : winB n = true) : wordB (numL n) = true := by
  obtain ⟨h0, h1⟩ := win_parts h
  rw [numL_in h0 h1]
  exact word_of_digs (dec_ne _) (dec_digs _)
theorem num_getB {n : Int} (h : winB n = true) : getB (numL n) = true := by
  obtain ⟨h0, h1⟩ := win_parts h
  rw [numL_in h0 h1]; exact getB_dec (by omega)
theorem num_getN {n : Int} (h : winB n = true) : getN (numL n) = n := by
  obtain ⟨h0, h1⟩ := win_parts h
  rw [numL_in h0 h1, getN_dec (by omega)]; omega
theorem get_win {l : List UInt8} (h : getB l = true) : winB (getN l) = true := by
  rw [getN_yes h]
  have := (getB_parts h).1
  exact win_mk (by omega) (by omega)
theorem nums_getB {ns : List Int} (h : ns.all winB = true) : (ns.map numL).all getB = true := by
  rw [List.all_eq_true] at h ⊢
  intro x hx
  obtain ⟨n, hn, rfl⟩ := List.mem_map.1 hx
  exact num_getB (h n hn)
theorem nums_getN {ns : List Int} (h : ns.all winB = true) : (ns.map numL).map getN = ns := by
  rw [List.all_eq_true] at h
  rw [List.map_map]
  conv => rhs; rw [← List.map_id ns]
  exact List.map_congr_left fun n hn => num_getN (h n hn)
theorem get_nums {ws : List (List UInt8)} (h : ws.all getB = true) : (ws.map getN).map numL = ws := by
  rw [List.all_eq_true] at h
  rw [List.map_map]
  conv => rhs; rw [← List.map_id ws]
  exact List.map_congr_left fun n hn => num_get (h n hn)
theorem get_wins {ws : List (List UInt8)} (h : ws.all getB = true) : (ws.map getN).all winB = true := by
  rw [List.all_eq_true] at h ⊢
  intro x hx
  obtain ⟨n, hn, rfl⟩ := List.mem_map.1 hx
  exact get_win (h n hn)
theorem line_words {w : List UInt8} {ns : List Int} (hw : wordB w = true) (h : ns.all winB = true) : wordsB (w :: ns.map numL) = true := by
  rw [List.all_eq_true] at h
  refine words_mk (by simp) fun x hx => ?_
  rcases List.mem_cons.1 hx with rfl | hx
  · exact hw
  · obtain ⟨n, hn, rfl⟩ := List.mem_map.1 hx
    exact num_word (h n hn)
theorem line_ok {w : List UInt8} {ns : List Int} (hw : wordB w = true) (h : ns.all winB = true) :
    okW (lineW w ns) = true ∧ hdW (lineW w ns) = w ∧ tlW (lineW w ns) = ns.map numL := by
  have h1 := line_words hw h
  have h2 := words_join h1
  exact ⟨ok_join h1, by unfold hdW lineW; rw [h2]; rfl, by unfold tlW lineW; rw [h2]; rfl⟩
theorem line_free {w : List UInt8} {ns : List Int} (hw : wordB w = true) (h : ns.all winB = true) : (10 : UInt8) ∉ lineW w ns := fun hm => by
  rcases ok_bytes (line_ok hw h).1 10 hm with h1 | h1
  · exact absurd h1 (by decide)
  · exact absurd h1 (by decide)
theorem head_tail {xs : List (List UInt8)} (h : 1 ≤ xs.length) : xs = xs.getD 0 [] :: xs.drop 1 := by
  cases xs with
  | nil => simp at h
  | cons x xs => rfl
theorem line_of {l : List UInt8} (h : okW l = true) (hg : (tlW l).all getB = true) : lineW (hdW l) ((tlW l).map getN) = l := by
  unfold lineW
  rw [get_nums hg]
  unfold hdW tlW
  rw [← head_tail (words_len h), join_words h]

/-! ### Layers -/
theorem kind_cases {k : Int} (h : kindB k = true) : k = 1 ∨ k = 2 ∨ k = 3 ∨ k = 4 := by
  unfold kindB at h; rw [Bool.and_eq_true, decide_eq_true_eq, decide_eq_true_eq] at h; omega
theorem kw_word {k : Int} (h : kindB k = true) : wordB (kw k) = true := by
  rcases kind_cases h with rfl | rfl | rfl | rfl <;> decide
theorem kind_kw {k : Int} (h : kindB k = true) : kindL (kw k) = k := by
  rcases kind_cases h with rfl | rfl | rfl | rfl <;> decide
theorem kindL_kw (w : List UInt8) (h : (kindL w == 0) = false) : kindB (kindL w) = true ∧ kw (kindL w) = w := by
  unfold kindL at h ⊢
  by_cases h1 : w = kw 1
  · rw [if_pos h1]; exact ⟨rfl, h1.symm⟩
  rw [if_neg h1] at h ⊢
  by_cases h2 : w = kw 2
  · rw [if_pos h2]; exact ⟨rfl, h2.symm⟩
  rw [if_neg h2] at h ⊢
  by_cases h3 : w = kw 3
  · rw [if_pos h3]; exact ⟨rfl, h3.symm⟩
  rw [if_neg h3] at h ⊢
  by_cases h4 : w = kw 4
  · rw [if_pos h4]; exact ⟨rfl, h4.symm⟩
  rw [if_neg h4] at h
  exact absurd h (by decide)
theorem lyB_parts {l : Ly} (h : lyB l = true) : kindB l.k = true ∧ (nums l).all winB = true ∧ restB l = true := by
  unfold lyB at h; rw [Bool.and_eq_true, Bool.and_eq_true] at h; exact ⟨h.1.1, h.1.2, h.2⟩
theorem lyB_mk {l : Ly} (h1 : kindB l.k = true) (h2 : (nums l).all winB = true) (h3 : restB l = true) : lyB l = true := by
  unfold lyB; rw [h1, h2, h3]; rfl
theorem nums_len (l : Ly) : (nums l).length = (offs l.k).length := by
  unfold nums offs
  split
  · rfl
  · split
    · rfl
    · split <;> rfl
theorem mk_nums {l : Ly} (h : lyB l = true) : mkL l.k (nums l) = l := by
  obtain ⟨h1, _, h3⟩ := lyB_parts h
  obtain ⟨k, o, s, t⟩ := l
  rcases kind_cases h1 with h | h | h | h <;> (simp only at h; subst h; simp [restB] at h3; simp [mkL, nums]) <;> simp_all
theorem nums_mk {k : Int} {ns : List Int} (hk : kindB k = true) (h : ns.length = (offs k).length) : (mkL k ns).k = k ∧ nums (mkL k ns) = ns ∧ restB (mkL k ns) = true := by
  rcases kind_cases hk with rfl | rfl | rfl | rfl
  · match ns, h with
    | [a, b, c], _ => exact ⟨rfl, rfl, rfl⟩
  · match ns, h with
    | [], _ => exact ⟨rfl, rfl, rfl⟩
  · match ns, h with
    | [a], _ => exact ⟨rfl, rfl, rfl⟩
  · match ns, h with
    | [a], _ => exact ⟨rfl, rfl, rfl⟩
theorem ly_there {l : Ly} (h : lyB l = true) : okLy (lyL l) = true ∧ lyOf (lyL l) = l ∧ (10 : UInt8) ∉ lyL l := by
  obtain ⟨h1, h2, h3⟩ := lyB_parts h
  obtain ⟨a, b, c⟩ := line_ok (kw_word h1) h2
  have hk : kindL (hdW (lyL l)) = l.k := by unfold lyL; rw [b, kind_kw h1]
  have ht : tlW (lyL l) = (nums l).map numL := c
  refine ⟨?_, ?_, line_free (kw_word h1) h2⟩
  · unfold okLy
    rw [hk, ht, nums_getB h2, List.length_map, nums_len]
    have hz : (l.k == 0) = false := by rcases kind_cases h1 with e | e | e | e <;> (rw [e]; rfl)
    rw [hz]
    show (okW (lyL l) && true && _ && true) = true
    rw [show okW (lyL l) = true from a]; simp
  · unfold lyOf
    rw [hk, ht, nums_getN h2, mk_nums h]
theorem okLy_parts {l : List UInt8} (h : okLy l = true) : okW l = true ∧ (kindL (hdW l) == 0) = false ∧ (tlW l).length = (offs (kindL (hdW l))).length ∧ (tlW l).all getB = true := by
  unfold okLy at h
  rw [Bool.and_eq_true, Bool.and_eq_true, Bool.and_eq_true] at h
  exact ⟨h.1.1.1, by simpa using h.1.1.2, by simpa using h.1.2, h.2⟩
theorem ly_back {l : List UInt8} (h : okLy l = true) : lyB (lyOf l) = true ∧ lyL (lyOf l) = l := by
  obtain ⟨h1, h2, h3, h4⟩ := okLy_parts h
  obtain ⟨hk, hw⟩ := kindL_kw _ h2
  obtain ⟨e1, e2, e3⟩ := nums_mk (ns := (tlW l).map getN) hk (by rw [List.length_map]; exact h3)
  refine ⟨lyB_mk ?_ ?_ e3, ?_⟩
  · unfold lyOf; rw [e1]; exact hk
  · unfold lyOf; rw [e2]; exact get_wins h4
  · unfold lyL lyOf; rw [e1, e2, hw, line_of h1 h4]

/-! ### The first line -/
theorem okIn_parts {l : List UInt8} (h : okIn l = true) : okW l = true ∧ hdW l = inW ∧ (tlW l).length = 3 ∧ (tlW l).all getB = true := by
  unfold okIn at h
  rw [Bool.and_eq_true, Bool.and_eq_true, Bool.and_eq_true] at h
  exact ⟨h.1.1.1, by simpa using h.1.1.2, by simpa using h.1.2, h.2⟩
theorem in_there {n : Nt} (h : [n.c, n.h, n.x].all winB = true) : okIn (inL n) = true ∧ (numAt (inL n) 0 = n.c ∧ numAt (inL n) 1 = n.h ∧ numAt (inL n) 2 = n.x) ∧ (10 : UInt8) ∉ inL n := by
  have hw : wordB inW = true := by decide
  obtain ⟨a, b, c⟩ := line_ok hw h
  have ht : tlW (inL n) = [n.c, n.h, n.x].map numL := c
  refine ⟨?_, ?_, line_free hw h⟩
  · unfold okIn
    rw [ht, nums_getB h, show okW (inL n) = true from a, show hdW (inL n) = inW from b]; rfl
  · unfold numAt
    rw [ht, nums_getN h]; exact ⟨rfl, rfl, rfl⟩
theorem in_back {l : List UInt8} (h : okIn l = true) (ls : List Ly) : [numAt l 0, numAt l 1, numAt l 2].all winB = true ∧ inL ⟨numAt l 0, numAt l 1, numAt l 2, ls⟩ = l := by
  obtain ⟨h1, h2, h3, h4⟩ := okIn_parts h
  have e : [numAt l 0, numAt l 1, numAt l 2] = (tlW l).map getN := by
    unfold numAt
    match hq : tlW l, h3 with
    | [a, b, c], _ => rfl
  constructor
  · rw [e]; exact get_wins h4
  · show lineW inW [numAt l 0, numAt l 1, numAt l 2] = l
    rw [e, ← h2]; exact line_of h1 h4

/-! ### Going through the lines -/
def takesL : List (List UInt8) → Nat → Nt → Nt
  | [], _, n => n
  | l :: ls, i, n => takesL ls (i + 1) (takeL n i l)
def okAll : List (List UInt8) → Nat → Bool
  | [], _ => true
  | l :: ls, i => okAt i l && okAll ls (i + 1)
theorem run_split : ∀ (pre rest : List (List UInt8)) (i : Nat) (n : Nt), okAll pre i = true → i + pre.length ≤ 9 → runL (pre ++ rest) i n = runL rest (i + pre.length) (takesL pre i n)
  | [], _, i, n, _, _ => rfl
  | l :: ls, rest, i, n, h, hl => by
    simp only [okAll, Bool.and_eq_true] at h
    simp only [List.length_cons] at hl
    simp only [List.cons_append, runL, takesL, List.length_cons]
    rw [if_neg (by omega), if_pos h.1, run_split ls rest (i + 1) _ h.2 (by omega)]
    congr 1; omega
theorem run_ok (pre : List (List UInt8)) (i : Nat) (n : Nt) (h : okAll pre i = true) (hl : i + pre.length ≤ 9) : runL pre i n = (takesL pre i n, 0, 0) := by
  have := run_split pre [] i n h hl
  rw [List.append_nil] at this
  rw [this]; rfl
theorem run_form (pre : List (List UInt8)) (l : List UInt8) (rest : List (List UInt8)) (i : Nat) (n : Nt) (h : okAll pre i = true) (hl : i + pre.length < 9) (hb : okAt (i + pre.length) l = false) :
    runL (pre ++ l :: rest) i n = (Nt.zero, i + pre.length + 1, 12) := by
  rw [run_split pre _ i n h (by omega)]
  simp only [runL]
  rw [if_neg (by omega), hb]; rfl
theorem run_full (pre : List (List UInt8)) (l : List UInt8) (rest : List (List UInt8)) (i : Nat) (n : Nt) (h : okAll pre i = true) (hl : i + pre.length = 9) :
    runL (pre ++ l :: rest) i n = (Nt.zero, 10, 5) := by
  rw [run_split pre _ i n h (by omega), hl]
  simp only [runL]
  rw [if_pos (by omega)]
theorem run_inv : ∀ (ls : List (List UInt8)) (i : Nat) (n m : Nt) (a : Nat) (e : Int), i ≤ 9 → runL ls i n = (m, a, e) →
    (e = 0 ∧ a = 0 ∧ m = takesL ls i n ∧ okAll ls i = true ∧ i + ls.length ≤ 9) ∨ (m = Nt.zero ∧ 1 ≤ a ∧ i + 1 ≤ a ∧ a ≤ i + ls.length ∧ ((e = 5 ∧ 9 < a) ∨ (e = 12 ∧ a ≤ 9)))
  | [], i, n, m, a, e, hi, h => by
    simp only [runL, Prod.mk.injEq] at h
    obtain ⟨rfl, rfl, rfl⟩ := h
    exact .inl ⟨rfl, rfl, rfl, rfl, hi⟩
  | l :: ls, i, n, m, a, e, hi, h => by
    simp only [runL] at h
    by_cases h9 : 9 ≤ i
    · rw [if_pos h9] at h
      simp only [Prod.mk.injEq] at h
      obtain ⟨rfl, rfl, rfl⟩ := h
      exact .inr ⟨rfl, by omega, by omega, by simp only [List.length_cons]; omega, .inl ⟨rfl, by omega⟩⟩
    · rw [if_neg h9] at h
      by_cases ho : okAt i l = true
      · rw [if_pos ho] at h
        rcases run_inv ls (i + 1) _ m a e (by omega) h with ⟨h1, h2, h3, h4, h5⟩ | ⟨h1, h2, h3, h4, h5⟩
        · refine .inl ⟨h1, h2, h3, ?_, by simp only [List.length_cons]; omega⟩
          simp only [okAll, ho, h4, Bool.and_self]
        · exact .inr ⟨h1, h2, by omega, by simp only [List.length_cons]; omega, h5⟩
      · rw [if_neg ho] at h
        simp only [Prod.mk.injEq] at h
        obtain ⟨rfl, rfl, rfl⟩ := h
        exact .inr ⟨rfl, by omega, by omega, by simp only [List.length_cons]; omega, .inr ⟨rfl, by omega⟩⟩
theorem okAll_append : ∀ (a b : List (List UInt8)) (i : Nat), okAll (a ++ b) i = (okAll a i && okAll b (i + a.length))
  | [], b, i => by simp [okAll]
  | x :: a, b, i => by
    simp only [List.cons_append, okAll, okAll_append a b (i + 1), List.length_cons, Bool.and_assoc]
    rw [show i + 1 + a.length = i + (a.length + 1) by omega]
theorem okAll_ly : ∀ (ls : List Ly) (i : Nat), 1 ≤ i → ls.all lyB = true → okAll (ls.map lyL) i = true
  | [], _, _, _ => rfl
  | l :: ls, i, hi, h => by
    simp only [List.all_cons, Bool.and_eq_true] at h
    simp only [List.map_cons, okAll, Bool.and_eq_true]
    refine ⟨?_, okAll_ly ls (i + 1) (by omega) h.2⟩
    unfold okAt; rw [if_neg (by omega)]; exact (ly_there h.1).1
theorem takes_ly : ∀ (ls : List Ly) (i : Nat) (n : Nt), 1 ≤ i → ls.all lyB = true → takesL (ls.map lyL) i n = ⟨n.c, n.h, n.x, n.ls ++ ls⟩
  | [], _, n, _, _ => by simp [takesL]
  | l :: ls, i, n, hi, h => by
    simp only [List.all_cons, Bool.and_eq_true] at h
    simp only [List.map_cons, takesL]
    rw [takes_ly ls (i + 1) _ (by omega) h.2]
    unfold takeL
    rw [if_neg (by omega)]
    simp only [(ly_there h.1).2.1, List.append_assoc, List.singleton_append]
theorem form_parts {n : Nt} (h : formB n = true) : [n.c, n.h, n.x].all winB = true ∧ n.ls.length ≤ 8 ∧ n.ls.all lyB = true := by
  unfold formB at h
  rw [Bool.and_eq_true, Bool.and_eq_true, decide_eq_true_eq] at h
  exact ⟨h.1.1, h.1.2, h.2⟩
theorem form_mk {n : Nt} (h1 : [n.c, n.h, n.x].all winB = true) (h2 : n.ls.length ≤ 8) (h3 : n.ls.all lyB = true) : formB n = true := by
  unfold formB; rw [h1, h3]; simpa using h2
theorem okAll_net {n : Nt} (h : formB n = true) : okAll (linesN n) 0 = true ∧ (linesN n).length ≤ 9 ∧ (∀ x ∈ linesN n, (10 : UInt8) ∉ x) := by
  obtain ⟨h1, h2, h3⟩ := form_parts h
  refine ⟨?_, by simp [linesN]; omega, fun x hx => ?_⟩
  · simp only [linesN, okAll, Bool.and_eq_true]
    exact ⟨by unfold okAt; rw [if_pos rfl]; exact (in_there h1).1, okAll_ly _ _ (by omega) h3⟩
  · rcases List.mem_cons.1 hx with rfl | hx
    · exact (in_there h1).2.2
    · obtain ⟨l, hl, rfl⟩ := List.mem_map.1 hx
      exact (ly_there (List.all_eq_true.1 h3 l hl)).2.2
/-- What the first lines of a network's text tell. -/
theorem takes_net {n : Nt} (h : formB n = true) (ks : List Ly) (hk : ks.all lyB = true) (m : Nt) : takesL (inL n :: ks.map lyL) 0 m = ⟨n.c, n.h, n.x, m.ls ++ ks⟩ := by
  obtain ⟨h1, _, _⟩ := form_parts h
  obtain ⟨_, ⟨e1, e2, e3⟩, _⟩ := in_there h1
  simp only [takesL]
  rw [takes_ly ks (0 + 1) _ (by omega) hk]
  unfold takeL
  rw [if_pos rfl]
  simp only [e1, e2, e3]
theorem takes_self {n : Nt} (h : formB n = true) : takesL (linesN n) 0 Nt.zero = n := by
  unfold linesN
  rw [takes_net h _ (form_parts h).2.2]; rfl

/-! ### Texts -/
theorem lay_ne (xs : List (List UInt8)) (h : xs ≠ []) : layL 10 xs ≠ [] := by
  cases xs with
  | nil => exact absurd rfl h
  | cons x xs => rw [layL_cons]; simp
theorem cut_print {n : Nt} (h : formB n = true) (t : List UInt8) : cutF 10 (printL n ++ t) = (linesN n ++ (cutF 10 t).1, (cutF 10 t).2) := by
  unfold printL; rw [if_pos h]
  exact cut_lay 10 _ t (okAll_net h).2.2
theorem cut_print0 {n : Nt} (h : formB n = true) : cutF 10 (printL n) = (linesN n, []) := by
  have := cut_print h []
  rw [List.append_nil] at this
  rw [this]; simp [cutF]
theorem print_ne {n : Nt} (h : formB n = true) : printL n ≠ [] := by
  unfold printL; rw [if_pos h]; exact lay_ne _ (by simp [linesN])
theorem lines_lay {xs : List (List UInt8)} (h : xs ≠ []) (hf : ∀ x ∈ xs, (10 : UInt8) ∉ x) : linesB (layL 10 xs) = xs := by
  have e := cut_lay 10 xs [] hf
  rw [List.append_nil] at e
  have e0 : cutF 10 [] = ([], []) := rfl
  rw [e0, List.append_nil] at e
  unfold linesB
  rw [e, if_neg]
  rintro (h1 | h1)
  · exact lay_ne xs h h1
  · exact h1 rfl
theorem lines_nil : linesB [] = [[]] := rfl
theorem parse_nil : parseL [] = (Nt.zero, 1, 12) := rfl
theorem ok_empty (i : Nat) : okAt i [] = false := by
  unfold okAt; split <;> rfl
theorem parse_print {n : Nt} (h : formB n = true) : parseL (printL n) = (n, 0, 0) := by
  obtain ⟨h1, h2, h3⟩ := okAll_net h
  unfold parseL printL
  rw [if_pos h, lines_lay (by simp [linesN]) h3, run_ok _ _ _ h1 (by omega), takes_self h]
theorem lines_len (s : List UInt8) : (linesB s).length ≤ (cutF 10 s).1.length + 1 := by
  unfold linesB; split <;> simp

theorem takes_all : ∀ (ls : List (List UInt8)) (i : Nat) (n : Nt), 1 ≤ i → okAll ls i = true → takesL ls i n = ⟨n.c, n.h, n.x, n.ls ++ ls.map lyOf⟩ ∧ (ls.map lyOf).map lyL = ls ∧ (ls.map lyOf).all lyB = true
  | [], _, n, _, _ => by simp [takesL]
  | l :: ls, i, n, hi, h => by
    simp only [okAll, Bool.and_eq_true] at h
    have hl : okLy l = true := by have := h.1; unfold okAt at this; rwa [if_neg (by omega)] at this
    obtain ⟨e1, e2, e3⟩ := takes_all ls (i + 1) (takeL n i l) (by omega) h.2
    refine ⟨?_, ?_, ?_⟩
    · simp only [takesL]
      rw [e1]
      unfold takeL
      rw [if_neg (by omega)]
      simp
    · simp only [List.map_cons]; rw [(ly_back hl).2, e2]
    · simp only [List.map_cons, List.all_cons, (ly_back hl).1, e3, Bool.and_self]
theorem parse_ok {s : List UInt8} {m : Nt} {a : Nat} (h : parseL s = (m, a, 0)) : a = 0 ∧ formB m = true ∧ printL m = s := by
  unfold parseL at h
  rcases run_inv _ 0 _ _ _ _ (by omega) h with ⟨_, h2, h3, h4, h5⟩ | ⟨_, _, _, _, h5⟩
  · refine ⟨h2, ?_⟩
    have hr : ¬ (s = [] ∨ (cutF 10 s).2 ≠ []) := fun hc => by
      have e : linesB s = (cutF 10 s).1 ++ [[]] := if_pos hc
      rw [e, okAll_append, Bool.and_eq_true] at h4
      have := h4.2
      simp only [okAll, ok_empty, Bool.false_and] at this
      exact absurd this (by decide)
    have e : linesB s = (cutF 10 s).1 := if_neg hr
    rw [not_or] at hr
    have hr2 : (cutF 10 s).2 = [] := by
      cases hq : (cutF 10 s).2 with
      | nil => rfl
      | cons a b => exact absurd (by rw [hq]; simp) hr.2
    have hl := lay_cut 10 s
    rw [hr2, List.append_nil, ← e] at hl
    match hq : linesB s, h4 with
    | [], _ =>
      rw [hq] at hl
      exact absurd hl.symm hr.1
    | l :: ls, h4 =>
      rw [hq] at h3 h5 hl
      simp only [okAll, Bool.and_eq_true] at h4
      have hin : okIn l = true := by have := h4.1; unfold okAt at this; rwa [if_pos rfl] at this
      obtain ⟨e1, e2, e3⟩ := takes_all ls (0 + 1) (takeL Nt.zero 0 l) (by omega) h4.2
      simp only [takesL] at h3
      rw [e1] at h3
      have h3' : m = ⟨numAt l 0, numAt l 1, numAt l 2, ls.map lyOf⟩ := by
        rw [h3]; unfold takeL; rw [if_pos rfl]; rfl
      subst h3'
      obtain ⟨g1, g2⟩ := in_back hin (ls.map lyOf)
      have hf : formB ⟨numAt l 0, numAt l 1, numAt l 2, ls.map lyOf⟩ = true := form_mk g1 (by simp only [List.length_map]; simp only [List.length_cons] at h5; omega) e3
      refine ⟨hf, ?_⟩
      unfold printL
      rw [if_pos hf]
      unfold linesN
      rw [g2]
      show layL 10 (l :: (ls.map lyOf).map lyL) = s
      rw [e2, hl]
  · rcases h5 with ⟨h6, _⟩ | ⟨h6, _⟩ <;> exact absurd h6 (by decide)
theorem parse_no {s : List UInt8} {m : Nt} {a : Nat} {e : Int} (h : parseL s = (m, a, e)) (he : e ≠ 0) : m = Nt.zero ∧ 1 ≤ a ∧ a ≤ (cutF 10 s).1.length + 1 ∧ ((e = 5 ∧ 9 < a) ∨ (e = 12 ∧ a ≤ 9)) := by
  unfold parseL at h
  rcases run_inv _ 0 _ _ _ _ (by omega) h with ⟨h1, _⟩ | ⟨h1, h2, _, h4, h5⟩
  · exact absurd h1 he
  · have := lines_len s
    exact ⟨h1, h2, by omega, h5⟩

/-! ### Cut texts -/
theorem cut_front (c : UInt8) (a b : List UInt8) : ∃ r, (cutF c (a ++ b)).1 = (cutF c a).1 ++ r := by
  refine ⟨(b.foldl (step c) ([], (cutF c a).2)).1, ?_⟩
  have := fold_from c b [] (cutF c a).2 (cutF c a).1
  rw [List.append_nil] at this
  unfold cutF at this ⊢
  rw [List.foldl_append]
  rw [this]
theorem cut_take {xs : List (List UInt8)} (hf : ∀ x ∈ xs, (10 : UInt8) ∉ x) (k : Nat) (hk : k < (layL 10 xs).length) :
    (cutF 10 ((layL 10 xs).take k)).1 = xs.take (cutF 10 ((layL 10 xs).take k)).1.length ∧ (cutF 10 ((layL 10 xs).take k)).1.length < xs.length := by
  obtain ⟨r, hr⟩ := cut_front 10 ((layL 10 xs).take k) ((layL 10 xs).drop k)
  rw [List.take_append_drop] at hr
  have e := cut_lay 10 xs [] hf
  rw [List.append_nil] at e
  have e0 : cutF 10 [] = ([], []) := rfl
  rw [e0, List.append_nil] at e
  rw [e] at hr
  have hr' : xs = (cutF 10 ((layL 10 xs).take k)).1 ++ r := hr
  obtain ⟨y, hy⟩ : ∃ y, y = (cutF 10 ((layL 10 xs).take k)).1 := ⟨_, rfl⟩
  rw [← hy] at hr' ⊢
  refine ⟨by rw [hr', List.take_left], ?_⟩
  by_cases hc : y.length < xs.length
  · exact hc
  · exfalso
    have hrn : r = [] := by
      have := congrArg List.length hr'
      rw [List.length_append] at this
      exact List.eq_nil_of_length_eq_zero (by omega)
    rw [hrn, List.append_nil] at hr'
    have hl := lay_cut 10 ((layL 10 xs).take k)
    rw [← hy, ← hr'] at hl
    have := congrArg List.length hl
    rw [List.length_append, List.length_take] at this
    omega
theorem rest_nil (t : List UInt8) (h0 : t ≠ []) : ((cutF 10 t).2 = [] ↔ t.getLast? = some 10) := by
  obtain ⟨a, b, rfl⟩ : ∃ a b, t = a ++ [b] := ⟨t.dropLast, t.getLast h0, (List.dropLast_concat_getLast h0).symm⟩
  rw [cutF_snoc, List.getLast?_concat]
  unfold step
  by_cases hb : b = 10
  · rw [if_pos hb, hb]; simp
  · rw [if_neg hb]; simp [hb]
theorem takes_some {n : Nt} (h : formB n = true) (j : Nat) (h1 : 1 ≤ j) : takesL ((linesN n).take j) 0 Nt.zero = ⟨n.c, n.h, n.x, n.ls.take (j - 1)⟩ := by
  obtain ⟨i, rfl⟩ : ∃ i, j = i + 1 := ⟨j - 1, by omega⟩
  unfold linesN
  rw [List.take_succ_cons, ← List.map_take]
  rw [takes_net h _ (by
    rw [List.all_eq_true]
    intro x hx
    exact List.all_eq_true.1 (form_parts h).2.2 x (List.mem_of_mem_take hx))]
  simp [Nt.zero]
theorem okAll_take {xs : List (List UInt8)} {i : Nat} (h : okAll xs i = true) (j : Nat) : okAll (xs.take j) i = true := by
  rw [← List.take_append_drop j xs, okAll_append, Bool.and_eq_true] at h
  exact h.1
theorem parse_cut_mid {n : Nt} (h : formB n = true) (k : Nat) (hk : k < (printL n).length) (hm : ((printL n).take k).getLast? ≠ some 10) :
    parseL ((printL n).take k) = (Nt.zero, (cutF 10 ((printL n).take k)).1.length + 1, 12) := by
  obtain ⟨g1, g2, g3⟩ := okAll_net h
  have e : printL n = layL 10 (linesN n) := if_pos h
  rw [e] at hk hm ⊢
  obtain ⟨c1, c2⟩ := cut_take g3 k hk
  obtain ⟨t, ht⟩ : ∃ t, t = (layL 10 (linesN n)).take k := ⟨_, rfl⟩
  rw [← ht] at hm c1 c2 ⊢
  have hl : linesB t = (cutF 10 t).1 ++ [[]] := by
    unfold linesB
    rw [if_pos]
    by_cases h0 : t = []
    · exact .inl h0
    · exact .inr fun hc => hm ((rest_nil t h0).1 hc)
  unfold parseL
  rw [hl, c1]
  have hlen : ((linesN n).take (cutF 10 t).1.length).length = (cutF 10 t).1.length := by rw [List.length_take]; omega
  rw [run_form _ [] [] 0 _ (okAll_take g1 _) (by rw [hlen]; omega) (ok_empty _), hlen]
  simp
theorem parse_cut_end {n : Nt} (h : formB n = true) (k : Nat) (hk : k < (printL n).length) (hm : ((printL n).take k).getLast? = some 10) :
    parseL ((printL n).take k) = (⟨n.c, n.h, n.x, n.ls.take ((cutF 10 ((printL n).take k)).1.length - 1)⟩, 0, 0) ∧ 1 ≤ (cutF 10 ((printL n).take k)).1.length ∧ (cutF 10 ((printL n).take k)).1.length ≤ n.ls.length := by
  obtain ⟨g1, g2, g3⟩ := okAll_net h
  have e : printL n = layL 10 (linesN n) := if_pos h
  rw [e] at hk hm ⊢
  obtain ⟨c1, c2⟩ := cut_take g3 k hk
  obtain ⟨t, ht⟩ : ∃ t, t = (layL 10 (linesN n)).take k := ⟨_, rfl⟩
  rw [← ht] at hm c1 c2 ⊢
  have h0 : t ≠ [] := fun hc => by rw [hc] at hm; simp at hm
  have hr := (rest_nil t h0).2 hm
  have hl : linesB t = (cutF 10 t).1 := by
    unfold linesB
    rw [if_neg]
    rintro (hc | hc)
    · exact h0 hc
    · exact hc hr
  have h1 : 1 ≤ (cutF 10 t).1.length := by
    have hq := lay_cut 10 t
    rw [hr, List.append_nil] at hq
    cases hz : (cutF 10 t).1 with
    | nil => rw [hz] at hq; exact absurd hq.symm h0
    | cons a b => simp
  refine ⟨?_, h1, by have : (linesN n).length = n.ls.length + 1 := by simp [linesN]
                     omega⟩
  unfold parseL
  rw [hl]
  have hlen : ((linesN n).take (cutF 10 t).1.length).length = (cutF 10 t).1.length := by rw [List.length_take]; omega
  rw [c1, run_ok _ _ _ (okAll_take g1 _) (by rw [hlen]; omega), takes_some h _ h1, ← c1]

/-! ### A line more -/
theorem lines_more {n : Nt} (h : formB n = true) (t : List UInt8) (ht : t ≠ []) : linesB (printL n ++ t) = linesN n ++ linesB t := by
  unfold linesB
  rw [cut_print h t]
  have h1 : ¬ (printL n ++ t = []) := by simp [ht]
  by_cases hr : (cutF 10 t).2 = []
  · rw [if_neg (by rintro (hc | hc); exact h1 hc; exact hc hr), if_neg (by rintro (hc | hc); exact ht hc; exact hc hr)]
  · rw [if_pos (.inr hr), if_pos (.inr hr), List.append_assoc]
theorem lines_cons (t : List UInt8) : ∃ l ls, linesB t = l :: ls := by
  unfold linesB
  by_cases hc : t = [] ∨ (cutF 10 t).2 ≠ []
  · rw [if_pos hc]
    cases (cutF 10 t).1 with
    | nil => exact ⟨[], [], rfl⟩
    | cons a b => exact ⟨a, b ++ [[]], rfl⟩
  · rw [if_neg hc]
    rw [not_or] at hc
    cases hq : (cutF 10 t).1 with
    | nil =>
      have := lay_cut 10 t
      rw [hq] at this
      have h2 : (cutF 10 t).2 = [] := by
        cases hz : (cutF 10 t).2 with
        | nil => rfl
        | cons a b => exact absurd (by rw [hz]; simp) hc.2
      rw [h2] at this
      exact absurd this.symm hc.1
    | cons a b => exact ⟨a, b, rfl⟩
theorem parse_full {n : Nt} (h : formB n = true) (h8 : 8 ≤ n.ls.length) (t : List UInt8) (ht : t ≠ []) : parseL (printL n ++ t) = (Nt.zero, 10, 5) := by
  obtain ⟨g1, g2, g3⟩ := okAll_net h
  obtain ⟨l, ls, e⟩ := lines_cons t
  have hl : (linesN n).length = n.ls.length + 1 := by simp [linesN]
  unfold parseL
  rw [lines_more h t ht, e, run_full _ l ls 0 _ g1 (by omega)]
def sqL : List UInt8 := [115, 113, 117, 97, 114, 101, 10]
theorem parse_square {n : Nt} (h : formB n = true) (h8 : n.ls.length < 8) : parseL (printL n ++ sqL) = (⟨n.c, n.h, n.x, n.ls ++ [⟨2, 0, 0, 0⟩]⟩, 0, 0) := by
  obtain ⟨f1, f2, f3⟩ := form_parts h
  have hl : (linesN n).length = n.ls.length + 1 := by simp [linesN]
  have e : linesB sqL = [(⟨2, 0, 0, 0⟩ : Ly)].map lyL := by decide +kernel
  have e2 : linesN n ++ [(⟨2, 0, 0, 0⟩ : Ly)].map lyL = inL n :: (n.ls ++ [(⟨2, 0, 0, 0⟩ : Ly)]).map lyL := by simp [linesN]
  have hall : (n.ls ++ [(⟨2, 0, 0, 0⟩ : Ly)]).all lyB = true := by rw [List.all_append, f3]; rfl
  unfold parseL
  rw [lines_more h sqL (by decide), e, e2, run_ok _ _ _ ?_ (by simp; omega), takes_net h _ hall]
  · simp [Nt.zero]
  · simp only [okAll, Bool.and_eq_true]
    exact ⟨by unfold okAt; rw [if_pos rfl]; exact (in_there f1).1, okAll_ly _ _ (by omega) hall⟩

/-! ### Another line in the place of one -/
theorem free_of_rows {l : List UInt8} (h : (cutF 10 l).1.length = 0) : (10 : UInt8) ∉ l := by
  rw [cut_count] at h
  exact List.count_eq_zero.1 h
def oneL : List UInt8 := [105, 110, 32, 49, 32, 49, 32, 49]
theorem alone_in (l : List UInt8) (h : (10 : UInt8) ∉ l) : parseL (l ++ [10]) = if okIn l = true then (⟨numAt l 0, numAt l 1, numAt l 2, []⟩, 0, 0) else (Nt.zero, 1, 12) := by
  have e : linesB (l ++ [10]) = [l] := by
    have := lines_lay (xs := [l]) (by simp) (by simpa using h)
    rwa [layL_one] at this
  unfold parseL
  rw [e]
  simp only [runL]
  rw [if_neg (by omega)]
  show (if okAt 0 l = true then _ else _) = _
  unfold okAt takeL
  rw [if_pos rfl, if_pos rfl]; rfl
theorem one_in : okIn oneL = true := by decide +kernel
theorem alone_ly (l : List UInt8) (h : (10 : UInt8) ∉ l) : ∃ m, parseL (oneL ++ [10] ++ l ++ [10]) = if okLy l = true then (m, 0, 0) else (Nt.zero, 2, 12) := by
  have e : linesB (oneL ++ [10] ++ l ++ [10]) = [oneL, l] := by
    have := lines_lay (xs := [oneL, l]) (by simp) (by
      intro x hx
      simp only [List.mem_cons, List.not_mem_nil, or_false] at hx
      rcases hx with rfl | rfl
      · decide
      · exact h)
    rw [layL_cons, layL_one] at this
    simpa using this
  unfold parseL
  rw [e]
  simp only [runL]
  rw [if_neg (by omega), if_pos (show okAt 0 oneL = true by unfold okAt; rw [if_pos rfl]; exact one_in), if_neg (by omega)]
  refine ⟨takeL (takeL Nt.zero 0 oneL) 1 l, ?_⟩
  have e1 : okAt (0 + 1) l = okLy l := by unfold okAt; rw [if_neg (by omega)]
  rw [e1]
theorem parse_wrong {n : Nt} (h : formB n = true) (k : Nat) (hk : k < (linesN n).length) (l : List UInt8) (hl : (10 : UInt8) ∉ l) (hb : okAt k l = false) :
    parseL (layL 10 ((linesN n).take k ++ [l] ++ (linesN n).drop (k + 1))) = (Nt.zero, k + 1, 12) := by
  obtain ⟨g1, g2, g3⟩ := okAll_net h
  have hlen : ((linesN n).take k).length = k := by rw [List.length_take]; omega
  unfold parseL
  rw [lines_lay (by simp) (by
    intro x hx
    simp only [List.append_assoc, List.mem_append, List.mem_singleton] at hx
    rcases hx with hx | rfl | hx
    · exact g3 x (List.mem_of_mem_take hx)
    · exact hl
    · exact g3 x (List.mem_of_mem_drop hx)), List.append_assoc, List.singleton_append,
    run_form _ l _ 0 _ (okAll_take g1 _) (by rw [hlen]; omega) (by rw [hlen, Nat.zero_add]; exact hb), hlen]
  simp

/-! ### How long lines are -/
theorem num_len (n : Int) : (numL n).length ≤ 6 := by
  unfold numL
  by_cases h : 0 ≤ n ∧ n ≤ 999999
  · rw [if_pos h]; exact dec_len (k := 5) (by omega)
  · rw [if_neg h]; simp
theorem kw_len (k : Int) : (kw k).length ≤ 6 := by
  unfold kw
  split
  · decide
  · split
    · decide
    · split
      · decide
      · split <;> decide

end Go.Proofs.YtmlflmlgjjjmfaaDoor
