/-
  Networks that are cut, or have a layer more: which stay right, and what their shapes, weights and products are. Apart from any program.
-/
import Derived.Test.YtnfmpladdfgadaaFit
namespace Go.Proofs.Ytnfmpladdfgadaa

theorem kn_take : ∀ (ls : List Ly) (s : Sh) (a : Int) (k : Nat), knL s a (ls.take k) = (knL s a ls).take k
  | [], s, a, k => by simp [knL]
  | l :: ls, s, a, 0 => by simp [knL]
  | l :: ls, s, a, k + 1 => by simp only [List.take_succ_cons, knL]; rw [kn_take ls]
theorem sh_take : ∀ (ls : List Ly) (s : Sh) (k : Nat), shL s (ls.take k) = (shL s ls).take (k + 1)
  | [], s, k => by simp [shL]
  | l :: ls, s, 0 => by simp [shL]
  | l :: ls, s, k + 1 => by simp only [List.take_succ_cons, shL]; rw [sh_take ls]
theorem sh_get : ∀ (ls : List Ly) (s : Sh) (i : Nat), i ≤ ls.length → (shL s ls)[i]? = some (endS s (ls.take i))
  | [], s, i, h => by
    obtain rfl : i = 0 := by simpa using h
    rfl
  | l :: ls, s, 0, _ => rfl
  | l :: ls, s, i + 1, h => by
    simp only [shL, List.getElem?_cons_succ, List.take_succ_cons, endS]
    exact sh_get ls _ i (by simpa using h)
theorem sh_app : ∀ (xs ys : List Ly) (s : Sh), shL s (xs ++ ys) = (shL s xs).dropLast ++ shL (endS s xs) ys
  | [], ys, s => by simp [shL, endS]
  | l :: xs, ys, s => by
    simp only [List.cons_append, shL, endS]
    rw [sh_app xs ys, List.dropLast_cons_of_ne_nil (by cases xs <;> simp [shL]), List.cons_append]
theorem kn_get : ∀ (ls : List Ly) (s : Sh) (a : Int) (i : Nat) (l : Ly), ls[i]? = some l → (knL s a ls)[i]? = some ⟨l, endS s (ls.take i), outS (endS s (ls.take i)) l, a + sumW s (ls.take i)⟩
  | [], s, a, i, l, h => by simp at h
  | y :: ls, s, a, 0, l, h => by
    simp only [List.getElem?_cons_zero, Option.some.injEq] at h
    subst h
    simp [knL, endS, sumW]
  | y :: ls, s, a, i + 1, l, h => by
    simp only [List.getElem?_cons_succ] at h
    simp only [knL, List.getElem?_cons_succ, List.take_succ_cons, endS, sumW]
    rw [kn_get ls _ _ i l h, Int.add_assoc]

/-! ### Right networks -/
theorem ok_parts {N : Nt} (h : errN N = 0) : formB N = true ∧ N.s.r = true ∧ fitL N.s N.ls = true ∧ sumW N.s N.ls ≤ 512 ∧ sumP N.s N.ls ≤ 512 := by
  unfold errN at h
  cases h1 : formB N
  · rw [h1] at h; simp at h
  · cases h2 : N.s.r
    · rw [h1, h2] at h; simp at h
    · cases h3 : fitL N.s N.ls
      · rw [h1, h2, h3] at h; simp at h
      · rw [h1, h2, h3] at h
        simp only [Bool.true_eq_false, if_false] at h
        by_cases g : sumW N.s N.ls ≤ 512 ∧ sumP N.s N.ls ≤ 512
        · exact ⟨rfl, rfl, rfl, g⟩
        · rw [if_neg g] at h; omega
theorem err_is (N : Nt) : errN N = 12 ∨ errN N = 1 ∨ errN N = 21 ∨ errN N = 5 ∨ errN N = 0 := by
  unfold errN
  by_cases h1 : formB N = false
  · rw [if_pos h1]; exact .inl rfl
  · rw [if_neg h1]
    by_cases h2 : N.s.r = false
    · rw [if_pos h2]; exact .inr (.inl rfl)
    · rw [if_neg h2]
      by_cases h3 : fitL N.s N.ls = false
      · rw [if_pos h3]; exact .inr (.inr (.inl rfl))
      · rw [if_neg h3]
        by_cases h4 : sumW N.s N.ls ≤ 512 ∧ sumP N.s N.ls ≤ 512
        · rw [if_pos h4]; exact .inr (.inr (.inr (.inr rfl)))
        · rw [if_neg h4]; exact .inr (.inr (.inr (.inl rfl)))
theorem sums_nn {s : Sh} {ls : List Ly} (r : s.r = true) (hk : ls.all lyB = true) (hf : fitL s ls = true) : 0 ≤ sumW s ls ∧ 0 ≤ sumP s ls := by
  have a := tot_bd (knL s 0 ls) (kn_all ls s 0 r hk hf)
  rw [tot_w, tot_p] at a
  exact ⟨a.1, a.2.2.1⟩
theorem all_parts {xs ys : List Ly} (h : (xs ++ ys).all lyB = true) : xs.all lyB = true ∧ ys.all lyB = true := by
  rw [List.all_append, Bool.and_eq_true] at h; exact h

/-- A network that is cut behind a layer is right still. -/
theorem cut_ok {c h x : Int} {ls : List Ly} (k : Nat) (e : errN ⟨c, h, x, ls⟩ = 0) : errN ⟨c, h, x, ls.take k⟩ = 0 := by
  obtain ⟨f, r, t, w, p⟩ := ok_parts e
  obtain ⟨f1, f2, f3⟩ := form_parts f
  have r : (⟨c, h, x⟩ : Sh).r = true := r
  have t : fitL ⟨c, h, x⟩ ls = true := t
  have w : sumW ⟨c, h, x⟩ ls ≤ 512 := w
  have p : sumP ⟨c, h, x⟩ ls ≤ 512 := p
  have f2 : ls.length ≤ 8 := f2
  have f3 : ls.all lyB = true := f3
  rw [← List.take_append_drop k ls] at t w p f3
  rw [fit_app, Bool.and_eq_true] at t
  rw [w_app] at w
  rw [p_app] at p
  obtain ⟨g1, g2⟩ := all_parts f3
  have er := end_right _ _ r g1 t.1
  obtain ⟨n1, n2⟩ := sums_nn er g2 t.2
  have hf : formB ⟨c, h, x, ls.take k⟩ = true := form_mk f1 (by show (ls.take k).length ≤ 8; rw [List.length_take]; omega) g1
  unfold errN
  rw [if_neg (by rw [hf]; decide), if_neg (by rw [show (⟨c, h, x, ls.take k⟩ : Nt).s.r = true from r]; decide), if_neg (by rw [show fitL (⟨c, h, x, ls.take k⟩ : Nt).s (ls.take k) = true from t.1]; decide), if_pos]
  exact ⟨by show sumW ⟨c, h, x⟩ (ls.take k) ≤ 512; omega, by show sumP ⟨c, h, x⟩ (ls.take k) ≤ 512; omega⟩
theorem knN_ok {c h x : Int} {ls : List Ly} (e : errN ⟨c, h, x, ls⟩ = 0) : knN ⟨c, h, x, ls⟩ = knL ⟨c, h, x⟩ 0 ls := if_pos e
theorem shN_ok {c h x : Int} {ls : List Ly} (e : errN ⟨c, h, x, ls⟩ = 0) : shN ⟨c, h, x, ls⟩ = shL ⟨c, h, x⟩ ls := if_pos e
theorem knN_no {N : Nt} (e : errN N ≠ 0) : knN N = [] := if_neg e
theorem shN_no {N : Nt} (e : errN N ≠ 0) : shN N = [] := if_neg e
theorem knN_all {N : Nt} : ∀ k ∈ knN N, KnOk k := by
  unfold knN
  split
  · rename_i e
    obtain ⟨f, r, t, _, _⟩ := ok_parts e
    exact kn_all _ _ _ r (form_parts f).2.2 t
  · simp
theorem knN_len {N : Nt} : (knN N).length ≤ 8 := by
  unfold knN
  split
  · rename_i e
    obtain ⟨f, _⟩ := ok_parts e
    rw [kn_len]; exact (form_parts f).2.1
  · simp

/-! ### A layer's weights and products -/
theorem w_pos {s : Sh} {l : Ly} (r : s.r = true) (hk : lyB l = true) (ho : okS s l = true) : (wI s l = 0 ↔ (l.k = 2 ∨ l.k = 3)) ∧ 0 ≤ wI s l ∧ wI s l ≤ pI s (outS s l) l ∧ (pI s (outS s l) l = 0 ↔ l.k = 3) := by
  obtain ⟨r1, r2, r3, r4, r5, r6, _⟩ := right_bd r
  obtain ⟨q1, q2, q3, q4, q5, q6, _⟩ := right_bd (out_right r hk ho)
  have nz := size_pos r
  rcases ly_kind hk with k | k | k | k
  · rw [(out_conv s k).2] at ho
    obtain ⟨_, o1, o2, s1, s2, _⟩ := convB_out ho
    rw [p_conv _ _ k, w_conv _ k]
    have a1 : 1 * 1 ≤ l.o * s.c := Int.mul_le_mul o1 r1 (by omega) (by omega)
    have a2 : 1 * 1 ≤ l.o * s.c * l.s := Int.mul_le_mul (by omega) s1 (by omega) (by omega)
    have a3 : 1 * 1 ≤ l.o * s.c * l.s * l.s := Int.mul_le_mul (by omega) s1 (by omega) (by omega)
    generalize l.o * s.c * l.s * l.s = W at a3
    have b1 : W * 1 ≤ W * (outS s l).h := Int.mul_le_mul_of_nonneg_left q3 (by omega)
    have b2 : (W * (outS s l).h) * 1 ≤ W * (outS s l).h * (outS s l).x := Int.mul_le_mul_of_nonneg_left q5 (by omega)
    generalize W * (outS s l).h * (outS s l).x = P at b2
    generalize W * (outS s l).h = Q at b1 b2
    omega
  · rw [w_none _ (by omega) (by omega), p_square _ _ k]; omega
  · rw [w_none _ (by omega) (by omega), p_none _ _ (by omega) (by omega) (by omega)]; omega
  · rw [(out_dense s k).2] at ho
    obtain ⟨b1, b2, _⟩ := rightB_out ho
    rw [p_dense _ _ k, w_dense _ k]
    have a1 : 1 * 1 ≤ l.o * s.n := Int.mul_le_mul b1 nz (by omega) (by omega)
    generalize l.o * s.n = W at a1
    omega

/-! ### A square more -/
def sqLy : Ly := ⟨2, 0, 0, 0⟩
theorem sq_form : lyB sqLy = true := by decide
theorem square_more {c h x : Int} {ls : List Ly} {k : Nat} (e : errN ⟨c, h, x, ls⟩ = 0) (h8 : ls.length < 8) (hk : k ≤ ls.length) :
    errN ⟨c, h, x, ls.take k ++ sqLy :: ls.drop k⟩ = (if sumP ⟨c, h, x⟩ ls + (endS ⟨c, h, x⟩ (ls.take k)).n ≤ 512 then 0 else 5) ∧
    shL ⟨c, h, x⟩ (ls.take k ++ sqLy :: ls.drop k) = (shL ⟨c, h, x⟩ ls).take (k + 1) ++ (shL ⟨c, h, x⟩ ls).drop k ∧
    sumW ⟨c, h, x⟩ (ls.take k ++ sqLy :: ls.drop k) = sumW ⟨c, h, x⟩ ls ∧
    sumP ⟨c, h, x⟩ (ls.take k ++ sqLy :: ls.drop k) = sumP ⟨c, h, x⟩ ls + (endS ⟨c, h, x⟩ (ls.take k)).n := by
  obtain ⟨f, r, t, w, p⟩ := ok_parts e
  obtain ⟨f1, f2, f3⟩ := form_parts f
  have r : (⟨c, h, x⟩ : Sh).r = true := r
  have t : fitL ⟨c, h, x⟩ ls = true := t
  have w : sumW ⟨c, h, x⟩ ls ≤ 512 := w
  have f3 : ls.all lyB = true := f3
  generalize hs : (⟨c, h, x⟩ : Sh) = s at r t w p ⊢
  obtain ⟨o1, o2⟩ := out_square (endS s (ls.take k)) (l := sqLy) rfl
  have t2 : fitL s (ls.take k ++ sqLy :: ls.drop k) = true := by
    rw [fit_app, fitL, o1, o2, Bool.true_and, ← fit_app, List.take_append_drop]; exact t
  have w2 : sumW s (ls.take k ++ sqLy :: ls.drop k) = sumW s ls := by
    rw [w_app, sumW, o1, w_none _ (by decide) (by decide), Int.zero_add, ← w_app, List.take_append_drop]
  have p2 : sumP s (ls.take k ++ sqLy :: ls.drop k) = sumP s ls + (endS s (ls.take k)).n := by
    rw [p_app, sumP, o1, p_square _ _ rfl]
    have := p_app (ls.take k) (ls.drop k) s
    rw [List.take_append_drop] at this
    omega
  have g : formB ⟨c, h, x, ls.take k ++ sqLy :: ls.drop k⟩ = true := by
    refine form_mk f1 (by simp; omega) ?_
    have := all_parts (xs := ls.take k) (ys := ls.drop k) (by rw [List.take_append_drop]; exact f3)
    simp only [List.all_append, List.all_cons, this.1, this.2, sq_form, Bool.and_self]
  refine ⟨?_, ?_, w2, p2⟩
  · unfold errN
    rw [if_neg (by rw [g]; decide), if_neg (by rw [show (⟨c, h, x, ls.take k ++ sqLy :: ls.drop k⟩ : Nt).s.r = true by rw [show (⟨c, h, x, ls.take k ++ sqLy :: ls.drop k⟩ : Nt).s = s from hs]; exact r]; decide)]
    rw [show (⟨c, h, x, ls.take k ++ sqLy :: ls.drop k⟩ : Nt).s = s from hs]
    show (if fitL s (ls.take k ++ sqLy :: ls.drop k) = false then 21 else if sumW s (ls.take k ++ sqLy :: ls.drop k) ≤ 512 ∧ sumP s (ls.take k ++ sqLy :: ls.drop k) ≤ 512 then 0 else 5) = _
    rw [if_neg (by rw [t2]; decide), w2, p2]
    by_cases q : sumP s ls + (endS s (ls.take k)).n ≤ 512
    · rw [if_pos ⟨w, q⟩, if_pos q]
    · rw [if_neg (fun z => q z.2), if_neg q]
  · rw [sh_app, shL, o1]
    have e1 : (shL s (ls.take k)).dropLast = (shL s ls).take k := by
      rw [sh_take, List.dropLast_eq_take, List.length_take, sh_len, List.take_take]
      congr 1
      omega
    have e2 : shL (endS s (ls.take k)) (ls.drop k) = (shL s ls).drop k := by
      have := sh_app (ls.take k) (ls.drop k) s
      rw [List.take_append_drop, e1] at this
      have l1 : ((shL s ls).take k).length = k := by rw [List.length_take, sh_len]; omega
      rw [this]
      exact (List.drop_left' l1).symm
    have hg := sh_get ls s k hk
    obtain ⟨hlt, hge⟩ := List.getElem?_eq_some_iff.1 hg
    rw [e1, e2, ← hge, List.take_succ_eq_append_getElem hlt, List.append_assoc]
    rfl

/-! ### A layer more -/
theorem more_wrong {c h x : Int} {ls : List Ly} (l : Ly) (g : formB ⟨c, h, x, ls ++ [l]⟩ = true) (r : rightB c h x = true) :
    (errN ⟨c, h, x, ls⟩ = 21 → errN ⟨c, h, x, ls ++ [l]⟩ = 21) ∧ (errN ⟨c, h, x, ls⟩ = 5 → errN ⟨c, h, x, ls ++ [l]⟩ = 21 ∨ errN ⟨c, h, x, ls ++ [l]⟩ = 5) ∧
    (errN ⟨c, h, x, ls⟩ = 21 ∨ errN ⟨c, h, x, ls⟩ = 5 ∨ errN ⟨c, h, x, ls⟩ = 0) ∧
    (errN ⟨c, h, x, ls⟩ = 0 → errN ⟨c, h, x, ls ++ [l]⟩ = 0 ∨ errN ⟨c, h, x, ls ++ [l]⟩ = 21 ∨ (errN ⟨c, h, x, ls ++ [l]⟩ = 5 ∧ (l.k = 1 ∨ l.k = 4 ∨ l.k = 2))) := by
  obtain ⟨g1, g2, g3⟩ := form_parts g
  have g2 : (ls ++ [l]).length ≤ 8 := g2
  have g3 : (ls ++ [l]).all lyB = true := g3
  obtain ⟨g4, g5⟩ := all_parts g3
  have hl : lyB l = true := by simpa using g5
  have f : formB ⟨c, h, x, ls⟩ = true := form_mk g1 (by show ls.length ≤ 8; simp at g2; omega) g4
  have r : (⟨c, h, x⟩ : Sh).r = true := r
  have E : ∀ xs : List Ly, formB ⟨c, h, x, xs⟩ = true → errN ⟨c, h, x, xs⟩ = if fitL ⟨c, h, x⟩ xs = false then 21 else if sumW ⟨c, h, x⟩ xs ≤ 512 ∧ sumP ⟨c, h, x⟩ xs ≤ 512 then 0 else 5 := fun xs hx => by
    unfold errN
    rw [if_neg (by rw [hx]; decide), if_neg (by rw [show (⟨c, h, x, xs⟩ : Nt).s.r = true from r]; decide)]; rfl
  rw [E _ f, E _ g]
  generalize (⟨c, h, x⟩ : Sh) = s at r ⊢
  rw [fit_app, w_app, p_app]
  cases t : fitL s ls
  · simp
  · have er := end_right _ _ r g4 t
    obtain ⟨n1, n2⟩ := sums_nn r g4 t
    simp only [Bool.true_and, Bool.true_eq_false, if_false]
    simp only [fitL, sumW, sumP, Bool.and_true, Int.add_zero]
    cases o : okS (endS s ls) l
    · by_cases q : sumW s ls ≤ 512 ∧ sumP s ls ≤ 512
      · simp [q]
      · simp [q]
    · obtain ⟨m1, m2, m3, m4⟩ := w_pos er hl o
      by_cases q : sumW s ls ≤ 512 ∧ sumP s ls ≤ 512
      · by_cases q2 : sumW s ls + wI (endS s ls) l ≤ 512 ∧ sumP s ls + pI (endS s ls) (outS (endS s ls) l) l ≤ 512
        · simp [q, q2]
        · have : l.k = 1 ∨ l.k = 4 ∨ l.k = 2 := by
            rcases ly_kind hl with k | k | k | k
            · exact .inl k
            · exact .inr (.inr k)
            · exfalso
              have a := m1.2 (.inr k)
              have b := m4.2 k
              apply q2
              rw [a, b]
              omega
            · exact .inr (.inl k)
          simp [q, q2, this]
      · have q2 : ¬ (sumW s ls + wI (endS s ls) l ≤ 512 ∧ sumP s ls + pI (endS s ls) (outS (endS s ls) l) l ≤ 512) := by omega
        simp [q, q2]

end Go.Proofs.Ytnfmpladdfgadaa
