/-
  What comes out of layers, their weights and products, and which networks are right: apart from any program.
-/
import Derived.Test.YtnfmpladdfgadaaNet
import Derived.Test.YtnfmpladdfgadaaMath3
namespace Go.Proofs.Ytnfmpladdfgadaa

/-- A shape. -/
structure Sh where
  c : Int
  h : Int
  x : Int
def Sh.r (s : Sh) : Bool := rightB s.c s.h s.x
def Sh.n (s : Sh) : Int := sizeI s.c s.h s.x

/-- What comes out of a layer, and whether anything does. -/
def outS (s : Sh) (l : Ly) : Sh :=
  if l.k = 1 then ⟨convC s.c s.h s.x l.o l.s l.t, convH s.c s.h s.x l.o l.s l.t, convW s.c s.h s.x l.o l.s l.t⟩
  else if l.k = 2 then s
  else if l.k = 3 then ⟨poolC s.c s.h s.x l.s, poolH s.c s.h s.x l.s, poolW s.c s.h s.x l.s⟩
  else ⟨l.o, 1, 1⟩
def okS (s : Sh) (l : Ly) : Bool :=
  if l.k = 1 then convB s.c s.h s.x l.o l.s l.t else if l.k = 2 then true else if l.k = 3 then poolB s.c s.h s.x l.s else rightB l.o 1 1
def wI (s : Sh) (l : Ly) : Int := if l.k = 1 then l.o * s.c * l.s * l.s else if l.k = 4 then l.o * s.n else 0
def pI (s t : Sh) (l : Ly) : Int := if l.k = 1 then wI s l * t.h * t.x else if l.k = 2 then s.n else if l.k = 4 then wI s l else 0

/-- What is known of a layer. -/
structure Kn where
  l : Ly
  i : Sh
  u : Sh
  a : Int
def Kn.w (k : Kn) : Int := wI k.i k.l
def Kn.p (k : Kn) : Int := pI k.i k.u k.l
def knL : Sh → Int → List Ly → List Kn
  | _, _, [] => []
  | s, a, l :: ls => ⟨l, s, outS s l, a⟩ :: knL (outS s l) (a + wI s l) ls
def fitL : Sh → List Ly → Bool
  | _, [] => true
  | s, l :: ls => okS s l && fitL (outS s l) ls
def endS : Sh → List Ly → Sh
  | s, [] => s
  | s, l :: ls => endS (outS s l) ls
def sumW : Sh → List Ly → Int
  | _, [] => 0
  | s, l :: ls => wI s l + sumW (outS s l) ls
def sumP : Sh → List Ly → Int
  | _, [] => 0
  | s, l :: ls => pI s (outS s l) l + sumP (outS s l) ls
def shL : Sh → List Ly → List Sh
  | s, [] => [s]
  | s, l :: ls => s :: shL (outS s l) ls
def totW (ks : List Kn) : Int := (ks.map Kn.w).sum
def totP (ks : List Kn) : Int := (ks.map Kn.p).sum

def Nt.s (n : Nt) : Sh := ⟨n.c, n.h, n.x⟩
/-- What is wrong with a network (0: nothing). -/
def errN (n : Nt) : Int :=
  if formB n = false then 12 else if n.s.r = false then 1 else if fitL n.s n.ls = false then 21 else if sumW n.s n.ls ≤ 512 ∧ sumP n.s n.ls ≤ 512 then 0 else 5
def knN (n : Nt) : List Kn := if errN n = 0 then knL n.s 0 n.ls else []
def shN (n : Nt) : List Sh := if errN n = 0 then shL n.s n.ls else []

/-! ### One layer -/
theorem right_bd {s : Sh} (h : s.r = true) : 1 ≤ s.c ∧ s.c ≤ 8 ∧ 1 ≤ s.h ∧ s.h ≤ 12 ∧ 1 ≤ s.x ∧ s.x ≤ 12 ∧ s.c * s.h * s.x ≤ 128 := rightB_out h
theorem size_bd (s : Sh) : 0 ≤ s.n ∧ s.n ≤ 128 := sizeI_bd _ _ _
theorem size_pos {s : Sh} (h : s.r = true) : 1 ≤ s.n := by
  obtain ⟨a1, a2, a3, a4, a5, a6, a7⟩ := right_bd h
  have := prod_small a1 a2 a3 a4 a5 a6
  unfold Sh.n
  rw [sizeI_yes h]; omega
theorem out_conv (s : Sh) {l : Ly} (k : l.k = 1) : outS s l = ⟨convC s.c s.h s.x l.o l.s l.t, convH s.c s.h s.x l.o l.s l.t, convW s.c s.h s.x l.o l.s l.t⟩ ∧ okS s l = convB s.c s.h s.x l.o l.s l.t := by
  unfold outS okS; rw [if_pos k, if_pos k]; exact ⟨rfl, rfl⟩
theorem out_square (s : Sh) {l : Ly} (k : l.k = 2) : outS s l = s ∧ okS s l = true := by
  unfold outS okS; simp [k]
theorem out_pool (s : Sh) {l : Ly} (k : l.k = 3) : outS s l = ⟨poolC s.c s.h s.x l.s, poolH s.c s.h s.x l.s, poolW s.c s.h s.x l.s⟩ ∧ okS s l = poolB s.c s.h s.x l.s := by
  unfold outS okS; simp [k]
theorem out_dense (s : Sh) {l : Ly} (k : l.k = 4) : outS s l = ⟨l.o, 1, 1⟩ ∧ okS s l = rightB l.o 1 1 := by
  unfold outS okS; simp [k]
theorem w_conv (s : Sh) {l : Ly} (k : l.k = 1) : wI s l = l.o * s.c * l.s * l.s := by unfold wI; rw [if_pos k]
theorem w_dense (s : Sh) {l : Ly} (k : l.k = 4) : wI s l = l.o * s.n := by unfold wI; rw [if_neg (by omega), if_pos k]
theorem w_none (s : Sh) {l : Ly} (k1 : ¬ l.k = 1) (k4 : ¬ l.k = 4) : wI s l = 0 := by unfold wI; rw [if_neg k1, if_neg k4]
theorem p_conv (s t : Sh) {l : Ly} (k : l.k = 1) : pI s t l = wI s l * t.h * t.x := by unfold pI; rw [if_pos k]
theorem p_square (s t : Sh) {l : Ly} (k : l.k = 2) : pI s t l = s.n := by unfold pI; rw [if_neg (by omega), if_pos k]
theorem p_dense (s t : Sh) {l : Ly} (k : l.k = 4) : pI s t l = wI s l := by unfold pI; rw [if_neg (by omega), if_neg (by omega), if_pos k]
theorem p_none (s t : Sh) {l : Ly} (k1 : ¬ l.k = 1) (k2 : ¬ l.k = 2) (k4 : ¬ l.k = 4) : pI s t l = 0 := by unfold pI; rw [if_neg k1, if_neg k2, if_neg k4]

theorem div_bd {h m : Int} (h1 : 1 ≤ h) (m1 : 1 ≤ m) (d : h % m = 0) : 1 ≤ h / m ∧ h / m ≤ h := by
  have a : 0 ≤ h / m := Int.ediv_nonneg (by omega) (by omega)
  have b : h / m ≤ h := Int.ediv_le_self _ (by omega)
  have c := Int.emod_add_mul_ediv h m
  refine ⟨?_, b⟩
  by_cases e : h / m = 0
  · rw [e, d] at c; simp at c; omega
  · omega
theorem pool_right {c h x m : Int} (e : poolB c h x m = true) : rightB c (h / m) (x / m) = true := by
  obtain ⟨r, m1, d1, d2⟩ := poolB_out e
  obtain ⟨a1, a2, a3, a4, a5, a6, a7⟩ := rightB_out r
  obtain ⟨b1, b2⟩ := div_bd a3 m1 d1
  obtain ⟨b3, b4⟩ := div_bd a5 m1 d2
  have q1 : c * (h / m) ≤ c * h := Int.mul_le_mul_of_nonneg_left b2 (by omega)
  have q2 : c * (h / m) * (x / m) ≤ c * h * x := Int.mul_le_mul q1 b4 (by omega) (Int.mul_nonneg (by omega) (by omega))
  exact rightB_yes ⟨a1, a2, b1, by omega, b3, by omega, by omega⟩
theorem out_right {s : Sh} {l : Ly} (h : s.r = true) (hk : lyB l = true) (ho : okS s l = true) : (outS s l).r = true := by
  rcases ly_kind hk with k | k | k | k
  · obtain ⟨e1, e2⟩ := out_conv s k
    rw [e2] at ho
    obtain ⟨c1, c2, c3⟩ := conv_is ho
    rw [e1, c1, c2, c3]
    exact (convB_out ho).2.2.2.2.2.2.2
  · rw [(out_square s k).1]; exact h
  · obtain ⟨e1, e2⟩ := out_pool s k
    rw [e2] at ho
    obtain ⟨c1, c2, c3⟩ := pool_is ho
    rw [e1, c1, c2, c3]
    exact pool_right ho
  · obtain ⟨e1, e2⟩ := out_dense s k
    rw [e2] at ho
    rw [e1]; exact ho

/-- What is reckoned of such a layer is small. -/
def KnOk (k : Kn) : Prop :=
  (k.l.k = 1 → 0 ≤ k.l.o ∧ k.l.o ≤ 8 ∧ 0 ≤ k.i.c ∧ k.i.c ≤ 8 ∧ 0 ≤ k.l.s ∧ k.l.s ≤ 12 ∧ 0 ≤ k.u.h ∧ k.u.h ≤ 12 ∧ 0 ≤ k.u.x ∧ k.u.x ≤ 12) ∧ (k.l.k = 4 → 0 ≤ k.l.o ∧ k.l.o ≤ 8)
theorem mul_bd {a b m n : Int} (a0 : 0 ≤ a) (a1 : a ≤ m) (b0 : 0 ≤ b) (b1 : b ≤ n) : 0 ≤ a * b ∧ a * b ≤ m * n := ⟨mul_lo a0 b0, mul_hi a0 a1 b0 b1⟩
theorem conv_small {o c s : Int} (o0 : 0 ≤ o) (o1 : o ≤ 8) (c0 : 0 ≤ c) (c1 : c ≤ 8) (s0 : 0 ≤ s) (s1 : s ≤ 12) :
    0 ≤ o * c ∧ o * c ≤ 64 ∧ 0 ≤ o * c * s ∧ o * c * s ≤ 768 ∧ 0 ≤ o * c * s * s ∧ o * c * s * s ≤ 9216 := by
  obtain ⟨a1, a2⟩ := mul_bd o0 o1 c0 c1
  obtain ⟨b1, b2⟩ := mul_bd a1 a2 s0 s1
  obtain ⟨d1, d2⟩ := mul_bd b1 b2 s0 s1
  omega
theorem KnOk.w {k : Kn} (h : KnOk k) : 0 ≤ k.w ∧ k.w ≤ 9216 := by
  unfold Kn.w
  by_cases k1 : k.l.k = 1
  · rw [w_conv _ k1]
    obtain ⟨a1, a2, a3, a4, a5, a6, _⟩ := h.1 k1
    have := conv_small a1 a2 a3 a4 a5 a6
    omega
  · by_cases k4 : k.l.k = 4
    · rw [w_dense _ k4]
      obtain ⟨a1, a2⟩ := h.2 k4
      obtain ⟨b1, b2⟩ := size_bd k.i
      have := mul_bd a1 a2 b1 b2
      omega
    · rw [w_none _ k1 k4]; omega
theorem KnOk.p {k : Kn} (h : KnOk k) : 0 ≤ k.p ∧ k.p ≤ 1327104 := by
  have hw := h.w
  unfold Kn.w at hw
  unfold Kn.p
  by_cases k1 : k.l.k = 1
  · rw [p_conv _ _ k1]
    obtain ⟨a1, a2, a3, a4, a5, a6, a7, a8, a9, a10⟩ := h.1 k1
    obtain ⟨b1, b2⟩ := mul_bd hw.1 hw.2 a7 a8
    have := mul_bd b1 b2 a9 a10
    omega
  · by_cases k2 : k.l.k = 2
    · rw [p_square _ _ k2]; have := size_bd k.i; omega
    · by_cases k4 : k.l.k = 4
      · rw [p_dense _ _ k4]; omega
      · rw [p_none _ _ k1 k2 k4]; omega
theorem kn_ok {s : Sh} {l : Ly} (a : Int) (h : s.r = true) (hk : lyB l = true) (ho : okS s l = true) : KnOk ⟨l, s, outS s l, a⟩ := by
  obtain ⟨r1, r2, r3, r4, r5, r6, _⟩ := right_bd h
  obtain ⟨q1, q2, q3, q4, q5, q6, _⟩ := right_bd (out_right h hk ho)
  refine ⟨fun (k : l.k = 1) => ?_, fun (k : l.k = 4) => ?_⟩
  · rw [(out_conv s k).2] at ho
    obtain ⟨_, o1, o2, s1, s2, _⟩ := convB_out ho
    exact ⟨by show 0 ≤ l.o; omega, o2, by show 0 ≤ s.c; omega, r2, by show 0 ≤ l.s; omega, by show l.s ≤ 12; omega, by show 0 ≤ (outS s l).h; omega, q4, by show 0 ≤ (outS s l).x; omega, q6⟩
  · rw [(out_dense s k).2] at ho
    obtain ⟨b1, b2, _⟩ := rightB_out ho
    exact ⟨by show 0 ≤ l.o; omega, b2⟩

/-! ### All layers -/
theorem kn_len : ∀ (ls : List Ly) (s : Sh) (a : Int), (knL s a ls).length = ls.length
  | [], _, _ => rfl
  | l :: ls, s, a => by simp [knL, kn_len ls]
theorem sh_len : ∀ (ls : List Ly) (s : Sh), (shL s ls).length = ls.length + 1
  | [], _ => rfl
  | l :: ls, s => by simp [shL, sh_len ls]
theorem kn_app : ∀ (xs ys : List Ly) (s : Sh) (a : Int), knL s a (xs ++ ys) = knL s a xs ++ knL (endS s xs) (a + sumW s xs) ys
  | [], ys, s, a => by simp [knL, endS, sumW]
  | l :: xs, ys, s, a => by simp only [List.cons_append, knL, endS, sumW]; rw [kn_app xs ys, Int.add_assoc]
theorem fit_app : ∀ (xs ys : List Ly) (s : Sh), fitL s (xs ++ ys) = (fitL s xs && fitL (endS s xs) ys)
  | [], ys, s => by simp [fitL, endS]
  | l :: xs, ys, s => by simp only [List.cons_append, fitL, endS]; rw [fit_app xs ys, Bool.and_assoc]
theorem end_app : ∀ (xs ys : List Ly) (s : Sh), endS s (xs ++ ys) = endS (endS s xs) ys
  | [], ys, s => rfl
  | l :: xs, ys, s => by simp only [List.cons_append, endS]; exact end_app xs ys _
theorem w_app : ∀ (xs ys : List Ly) (s : Sh), sumW s (xs ++ ys) = sumW s xs + sumW (endS s xs) ys
  | [], ys, s => by simp [sumW, endS]
  | l :: xs, ys, s => by simp only [List.cons_append, sumW, endS]; rw [w_app xs ys, Int.add_assoc]
theorem p_app : ∀ (xs ys : List Ly) (s : Sh), sumP s (xs ++ ys) = sumP s xs + sumP (endS s xs) ys
  | [], ys, s => by simp [sumP, endS]
  | l :: xs, ys, s => by simp only [List.cons_append, sumP, endS]; rw [p_app xs ys, Int.add_assoc]
theorem tot_w : ∀ (ls : List Ly) (s : Sh) (a : Int), totW (knL s a ls) = sumW s ls
  | [], _, _ => rfl
  | l :: ls, s, a => by
    have := tot_w ls (outS s l) (a + wI s l)
    unfold totW at this ⊢
    simp only [knL, List.map_cons, List.sum_cons, this, sumW]; rfl
theorem tot_p : ∀ (ls : List Ly) (s : Sh) (a : Int), totP (knL s a ls) = sumP s ls
  | [], _, _ => rfl
  | l :: ls, s, a => by
    have := tot_p ls (outS s l) (a + wI s l)
    unfold totP at this ⊢
    simp only [knL, List.map_cons, List.sum_cons, this, sumP]; rfl
theorem sh_kn : ∀ (ls : List Ly) (s : Sh) (a : Int), shL s ls = s :: (knL s a ls).map Kn.u
  | [], _, _ => rfl
  | l :: ls, s, a => by simp only [shL, knL, List.map_cons]; rw [sh_kn ls _ (a + wI s l)]
theorem end_right : ∀ (ls : List Ly) (s : Sh), s.r = true → ls.all lyB = true → fitL s ls = true → (endS s ls).r = true
  | [], _, h, _, _ => h
  | l :: ls, s, h, hk, hf => by
    simp only [List.all_cons, Bool.and_eq_true] at hk
    simp only [fitL, Bool.and_eq_true] at hf
    exact end_right ls _ (out_right h hk.1 hf.1) hk.2 hf.2
theorem kn_all : ∀ (ls : List Ly) (s : Sh) (a : Int), s.r = true → ls.all lyB = true → fitL s ls = true → ∀ k ∈ knL s a ls, KnOk k
  | [], _, _, _, _, _ => by simp [knL]
  | l :: ls, s, a, h, hk, hf => by
    simp only [List.all_cons, Bool.and_eq_true] at hk
    simp only [fitL, Bool.and_eq_true] at hf
    intro k hm
    simp only [knL, List.mem_cons] at hm
    rcases hm with rfl | hm
    · exact kn_ok a h hk.1 hf.1
    · exact kn_all ls _ _ (out_right h hk.1 hf.1) hk.2 hf.2 k hm
theorem tot_bd : ∀ (ks : List Kn), (∀ k ∈ ks, KnOk k) → 0 ≤ totW ks ∧ totW ks ≤ 9216 * ks.length ∧ 0 ≤ totP ks ∧ totP ks ≤ 1327104 * ks.length
  | [], _ => by simp [totW, totP]
  | k :: ks, h => by
    have a := (h k (by simp)).w
    have b := (h k (by simp)).p
    have c := tot_bd ks fun x hx => h x (by simp [hx])
    unfold totW totP at c ⊢
    simp only [List.map_cons, List.sum_cons, List.length_cons]
    omega
theorem tot_snoc (ks : List Kn) (k : Kn) : totW (ks ++ [k]) = totW ks + k.w ∧ totP (ks ++ [k]) = totP ks + k.p := by
  unfold totW totP; simp

end Go.Proofs.Ytnfmpladdfgadaa
