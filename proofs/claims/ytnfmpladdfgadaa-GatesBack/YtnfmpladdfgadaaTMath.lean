/-
  Which numbers each number is made of: apart from any program; small whole numbers as floats.
-/
import Derived.Test.YtnfmpladdfgadaaSpot
import Derived.Test.YtnfmpladdfgadaaFacts
import Derived.WalkLawsBesides
namespace Go.Proofs.Ytnfmpladdfgadaa

/-- A product: the place of a number, that of a weight. -/
structure Tm where
  x : Int
  w : Int
def Tm.z : Tm := ⟨0, 0⟩
/-- Places of a window's row, of its first rows, of the window; of all channels' windows. -/
def rowL (s : Sh) (c y x : Int) (m : Nat) : List Int := (List.range m).map fun q => atI s.c s.h s.x c y (x + (q : Nat))
def winR (s : Sh) (c y x : Int) (m r : Nat) : List Int := (List.range r).flatMap fun i => rowL s c (y + (i : Nat)) x m
def winL (s : Sh) (c y x : Int) (m : Nat) : List Int := winR s c y x m m
def chanL (s : Sh) (y x : Int) (m cs : Nat) : List Int := (List.range cs).flatMap fun c => winL s (c : Nat) y x m
/-- Terms whose weights stand one behind the other. -/
def seqT (b : Int) : List Int → List Tm
  | [] => []
  | x :: xs => ⟨x, b⟩ :: seqT (b + 1) xs
def numL (n : Nat) : List Int := (List.range n).map fun j => ((j : Nat) : Int)

theorem row_next (s : Sh) (c y x : Int) (m : Nat) : rowL s c y x (m + 1) = rowL s c y x m ++ [atI s.c s.h s.x c y (x + (m : Nat))] := by
  unfold rowL; rw [List.range_succ, List.map_append]; rfl
theorem win_next (s : Sh) (c y x : Int) (m r : Nat) : winR s c y x m (r + 1) = winR s c y x m r ++ rowL s c (y + (r : Nat)) x m := by
  unfold winR; rw [List.range_succ, List.flatMap_append]; simp
theorem chan_next (s : Sh) (y x : Int) (m cs : Nat) : chanL s y x m (cs + 1) = chanL s y x m cs ++ winL s (cs : Nat) y x m := by
  unfold chanL; rw [List.range_succ, List.flatMap_append]; simp
theorem num_next (n : Nat) : numL (n + 1) = numL n ++ [(n : Int)] := by
  unfold numL; rw [List.range_succ, List.map_append]; rfl
theorem row_len (s : Sh) (c y x : Int) (m : Nat) : (rowL s c y x m).length = m := by simp [rowL]
theorem win_len (s : Sh) (c y x : Int) (m : Nat) : ∀ r, (winR s c y x m r).length = r * m
  | 0 => by simp [winR]
  | r + 1 => by rw [win_next, List.length_append, win_len s c y x m r, row_len, Nat.succ_mul]
theorem chan_len (s : Sh) (y x : Int) (m : Nat) : ∀ cs, (chanL s y x m cs).length = cs * (m * m)
  | 0 => by simp [chanL]
  | cs + 1 => by rw [chan_next, List.length_append, chan_len s y x m cs, winL, win_len, Nat.succ_mul]
theorem num_len (n : Nat) : (numL n).length = n := by simp [numL]
theorem seq_len : ∀ (xs : List Int) (b : Int), (seqT b xs).length = xs.length
  | [], _ => rfl
  | x :: xs, b => by simp [seqT, seq_len xs]
theorem seq_app : ∀ (xs ys : List Int) (b : Int), seqT b (xs ++ ys) = seqT b xs ++ seqT (b + xs.length) ys
  | [], ys, b => by simp [seqT]
  | x :: xs, ys, b => by
    simp only [List.cons_append, seqT, List.length_cons]
    rw [seq_app xs ys, show b + 1 + (xs.length : Int) = b + ((xs.length + 1 : Nat) : Int) by omega]
theorem seq_snoc (xs : List Int) (x b : Int) : seqT b (xs ++ [x]) = seqT b xs ++ [⟨x, b + xs.length⟩] := by rw [seq_app]; rfl
theorem seq_get : ∀ (xs : List Int) (b : Int) (j : Nat) (x : Int), xs[j]? = some x → (seqT b xs)[j]? = some ⟨x, b + j⟩
  | [], _, _, _, h => by simp at h
  | y :: ys, b, 0, x, h => by simp at h; simp [seqT, h]
  | y :: ys, b, j + 1, x, h => by
    simp only [seqT, List.getElem?_cons_succ] at h ⊢
    rw [seq_get ys (b + 1) j x h, show b + 1 + (j : Int) = b + ((j + 1 : Nat) : Int) by omega]

/-- The terms of a place that comes out of a layer, and its parts. -/
def termsK (K : Kn) (p : Int) : List Tm :=
  if K.l.k = 1 then seqT (K.a + chI K.u.c K.u.h K.u.x p * K.i.c * K.l.s * K.l.s) (chanL K.i (rowI K.u.c K.u.h K.u.x p * K.l.t) (colI K.u.c K.u.h K.u.x p * K.l.t) K.l.s.toNat K.i.c.toNat)
  else if K.l.k = 2 then [⟨p, -1⟩]
  else if K.l.k = 4 then seqT (K.a + p * K.i.n) (numL K.i.n.toNat)
  else []
def hasK (K : Kn) (p : Int) : Bool := hasB K.u.c K.u.h K.u.x p
def termsN (N : Nt) (i p : Int) : List Tm := if hasK (atN N i) p = true then termsK (atN N i) p else []
def partsK (K : Kn) (p : Int) : List Int :=
  if K.l.k = 3 then winL K.i (chI K.u.c K.u.h K.u.x p) (rowI K.u.c K.u.h K.u.x p * K.l.s) (colI K.u.c K.u.h K.u.x p * K.l.s) K.l.s.toNat else []
def partsN (N : Nt) (i p : Int) : List Int := if hasK (atN N i) p = true then partsK (atN N i) p else []
theorem hasK_z (p : Int) : hasK Kn.z p = false := hasB_no (by rw [show sizeI Kn.z.u.c Kn.z.u.h Kn.z.u.x = 0 from by decide]; omega)

/-! ### Whole numbers as floats -/
def fl (n : Nat) : Nat := FloatKind.f64.nearest n
theorem fl_add : ∀ n : Fin 200, floatBits .add .f64 (fl n) 4607182418800017408 = some (fl (n + 1)) := by decide +kernel
theorem fl_none : ∀ n : Fin 200, floatBits .add .f64 (fl n) 0 = some (fl n) := by decide +kernel
theorem fl_int : ∀ n : Fin 200, floatToIntVal .f64 (fl n) .i64 = some (n : Int) := by decide +kernel
theorem fl_zero : fl 0 = 0 := by decide +kernel

end Go.Proofs.Ytnfmpladdfgadaa
