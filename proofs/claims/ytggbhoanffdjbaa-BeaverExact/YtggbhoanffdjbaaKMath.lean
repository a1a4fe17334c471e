/-
  Products of numbers that neither party knows: apart from any program.
-/
import Derived.Test.YtggbhoanffdjbaaJMath
namespace Go.Proofs.Ytggbhoanffdjbaa
open Go.RowKit

/-- What is said of a product's numbers. -/
structure On where
  d : UInt64
  e : UInt64
def On.z : On := ⟨0, 0⟩
def oncells (o : On) : List Value := [.int .u64 (uz o.d), .int .u64 (uz o.e)]
def onv (o : On) : Value := .agg #[.int .u64 (uz o.d), .int .u64 (uz o.e)]
theorem oncells_len (o : On) : (oncells o).length = 2 := rfl
theorem oncells_one (o : On) : ∀ u ∈ oncells o, u.oneCell' = true := fun u hu => by
  simp only [oncells, List.mem_cons, List.mem_nil_iff, or_false] at hu
  rcases hu with rfl | rfl <;> rfl
def openU (x y : UInt64) (t : Tp) : On := ⟨x - t.a, y - t.b⟩
def sumO (a b : On) : On := ⟨a.d + b.d, a.e + b.e⟩
def closeU (who : Int) (o : On) (t : Tp) : UInt64 := if who = 0 then t.c + o.d * t.b + o.e * t.a + o.d * o.e else t.c + o.d * t.b + o.e * t.a
theorem close_zero (o : On) (t : Tp) : closeU 0 o t = t.c + o.d * t.b + o.e * t.a + o.d * o.e := if_pos rfl
theorem close_one {who : Int} (h : who ≠ 0) (o : On) (t : Tp) : closeU who o t = t.c + o.d * t.b + o.e * t.a := if_neg h
theorem close_any (x u y v : UInt64) (s t : Tp) : closeU 0 (sumO (openU x y s) (openU u v t)) s + closeU 1 (sumO (openU x y s) (openU u v t)) t = (x + u) * (y + v) + (s.c + t.c - (s.a + t.a) * (s.b + t.b)) := by
  rw [close_zero, close_one (by decide)]
  unfold sumO openU
  dsimp only
  grind
theorem close_exact (x u y v z i : UInt64) : closeU 0 (sumO (openU x y (halfU z 0 i)) (openU u v (halfU z 1 i))) (halfU z 0 i) + closeU 1 (sumO (openU x y (halfU z 0 i)) (openU u v (halfU z 1 i))) (halfU z 1 i) = (x + u) * (y + v) := by
  rw [close_any, half_product]
  grind
theorem open_other (x y u v : UInt64) (t : Tp) : openU u v ⟨t.a + u - x, t.b + v - y, t.c⟩ = openU x y t := by
  unfold openU
  dsimp only
  rw [show u - (t.a + u - x) = x - t.a by grind, show v - (t.b + v - y) = y - t.b by grind]
theorem open_inj {x y u v : UInt64} {t : Tp} : openU u v t = openU x y t ↔ u = x ∧ v = y := by
  unfold openU
  constructor
  · intro h
    injection h with h1 h2
    exact ⟨by grind, by grind⟩
  · rintro ⟨rfl, rfl⟩; rfl
theorem open_back (x y : UInt64) (t : Tp) : (openU x y t).d + t.a = x ∧ (openU x y t).e + t.b = y := by
  unfold openU
  exact ⟨by grind, by grind⟩
theorem close_nought (who : Int) (t : Tp) : closeU who On.z t = t.c := by
  unfold closeU On.z
  split <;> grind
theorem close_apart {who : Int} (h : who ≠ 0) (o : On) (t : Tp) : closeU 0 o t - closeU who o t = o.d * o.e := by
  rw [close_zero, close_one h]
  grind
theorem sum_nought (o : On) : sumO o On.z = o := by
  unfold sumO On.z
  dsimp only
  rw [UInt64.add_zero, UInt64.add_zero]
/-- Place by place. -/
def opensU (xs ys : List UInt64) (ts : List Tp) : List On := List.zipWith (fun p t => openU p.1 p.2 t) (List.zip xs ys) ts
def closesU (who : Int) (os : List On) (ts : List Tp) : List UInt64 := List.zipWith (closeU who) os ts
/-- A block that holds an opening. -/
def OC (w : World) (b : Nat) (o : On) : Prop := w.heap[b]? = some (.cells #[.int .u64 (uz o.d), .int .u64 (uz o.e)] 44 (0, 0))
theorem OC.lt {w : World} {b : Nat} {o : On} (H : OC w b o) : b < w.heap.size := (Array.getElem?_eq_some_iff.1 H).1
theorem OC.below {w w' : World} {b : Nat} {o : On} (H : OC w b o) (hb : Below w.heap.size w w') : OC w' b o := (hb.block b H.lt).trans H
theorem OC.cells {w : World} {b : Nat} {o : On} (H : OC w b o) : w.cell? ⟨b, 0, none⟩ = some (.int .u64 (uz o.d)) ∧ w.cell? ⟨b, 1, none⟩ = some (.int .u64 (uz o.e)) := by
  refine ⟨?_, ?_⟩ <;> (rw [Lib.cell_of_heap H]; rfl)
theorem OC.frozen {w : World} {b : Nat} {o : On} (H : OC w b o) (j : Nat) : w.frozen? ⟨b, j, none⟩ = false := Lib.frozen_of_heap H j
theorem OC.new (w : World) (o : On) : OC (w.alloc (.cells #[.int .u64 (uz o.d), .int .u64 (uz o.e)] 44)) w.heap.size o := heap_alloc_new w _
theorem OC.set {w : World} {b : Nat} {o : On} (H : OC w b o) (p : On) : OC ((w.setCell ⟨b, 0, none⟩ (.int .u64 (uz p.d))).setCell ⟨b, 1, none⟩ (.int .u64 (uz p.e))) b p :=
  Lib.heap_setCell_same (i := 1) (Lib.heap_setCell_same (i := 0) H (.int .u64 (uz p.d))) (.int .u64 (uz p.e))
theorem OC.other {w : World} {b : Nat} {o : On} (H : OC w b o) (a : Addr) (v : Value) (h : b ≠ a.block) : OC (w.setCell a v) b o := (Below.heap_setCell w a v b h).trans H
theorem TC.other {w : World} {b : Nat} {t : Tp} (H : TC w b t) (a : Addr) (v : Value) (h : b ≠ a.block) : TC (w.setCell a v) b t := (Below.heap_setCell w a v b h).trans H
theorem below_set2 {w0 w : World} {B b : Nat} (H : Below B w0 w) (hb : B ≤ b) (v0 v1 : Value) :
    Below B w0 ((w.setCell ⟨b, 0, none⟩ v0).setCell ⟨b, 1, none⟩ v1) :=
  (H.setCell (p := ⟨b, 0, none⟩) hb _).setCell (p := ⟨b, 1, none⟩) hb _
theorem on_cells {w : World} {b off : Nat} {os : List On} (h : ∀ j u, (os.flatMap oncells)[j]? = some u → w.cell? ⟨b, off + j, none⟩ = some u) {k : Nat} {o : On} (ho : os[k]? = some o) :
    w.cell? ⟨b, off + k * 2, none⟩ = some (.int .u64 (uz o.d)) ∧ w.cell? ⟨b, off + k * 2 + 1, none⟩ = some (.int .u64 (uz o.e)) := by
  have q := Rg.at oncells_len h ho
  exact ⟨q 0 _ rfl, q 1 _ rfl⟩

end Go.Proofs.Ytggbhoanffdjbaa
