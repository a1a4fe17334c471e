/-
  Rows of texts in memory; the library's table of powers; what a builder's writers do.
-/
import Derived.Test.YtmlflmlgjjjmfaaDoorRows
import Derived.Test.YtmlflmlgjjjmfaaDoorShelf
import Derived.Test.YtmlflmlgjjjmfaaDoorNum
import Derived.WalkKit
import Derived.WalkSpells
import Derived.WalkLawsBesides
import Derived.BigCall
import Derived.BigGuard
import Derived.Lib.Hide
namespace Go.Proofs.YtmlflmlgjjjmfaaDoor
open Go.RowKit

/-- A slice's address, behind which the texts lie. -/
def Rd (w : World) (A : Option Addr) (xs : List (List UInt8)) : Prop :=
  0 < xs.length → ∃ b off, A = some ⟨b, off, none⟩ ∧ b < w.heap.size ∧ ∀ j, j < xs.length → w.cell? ⟨b, off + j, none⟩ = some (.string (ba (xs.getD j [])))
def cellsOf (xs : List (List UInt8)) : List Value := xs.map fun x => Value.string (ba x)
theorem cellsOf_length (xs : List (List UInt8)) : (cellsOf xs).length = xs.length := by simp [cellsOf]
theorem cellsOf_append (xs ys : List (List UInt8)) : cellsOf (xs ++ ys) = cellsOf xs ++ cellsOf ys := by simp [cellsOf]

theorem Rd.nil (w : World) (A : Option Addr) : Rd w A [] := fun h => absurd h (by simp)
theorem Rd.below {w w' : World} {A : Option Addr} {us : List (List UInt8)} (h : Rd w A us) (hb : Below w.heap.size w w') : Rd w' A us := fun h0 => by
  obtain ⟨b, off, e, hlt, hc⟩ := h h0
  exact ⟨b, off, e, Nat.lt_of_lt_of_le hlt hb.size, fun j hj => (hb.cell (p := ⟨b, off + j, none⟩) hlt).trans (hc j hj)⟩
theorem Rd.take {w : World} {A : Option Addr} {us : List (List UInt8)} (h : Rd w A us) (k : Nat) : Rd w A (us.take k) := fun h0 => by
  rw [List.length_take] at h0
  obtain ⟨b, off, e, hlt, hc⟩ := h (by omega)
  refine ⟨b, off, e, hlt, fun j hj => ?_⟩
  rw [List.length_take] at hj
  rw [hc j (by omega)]
  have : (us.take k).getD j [] = us.getD j [] := by
    rw [List.getD_eq_getElem?_getD, List.getD_eq_getElem?_getD, List.getElem?_take, if_pos (by omega)]
  rw [this]
theorem Rd.drop {w : World} {A : Option Addr} {us : List (List UInt8)} {k cap : Nat} (h : Rd w A us) (hc : us.length ≤ cap) :
    Rd w (if cap = k then A else A.map (·.add k)) (us.drop k) := fun h0 => by
  rw [List.length_drop] at h0
  obtain ⟨b, off, rfl, hlt, hcell⟩ := h (by omega)
  rw [if_neg (by omega)]
  refine ⟨b, off + k, ?_, hlt, fun j hj => ?_⟩
  · simp [Addr.add]
  · rw [List.length_drop] at hj
    rw [Nat.add_assoc, hcell (k + j) (by omega)]
    have : (us.drop k).getD j [] = us.getD (k + j) [] := by
      rw [List.getD_eq_getElem?_getD, List.getD_eq_getElem?_getD, List.getElem?_drop]
    rw [this]
theorem plain_add (g j : Nat) : (⟨g, 0, none⟩ : Addr).add j = ⟨g, 0 + j, none⟩ := by unfold Addr.add; split <;> simp_all
theorem own_row {w : World} {base n : Nat} {v : Value} {us : List (List UInt8)}
    (h : w.ownsRow base 9 1 v n (cellsOf us)) : ∃ A c, v = .slice A n c ∧ n = us.length ∧ Rd w A us := by
  have hl := h.1
  rw [cellsOf_length] at hl
  rcases h.2 with ⟨hv, hn⟩ | ⟨g, cp, cur, hv, _, hh, _⟩
  · subst hv
    subst hn
    exact ⟨none, 0, rfl, by omega, fun h0 => absurd h0 (by omega)⟩
  · subst hv
    refine ⟨_, cp, rfl, by omega, fun h0 => ⟨g, 0, rfl, (Array.getElem?_eq_some_iff.1 hh).1, fun j hj => ?_⟩⟩
    have hc := h.cells (g := g) rfl j (Value.string (ba (us.getD j []))) (by
      unfold cellsOf
      rw [List.getElem?_map, List.getElem?_eq_getElem hj]
      simp [List.getD_eq_getElem?_getD, hj])
    rw [plain_add] at hc
    exact hc
/-- Where the source of an append lies. -/
theorem Rd.cells {w : World} {b off : Nat} {us : List (List UInt8)} (h : ∀ j, j < us.length → w.cell? ⟨b, off + j, none⟩ = some (.string (ba (us.getD j [])))) :
    ∀ j u, (cellsOf us)[j]? = some u → w.cell? ((⟨b, off, none⟩ : Addr).add j) = some u := fun j u hu => by
  have hj : j < us.length := by
    have := (List.getElem?_eq_some_iff.1 hu).1
    rwa [cellsOf_length] at this
  have ha : (⟨b, off, none⟩ : Addr).add j = ⟨b, off + j, none⟩ := by unfold Addr.add; split <;> simp_all
  rw [ha, h j hj]
  unfold cellsOf at hu
  rw [List.getElem?_map, List.getElem?_eq_getElem hj] at hu
  rw [← hu]
  simp [List.getD_eq_getElem?_getD, hj]
theorem cells_one (us : List (List UInt8)) : ∀ u ∈ cellsOf us, u.oneCell' = true := fun u hu => by
  unfold cellsOf at hu
  obtain ⟨x, _, rfl⟩ := List.mem_map.1 hu
  rfl

theorem bcell {W w1 : World} (hb : Below W.heap.size W w1) : (∀ b o, b < W.heap.size → w1.cell? ⟨b, o, none⟩ = W.cell? ⟨b, o, none⟩) ∧ (∀ b o, b < W.heap.size → w1.frozen? ⟨b, o, none⟩ = W.frozen? ⟨b, o, none⟩) :=
  ⟨fun b o h => hb.cell (p := ⟨b, o, none⟩) h, fun b o h => hb.frozen (p := ⟨b, o, none⟩) h⟩

theorem Tryd.info9 : (Tryd.prog.info? 9).map (fun i => (i.zero, i.size, i.bytes)) = some (some (.string ⟨#[]⟩), 1, 16) := by kernel_rfl
theorem Tryd.info5 : (Tryd.prog.info? 5).map (fun i => (i.zero, i.size, i.bytes)) = some (some (.int .u8 0), 1, 1) := by kernel_rfl
theorem Tryd.own : ownKnob Tryd.prog.godebug = none := by kernel_rfl
theorem Tryd.laidOut : laidOutB Tryd.prog = true := by kernel_rfl

/-- The library's table of the powers of ten. -/
def powName : String := Rows.descrTellsRow.named.headD ""
def Tab (w : World) : Prop := Lib.TabIs Tryd.prog w powName .u64 Lib.pow10Tab
theorem pow_global : Tryd.prog.globalNamed powName = some 1 := by kernel_rfl
theorem Tab.below {w w' : World} (h : Tab w) (hb : Below w.heap.size w w') : Tab w' := by
  exact Joins.tab_stays pow_global h hb (Nat.le_refl _)

end Go.Proofs.YtmlflmlgjjjmfaaDoor
