/-
  Rows of 64-bit numbers in memory, and their arithmetic, apart from any program.
-/
import Derived.WalkKit
import Derived.WalkSpells
import Derived.WalkLawsBesides
namespace Go.Proofs.Ytbhmjmfappfjkaa
open Go.RowKit

/-- The number that a cell bears. -/
def uz (u : UInt64) : Int := (u.toNat : Int)

theorem uz_inj {x y : UInt64} (h : uz x = uz y) : x = y := by
  unfold uz at h
  exact UInt64.toNat_inj.1 (by omega)
theorem uz_lo (x : UInt64) : 0 ≤ uz x := by unfold uz; omega
theorem uz_hi (x : UInt64) : uz x < 18446744073709551616 := by
  unfold uz; have := x.toNat_lt; omega
theorem uz_add (x y : UInt64) : IntKind.u64.wrap (uz x + uz y) = uz (x + y) := by
  rw [IntKind.wrap_u64]; unfold uz; rw [UInt64.toNat_add]; omega
theorem uz_sub (x y : UInt64) : IntKind.u64.wrap (uz x - uz y) = uz (x - y) := by
  rw [IntKind.wrap_u64]; unfold uz; rw [UInt64.toNat_sub]
  have hx := x.toNat_lt; have hy := y.toNat_lt; omega
theorem uz_mul (x y : UInt64) : IntKind.u64.wrap (uz x * uz y) = uz (x * y) := by
  rw [IntKind.wrap_u64]; unfold uz; rw [UInt64.toNat_mul]; omega
theorem uz_beq (x y : UInt64) : (uz x == uz y) = (x == y) := by
  rw [Bool.eq_iff_iff, beq_iff_eq, beq_iff_eq]
  exact ⟨uz_inj, fun h => by rw [h]⟩
theorem uz_of {n : Int} (h0 : 0 ≤ n) (h1 : n < 18446744073709551616) : ∃ u : UInt64, n = uz u :=
  ⟨UInt64.ofNat n.toNat, by unfold uz; rw [UInt64.toNat_ofNat']; omega⟩

/-- The number at a place of a row. -/
def nth (us : List UInt64) (j : Nat) : Int := uz (us.getD j 0)

/-- A slice's address, behind which the row lies. -/
def Rd (w : World) (A : Option Addr) (us : List UInt64) : Prop :=
  0 < us.length → ∃ b off, A = some ⟨b, off, none⟩ ∧ b < w.heap.size ∧ ∀ j, j < us.length → w.cell? ⟨b, off + j, none⟩ = some (.int .u64 (nth us j))

theorem Rd.nil (w : World) (A : Option Addr) : Rd w A [] := fun h => absurd h (by simp)

theorem Rd.below {w w' : World} {A : Option Addr} {us : List UInt64} (h : Rd w A us) (hb : Below w.heap.size w w') : Rd w' A us := fun h0 => by
  obtain ⟨b, off, e, hlt, hc⟩ := h h0
  exact ⟨b, off, e, Nat.lt_of_lt_of_le hlt hb.size, fun j hj => (hb.cell (p := ⟨b, off + j, none⟩) hlt).trans (hc j hj)⟩

theorem Rd.take {w : World} {A : Option Addr} {us : List UInt64} (h : Rd w A us) (k : Nat) : Rd w A (us.take k) := fun h0 => by
  rw [List.length_take] at h0
  obtain ⟨b, off, e, hlt, hc⟩ := h (by omega)
  refine ⟨b, off, e, hlt, fun j hj => ?_⟩
  rw [List.length_take] at hj
  rw [hc j (by omega)]
  have : nth (us.take k) j = nth us j := by
    unfold nth
    rw [List.getD_eq_getElem?_getD, List.getD_eq_getElem?_getD, List.getElem?_take, if_pos (by omega)]
  rw [this]

theorem Rd.drop {w : World} {A : Option Addr} {us : List UInt64} {k cap : Nat} (h : Rd w A us) (hc : us.length ≤ cap) :
    Rd w (if cap = k then A else A.map (·.add k)) (us.drop k) := fun h0 => by
  rw [List.length_drop] at h0
  obtain ⟨b, off, rfl, hlt, hcell⟩ := h (by omega)
  rw [if_neg (by omega)]
  refine ⟨b, off + k, ?_, hlt, fun j hj => ?_⟩
  · simp [Addr.add]
  · rw [List.length_drop] at hj
    rw [Nat.add_assoc, hcell (k + j) (by omega)]
    have : nth (us.drop k) j = nth us (k + j) := by
      unfold nth
      rw [List.getD_eq_getElem?_getD, List.getD_eq_getElem?_getD, List.getElem?_drop]
    rw [this]

/-- A row that the call itself has made, as a slice's address. -/
theorem Rd.own {w : World} {base e n cap : Nat} {A : Option Addr} {us : List UInt64}
    (h : w.ownsRow base e 1 (.slice A n cap) n (us.map fun u => Value.int .u64 (uz u))) : Rd w A us := fun h0 => by
  have hl := h.1
  rw [List.length_map] at hl
  rcases h.2 with ⟨_, hn⟩ | ⟨g, cp, cur, hv, _, hh, _⟩
  · omega
  · have hA : A = some ⟨g, 0, none⟩ := by injection hv
    subst hA
    refine ⟨g, 0, rfl, (Array.getElem?_eq_some_iff.1 hh).1, fun j hj => ?_⟩
    have hc := h.cells (g := g) rfl j (Value.int .u64 (nth us j)) (by
      rw [List.getElem?_map, List.getElem?_eq_getElem hj]
      simp [nth, List.getD_eq_getElem?_getD, hj])
    have hadd : (⟨g, 0, none⟩ : Addr).add j = ⟨g, 0 + j, none⟩ := by unfold Addr.add; split <;> simp_all
    rw [hadd] at hc
    exact hc

theorem own_row {w : World} {base e n : Nat} {v : Value} {us : List UInt64}
    (h : w.ownsRow base e 1 v n (us.map fun u => Value.int .u64 (uz u))) : ∃ A c, v = .slice A n c ∧ Rd w A us := by
  rcases h.2 with ⟨hv, hn⟩ | ⟨g, cp, cur, hv, hrest⟩
  · subst hv
    subst hn
    exact ⟨none, 0, rfl, Rd.own h⟩
  · subst hv
    exact ⟨_, cp, rfl, Rd.own h⟩

end Go.Proofs.Ytbhmjmfappfjkaa
