/-
  What package chunk answers: Put.
-/
import Derived.Test.YtlllinpaclodaaaCPub1
import Derived.Laws.CopyOwn
namespace Go.Proofs.Ytlllinpaclodaaa
open Go.RowKit

/-- A block of bytes. -/
def AB (w : World) (g T : Nat) (l : List UInt8) : Prop := w.heap[g]? = some (.cells (l.flatMap bcells).toArray T (0, 0))
theorem bflat_get (l : List UInt8) (j : Nat) : (l.flatMap bcells)[j]? = (l[j]?).map fun y => Value.int .u8 (bz y) := by
  by_cases h : j < l.length
  · have := flat_get bcells_len l j 0 _ (List.getElem?_eq_getElem h) (by decide)
    rw [Nat.mul_one, Nat.add_zero] at this
    rw [this, List.getElem?_eq_getElem h]; rfl
  · rw [List.getElem?_eq_none (by rw [flat_len bcells_len]; omega), List.getElem?_eq_none (by omega)]; rfl
theorem AB.lt {w : World} {g T : Nat} {l : List UInt8} (h : AB w g T l) : g < w.heap.size := (Array.getElem?_eq_some_iff.1 h).1
theorem AB.cell {w : World} {g T : Nat} {l : List UInt8} (h : AB w g T l) {j : Nat} {y : UInt8} (hy : l[j]? = some y) : w.cell? ⟨g, j, none⟩ = some (.int .u8 (bz y)) := by
  rw [Lib.cell_of_heap h, List.getElem?_toArray, bflat_get, hy]; rfl
theorem AB.frozen {w : World} {g T : Nat} {l : List UInt8} (h : AB w g T l) (j : Nat) : w.frozen? ⟨g, j, none⟩ = false := Lib.frozen_of_heap h j
theorem AB.below {w w' : World} {g T : Nat} {l : List UInt8} (h : AB w g T l) (hb : Below w.heap.size w w') : AB w' g T l := (hb.block g h.lt).trans h
theorem AB.set {w : World} {g T : Nat} {l : List UInt8} (h : AB w g T l) (j : Nat) (y : UInt8) : AB (w.setCell ⟨g, j, none⟩ (.int .u8 (bz y))) g T (l.set j y) := by
  have h2 := Lib.heap_setCell_same (i := j) h (.int .u8 (bz y))
  unfold AB
  rw [h2, List.setIfInBounds_toArray]
  congr 3
  apply List.ext_getElem?
  intro k
  rw [bflat_get, List.getElem?_set, List.getElem?_set, bflat_get, flat_len bcells_len, Nat.mul_one]
  by_cases e : j = k
  · subst e
    by_cases q : j < l.length
    · simp [q]
    · simp [q]
  · simp [e]
theorem AB.rg {w : World} {g T : Nat} {l : List UInt8} (h : AB w g T l) : Rg bcells w (some ⟨g, 0, none⟩) l := rg_block h (by simp)
/-- What stands behind so many of a number's bytes that were laid from the end. -/
def layN (l : List UInt8) (off m n i : Nat) (r : List UInt8) : Prop := r.length = l.length ∧ ∀ j, r[j]? = if off + m - i ≤ j ∧ j < off + m then (beN m n)[j - off]? else l[j]?
theorem layN.zero (l : List UInt8) (off m n : Nat) : layN l off m n 0 l := ⟨rfl, fun j => by rw [if_neg (by omega)]⟩
theorem layN.step {l r : List UInt8} {off m n i : Nat} (h : layN l off m n i r) (hm : off + m ≤ l.length) (hi : i < m) : layN l off m n (i + 1) (r.set (off + m - 1 - i) (UInt8.ofNat (n / 256 ^ i))) := by
  obtain ⟨h1, h2⟩ := h
  refine ⟨by rw [List.length_set, h1], fun j => ?_⟩
  rw [List.getElem?_set]
  by_cases e : off + m - 1 - i = j
  · subst e
    rw [if_pos rfl, if_pos (by rw [h1]; omega), if_pos (by omega), be_get (by omega), show m - 1 - (off + m - 1 - i - off) = i by omega]
  · rw [if_neg e, h2]
    by_cases q : off + m - i ≤ j ∧ j < off + m
    · rw [if_pos q, if_pos (by omega)]
    · rw [if_neg q, if_neg (by omega)]
theorem layN.done {l r : List UInt8} {off m n : Nat} (h : layN l off m n m r) (hm : off + m ≤ l.length) : r = l.take off ++ (beN m n ++ l.drop (off + m)) := by
  obtain ⟨h1, h2⟩ := h
  apply List.ext_getElem?
  intro j
  rw [h2]
  have e0 : (l.take off).length = off := by rw [List.length_take]; omega
  by_cases q1 : j < off
  · rw [if_neg (by omega), List.getElem?_append_left (by omega), List.getElem?_take, if_pos q1]
  · rw [List.getElem?_append_right (by omega), e0]
    by_cases q2 : j < off + m
    · rw [if_pos (by omega), List.getElem?_append_left (by rw [beN_len]; omega)]
    · rw [if_neg (by omega), List.getElem?_append_right (by rw [beN_len]; omega), beN_len, List.getElem?_drop]
      congr 1; omega
theorem shr_byte (x : UInt64) (i : Nat) : IntKind.u8.wrap (uz x / 2 ^ (8 * i)) = bz (UInt8.ofNat (x.toNat / 256 ^ i)) := by
  unfold uz
  rw [show ((x.toNat : Nat) : Int) / 2 ^ (8 * i) = ((x.toNat / 256 ^ i : Nat) : Int) by
    rw [show (256 : Nat) ^ i = 2 ^ (8 * i) by rw [Nat.pow_mul], Int.natCast_ediv, Int.natCast_pow]; rfl]
  exact bz_wrap _

set_option maxHeartbeats 4000000 in
theorem lay14 (g off m c T : Nat) (l : List UInt8) (x : UInt64) (w : World) (h : AB w g T l) (hm : off + m ≤ l.length) (m8 : m ≤ 8) :
    Calls Try.prog 26 #[.slice (some ⟨g, off, none⟩) m c, .int .u64 (uz x)] w fun e w' => e = .returned (.tuple #[]) ∧ AB w' g T (l.take off ++ (beN m x.toNat ++ l.drop (off + m))) ∧ Below g w w' ∧ w'.heap.size = w.heap.size := by
  have HX := Lib.hid h; have HM := Lib.hid hm
  clear h hm
  go_enter Try.func26, Try.ntmps26
  go_wp2_with fail
  go_loopg [7] m (fun gh s7 wr => ∃ (i : Nat) (r : List UInt8), i ≤ m ∧ Hid (gh = m - i) ∧ s7 = .int .i64 (i : Int) ∧ Hid (AB wr g T r) ∧ Hid (layN l off m x.toNat i r) ∧ Hid (Below g w wr) ∧ Hid (wr.heap.size = w.heap.size))
  case atStart => exact ⟨0, l, by omega, by show _ = _; omega, rfl, HX, layN.zero _ _ _ _, Below.refl _ _, rfl⟩
  case round =>
    obtain ⟨i, r, hi, HG, rfl, HA, HL, BK, SZ⟩ := hrel
    by_cases im : i < m
    · have im' : (i : Int) < (m : Int) := by omega
      have i0 : (0 : Int) ≤ (i : Int) := by omega
      obtain ⟨t, ht⟩ : ∃ t : Nat, t = 8 * i := ⟨_, rfl⟩
      obtain ⟨p, hp⟩ : ∃ p : Nat, p = m - 1 - i := ⟨_, rfl⟩
      have e1 : (8 : Int) * (i : Int) = (t : Int) := by omega
      have e2 : (m : Int) - 1 - (i : Int) = (p : Int) := by omega
      have e3 : IntKind.u8.wrap (uz x / 2 ^ t) = bz (UInt8.ofNat (x.toNat / 256 ^ i)) := by rw [ht]; exact shr_byte x i
      obtain ⟨y, hy⟩ : ∃ y, y = UInt8.ofNat (x.toNat / 256 ^ i) := ⟨_, rfl⟩
      rw [← hy] at e3
      have t8 : t ≤ 56 := by omega
      have pm : p < m := by omega
      have pm' : (p : Int) < (m : Int) := by omega
      have S2 : Hid (layN l off m x.toNat (i + 1) (r.set (off + p) y)) := by
        show layN _ _ _ _ _ _
        rw [hy, show off + p = off + m - 1 - i by omega]
        exact HL.out.step HM.out im
      obtain ⟨v, gv⟩ : ∃ v, r[off + p]? = some v := ⟨_, List.getElem?_eq_getElem (by rw [HL.out.1]; have := HM.out; omega)⟩
      have c1 := HA.out.cell gv
      have f1 := HA.out.frozen (off + p)
      have A2 := Lib.hid (HA.out.set (off + p) y)
      have B2 : Hid (Below g w (wr.setCell ⟨g, off + p, none⟩ (.int .u8 (bz y)))) := BK.out.setCell (Nat.le_refl _) _
      have SZ2 : Hid ((wr.setCell ⟨g, off + p, none⟩ (.int .u8 (bz y))).heap.size = w.heap.size) := by show _ = _; rw [World.size_setCell]; exact SZ.out
      have x0 := uz_lo x; have x1 := uz_hi x
      clear ht hp hy gv HA HL BK SZ
      go_wp2_with fail
      go_roundg (m - (i + 1))
      case measure => have := HG.out; omega
      case rel => exact ⟨i + 1, r.set (off + p) y, by omega, rfl, by go_num, A2, S2, B2, SZ2⟩
    · obtain rfl : i = m := by omega
      go_wp2_with fail
      go_end0
      exact ⟨rfl, by have := HL.out.done HM.out; rw [← this]; exact HA.out, BK.out, SZ.out⟩

end Go.Proofs.Ytlllinpaclodaaa
