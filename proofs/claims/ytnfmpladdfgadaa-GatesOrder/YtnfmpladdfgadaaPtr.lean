/-
  Pointers to a struct's numbers: what the two methods numbers answer, and what within answers of them.
-/
import Derived.Test.YtnfmpladdfgadaaNet
import Derived.Test.YtnfmpladdfgadaaSides
import Derived.StillTailTactics
import Derived.BigQuiet
import Derived.LoopN
namespace Go.Proofs.Ytnfmpladdfgadaa
open Go.RowKit

/-- Whole numbers, as a block's cells. -/
def ic (l : List Int) : Array Value := (l.map fun n => Value.int .i64 n).toArray
def IB (w : World) (b T : Nat) (l : List Int) : Prop := w.heap[b]? = some (.cells (ic l) T (0, 0))
theorem IB.cell {w : World} {b T : Nat} {l : List Int} (h : IB w b T l) {j : Nat} (hj : j < l.length) : w.cell? ⟨b, j, none⟩ = some (.int .i64 (l.getD j 0)) := by
  rw [Lib.cell_of_heap h]
  simp [ic, List.getD_eq_getElem?_getD, hj]
theorem IB.lt {w : World} {b T : Nat} {l : List Int} (h : IB w b T l) : b < w.heap.size := (Array.getElem?_eq_some_iff.1 h).1
theorem IB.below {w w' : World} {b T : Nat} {l : List Int} (h : IB w b T l) (hb : Below w.heap.size w w') : IB w' b T l := (hb.block b h.lt).trans h
/-- A row of pointers into block b. -/
def pc (b : Nat) (os : List Nat) : Array Value := (os.map fun o => Value.pointer (some ⟨b, o, none⟩)).toArray
def Rp (B : Nat) (w : World) (A : Option Addr) (b : Nat) (os : List Nat) : Prop :=
  0 < os.length → ∃ g, A = some ⟨g, 0, none⟩ ∧ B ≤ g ∧ w.heap[g]? = some (.cells (pc b os) 139 (0, 0))
theorem pc_cell {w : World} {g b : Nat} {os : List Nat} (h : w.heap[g]? = some (.cells (pc b os) 139 (0, 0))) {j : Nat} (hj : j < os.length) : w.cell? ⟨g, j, none⟩ = some (.pointer (some ⟨b, os.getD j 0, none⟩)) := by
  rw [Lib.cell_of_heap h]
  simp [pc, List.getD_eq_getElem?_getD, hj]
theorem Rp.below {B : Nat} {w w' : World} {A : Option Addr} {b : Nat} {os : List Nat} (h : Rp B w A b os) (hb : Below w.heap.size w w') : Rp B w' A b os := fun h0 => by
  obtain ⟨g, e, hB, hh⟩ := h h0
  exact ⟨g, e, hB, (hb.block g (Array.getElem?_eq_some_iff.1 hh).1).trans hh⟩
def NumsPost (b : Nat) (os : List Nat) (w : World) (e : Ending) (w' : World) : Prop :=
  ∃ (A : Option Addr) (k n : Nat), e = .returned (.slice A n k) ∧ n = os.length ∧ Rp w.heap.size w' A b os ∧ Below w.heap.size w w'
theorem below_drew (w : World) : Below w.heap.size w w.drew := (Below.refl _ w).drew
theorem rp_new {w : World} {b : Nat} {os : List Nat} : Rp w.heap.size (w.alloc (.cells (pc b os) 139)) (some ⟨w.heap.size, 0, none⟩) b os :=
  fun _ => ⟨w.heap.size, rfl, Nat.le_refl _, by show (w.heap.push _)[w.heap.size]? = _; simp⟩
set_option maxHeartbeats 1000000 in
set_option maxRecDepth 100000 in
theorem pic_numbers (b : Nat) (w : World) :
    Calls Try.prog 100 #[.pointer (some ⟨b, 0, none⟩)] w (NumsPost b [0, 1, 2] w) := by
  go_enter Try.func100, Try.ntmps100
  go_wp2
  go_still_tail 9, (by kernel_rfl)
  change wpList _ _ _ _ _ w.drew
  go_wp2
  go_ret
  exact ⟨some ⟨w.heap.size, 0, none⟩, 3, 3, rfl, rfl, rp_new (w := w.drew), (below_drew w).alloc (by simp) _⟩
set_option maxHeartbeats 1000000 in
set_option maxRecDepth 100000 in
theorem lay_conv (b : Nat) (w : World) (hc : w.cell? ⟨b, 0, none⟩ = some (.int .i64 1)) :
    Calls Try.prog 111 #[.pointer (some ⟨b, 0, none⟩)] w (NumsPost b [1, 2, 3] w) := by
  go_enter Try.func111, Try.ntmps111
  go_wp2
  go_still_tail 9, (by kernel_rfl)
  change wpList _ _ _ _ _ w.drew
  go_wp2
  go_ret
  exact ⟨some ⟨w.heap.size, 0, none⟩, 3, 3, rfl, rfl, rp_new (w := w.drew), (below_drew w).alloc (by simp) _⟩
set_option maxHeartbeats 1000000 in
theorem lay_pool (b : Nat) (w : World) (hc : w.cell? ⟨b, 0, none⟩ = some (.int .i64 3)) :
    Calls Try.prog 111 #[.pointer (some ⟨b, 0, none⟩)] w (NumsPost b [2] w) := by
  go_enter Try.func111, Try.ntmps111
  go_wp2
  go_ret
  exact ⟨some ⟨w.heap.size, 0, none⟩, 1, 1, rfl, rfl, rp_new (w := w), (Below.refl _ w).alloc (Nat.le_refl _) _⟩
set_option maxHeartbeats 1000000 in
theorem lay_dense (b : Nat) (w : World) (hc : w.cell? ⟨b, 0, none⟩ = some (.int .i64 4)) :
    Calls Try.prog 111 #[.pointer (some ⟨b, 0, none⟩)] w (NumsPost b [1] w) := by
  go_enter Try.func111, Try.ntmps111
  go_wp2
  go_ret
  exact ⟨some ⟨w.heap.size, 0, none⟩, 1, 1, rfl, rfl, rp_new (w := w), (Below.refl _ w).alloc (Nat.le_refl _) _⟩
set_option maxHeartbeats 1000000 in
theorem lay_none (k : Int) (b : Nat) (w : World) (hc : w.cell? ⟨b, 0, none⟩ = some (.int .i64 k)) (h1 : (k == 1) = false) (h3 : (k == 3) = false) (h4 : (k == 4) = false) :
    Calls Try.prog 111 #[.pointer (some ⟨b, 0, none⟩)] w (NumsPost b [] w) := by
  go_enter Try.func111, Try.ntmps111
  go_wp2
  go_ret
  exact ⟨none, 0, 0, rfl, rfl, fun h => absurd h (by simp), Below.refl _ _⟩
theorem ne_beq {a b : Int} (h : ¬ a = b) : (a == b) = false := by simpa using h
theorem lay_numbers (k : Int) (b : Nat) (w : World) (hc : w.cell? ⟨b, 0, none⟩ = some (.int .i64 k)) :
    Calls Try.prog 111 #[.pointer (some ⟨b, 0, none⟩)] w (NumsPost b (offs k) w) := by
  unfold offs
  by_cases h1 : k = 1
  · subst h1; rw [if_pos rfl]; exact lay_conv b w hc
  · rw [if_neg h1]
    by_cases h3 : k = 3
    · subst h3; rw [if_pos rfl]; exact lay_pool b w hc
    · rw [if_neg h3]
      by_cases h4 : k = 4
      · subst h4; rw [if_pos rfl]; exact lay_dense b w hc
      · rw [if_neg h4]; exact lay_none k b w hc (ne_beq h1) (ne_beq h3) (ne_beq h4)
/-- The numbers that pointers point to. -/
def valsAt (l : List Int) (os : List Nat) : List Int := os.map fun o => l.getD o 0
theorem win_lo {n : Int} (h : n < 0) : winB n = false := by unfold winB; have : decide (0 ≤ n) = false := by simp; omega
                                                            rw [this]; rfl
theorem win_hi {n : Int} (h : 999999 < n) : winB n = false := by unfold winB; have : decide (n ≤ 999999) = false := by simp; omega
                                                                 rw [this]; simp
theorem vals_len (l : List Int) (os : List Nat) : (valsAt l os).length = os.length := by simp [valsAt]
theorem vals_get {l : List Int} {os : List Nat} {k : Nat} (h : k < os.length) : (valsAt l os)[k]? = some (l.getD (os.getD k 0) 0) := by
  simp [valsAt, List.getD_eq_getElem?_getD, h]
theorem take_get {α : Type} {xs : List α} {k : Nat} {x : α} (h : xs[k]? = some x) : xs.take (k + 1) = xs.take k ++ [x] := by
  obtain ⟨hk, e⟩ := List.getElem?_eq_some_iff.1 h
  rw [List.take_succ_eq_append_getElem hk, e]
theorem all_no {α : Type} {p : α → Bool} {xs : List α} {k : Nat} {x : α} (h : xs[k]? = some x) (hx : p x = false) : xs.all p = false := by
  rw [List.all_eq_false]; exact ⟨x, List.mem_of_getElem? h, by simp [hx]⟩
set_option maxHeartbeats 1000000 in
theorem numbers_within (F b T : Nat) (l : List Int) (os : List Nat) (w : World) (hI : IB w b T l) (ho : ∀ o ∈ os, o < l.length) (hlen : os.length ≤ 1000)
    (hE : ∀ args w, Sem.run Try.prog (callFunc F args) w = .ok (.enter F args) w)
    (hN : ∀ w, IB w b T l → Calls Try.prog F #[.pointer (some ⟨b, 0, none⟩)] w (NumsPost b os w)) :
    Calls Try.prog 99 #[.func (.func F) #[.pointer (some ⟨b, 0, none⟩)] #[]] w fun e w' => e = .returned (.bool ((valsAt l os).all winB)) ∧ Below w.heap.size w w' := by
  have HI := Lib.hid hI; have HO := Lib.hid ho; have HN := Lib.hid hN; clear hI ho hN
  go_enter Try.func99, Try.ntmps99
  go_wp2_with fail
  refine (HN.out w HI.out).mono ?_
  rintro e w1 ⟨A, k0, n, rfl, hn, hR, hb⟩
  have HR := Lib.hid hR; have HB := Lib.hid hb; have HL := Lib.hid hn
  have hn1 : n ≤ 1000 := by omega
  clear hR hb hn
  go_wp2_with fail
  go_loop [8] (fun i => ∃ k : Nat, k ≤ n ∧ i = .int .i64 k ∧ Hid (((valsAt l os).take k).all winB = true)) (fun i => n - (intOf i).toNat)
  case atStart => exact ⟨0, Nat.zero_le _, rfl, rfl⟩
  case round =>
    obtain ⟨k, hk, rfl, HA⟩ := hrel
    by_cases hlt : k < n
    · have hko : k < os.length := by rw [← HL.out]; exact hlt
      obtain ⟨g, rfl, _, hg⟩ := HR.out (by omega)
      have c1 := pc_cell hg hko
      obtain ⟨o, hoe⟩ : ∃ o, o = os.getD k 0 := ⟨_, rfl⟩
      have hom : o < l.length := HO.out o (by rw [hoe]; simp [List.getD_eq_getElem?_getD, hko])
      have c2 := (HI.out.below HB.out).cell hom
      obtain ⟨x, hxe⟩ : ∃ x, x = l.getD o 0 := ⟨_, rfl⟩
      have hv : (valsAt l os)[k]? = some x := by rw [vals_get hko, ← hoe, ← hxe]
      rw [← hoe] at c1
      rw [← hxe] at c2
      have HV := Lib.hid hv
      clear hv hoe hxe hg hom
      by_cases h0 : x < 0
      · have HW := Lib.hid (all_no HV.out (win_lo h0))
        have d0 : decide (x < 0) = true := by simpa using h0
        go_wp2_with fail
        go_ret
        exact ⟨ret_bool HW.out.symm, HB.out⟩
      · have d0 : decide (x < 0) = false := by simpa using h0
        by_cases h1 : 999999 < x
        · have HW := Lib.hid (all_no HV.out (win_hi h1))
          have d1 : decide (999999 < x) = true := by simpa using h1
          go_wp2_with fail
          go_ret
          exact ⟨ret_bool HW.out.symm, HB.out⟩
        · have d1 : decide (999999 < x) = false := by simpa using h1
          have HT : Hid (((valsAt l os).take (k + 1)).all winB = true) := by
            show _ = true
            rw [take_get HV.out, List.all_append, HA.out]; simp [win_mk (n := x) (by omega) (by omega)]
          go_wp2_with fail
          go_round
          case rel => exact ⟨k + 1, by omega, by go_num, HT⟩
          case measure => simp [intOf]; omega
    · obtain rfl : k = n := by omega
      have hall := HA.out
      rw [HL.out, ← vals_len l os, List.take_length] at hall
      have HW := Lib.hid hall
      clear hall
      go_wp2_with fail
      go_ret
      exact ⟨ret_bool HW.out.symm, HB.out⟩

end Go.Proofs.Ytnfmpladdfgadaa
