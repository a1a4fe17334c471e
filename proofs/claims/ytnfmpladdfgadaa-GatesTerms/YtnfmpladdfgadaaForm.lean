/-
  Layers in memory; what Form answers of a network.
-/
import Derived.Test.YtnfmpladdfgadaaFormed
namespace Go.Proofs.Ytnfmpladdfgadaa
open Go.RowKit

def Ly.z : Ly := ⟨0, 0, 0, 0⟩
/-- A layer in memory. -/
def LyAt (w : World) (b o : Nat) (l : Ly) : Prop :=
  w.cell? ⟨b, o, none⟩ = some (.int .i64 l.k) ∧ w.cell? ⟨b, o + 1, none⟩ = some (.int .i64 l.o) ∧ w.cell? ⟨b, o + 2, none⟩ = some (.int .i64 l.s) ∧ w.cell? ⟨b, o + 3, none⟩ = some (.int .i64 l.t)
theorem LyAt.below {w w' : World} {b o : Nat} {l : Ly} {B : Nat} (h : LyAt w b o l) (hb : Below B w w') (hB : b < B) : LyAt w' b o l :=
  ⟨(hb.cell (p := ⟨b, o, none⟩) hB).trans h.1, (hb.cell (p := ⟨b, o + 1, none⟩) hB).trans h.2.1, (hb.cell (p := ⟨b, o + 2, none⟩) hB).trans h.2.2.1, (hb.cell (p := ⟨b, o + 3, none⟩) hB).trans h.2.2.2⟩
/-- A slice's address, behind which the layers lie. -/
def Rl (w : World) (A : Option Addr) (ls : List Ly) : Prop :=
  0 < ls.length → ∃ b off, A = some ⟨b, off, none⟩ ∧ b < w.heap.size ∧ ∀ j, j < ls.length → LyAt w b (off + j * 4) (ls.getD j Ly.z)
theorem Rl.nil (w : World) (A : Option Addr) : Rl w A [] := fun h => absurd h (by simp)
theorem Rl.below {w w' : World} {A : Option Addr} {ls : List Ly} (h : Rl w A ls) (hb : Below w.heap.size w w') : Rl w' A ls := fun h0 => by
  obtain ⟨b, off, e, hlt, hc⟩ := h h0
  exact ⟨b, off, e, Nat.lt_of_lt_of_le hlt hb.size, fun j hj => (hc j hj).below hb hlt⟩
theorem get_ly {ls : List Ly} {k : Nat} (h : k < ls.length) : ls[k]? = some (ls.getD k Ly.z) := by
  rw [List.getElem?_eq_getElem h]; simp [List.getD_eq_getElem?_getD, h]
/-- A network's own cells. -/
def NB (w : World) (b : Nat) (c h x : Int) (v : Value) : Prop := w.heap[b]? = some (.cells #[.int .i64 c, .int .i64 h, .int .i64 x, v] 26 (0, 0))
theorem NB.lt {w : World} {b : Nat} {c h x : Int} {v : Value} (H : NB w b c h x v) : b < w.heap.size := (Array.getElem?_eq_some_iff.1 H).1
theorem NB.below {w w' : World} {b : Nat} {c h x : Int} {v : Value} (H : NB w b c h x v) (hb : Below w.heap.size w w') : NB w' b c h x v := (hb.block b H.lt).trans H
theorem NB.new (w : World) (c h x : Int) (v : Value) : NB (w.alloc (.cells #[.int .i64 c, .int .i64 h, .int .i64 x, v] 26)) w.heap.size c h x v := by
  show (w.heap.push _)[w.heap.size]? = _
  simp
theorem NB.alloc {w : World} {b : Nat} {c h x : Int} {v : Value} (H : NB w b c h x v) (o : Obj) : NB (w.alloc o) b c h x v := (Lib.alloc_old w o b H.lt).trans H
theorem NB.drew {w : World} {b : Nat} {c h x : Int} {v : Value} (H : NB w b c h x v) : NB w.drew b c h x v := H
theorem NB.cells {w : World} {b : Nat} {c h x : Int} {v : Value} (H : NB w b c h x v) :
    w.cell? ⟨b, 0, none⟩ = some (.int .i64 c) ∧ w.cell? ⟨b, 1, none⟩ = some (.int .i64 h) ∧ w.cell? ⟨b, 2, none⟩ = some (.int .i64 x) ∧ w.cell? ⟨b, 3, none⟩ = some v :=
  ⟨by rw [Lib.cell_of_heap H]; rfl, by rw [Lib.cell_of_heap H]; rfl, by rw [Lib.cell_of_heap H]; rfl, by rw [Lib.cell_of_heap H]; rfl⟩
theorem ib_box3 (w : World) (o : Obj) (T : Nat) (c h x : Int) : IB ((w.alloc o).alloc (.cells #[.int .i64 c, .int .i64 h, .int .i64 x] T)) (w.heap.size + 1) T [c, h, x] := by
  have := ib_box (w.alloc o) T [c, h, x]
  rwa [show (w.alloc o).heap.size = w.heap.size + 1 by simp] at this
theorem form_no1 {c h x : Int} {ls : List Ly} (H : [c, h, x].all winB = false) : formB ⟨c, h, x, ls⟩ = false := by
  unfold formB; rw [show [(⟨c, h, x, ls⟩ : Nt).c, (⟨c, h, x, ls⟩ : Nt).h, (⟨c, h, x, ls⟩ : Nt).x].all winB = false from H]; rfl
theorem form_no2 {c h x : Int} {ls : List Ly} (H : 8 < ls.length) : formB ⟨c, h, x, ls⟩ = false := by
  unfold formB
  have : decide (ls.length ≤ 8) = false := by simp; omega
  rw [show decide ((⟨c, h, x, ls⟩ : Nt).ls.length ≤ 8) = false from this, Bool.and_false]; rfl
theorem form_no3 {c h x : Int} {ls : List Ly} (H : ls.all lyB = false) : formB ⟨c, h, x, ls⟩ = false := by
  unfold formB; rw [show (⟨c, h, x, ls⟩ : Nt).ls.all lyB = false from H, Bool.and_false]
set_option maxHeartbeats 2000000 in
theorem form_any (c h x : Int) (A : Option Addr) (cA n : Nat) (ls : List Ly) (w : World) (hx : Rl w A ls) (ln : n = ls.length) (hn : n ≤ 1000) :
    Calls Try.prog 83 #[.agg #[.int .i64 c, .int .i64 h, .int .i64 x, .slice A n cA]] w fun e w' => e = .returned (.bool (formB ⟨c, h, x, ls⟩)) ∧ Below w.heap.size w w' := by
  have HX := Lib.hid hx; have LX := Lib.hid ln; clear hx ln
  go_enter Try.func83, Try.ntmps83
  go_wp2_with fail
  refine (numbers_within 100 (w.heap.size + 1) 129 [c, h, x] [0, 1, 2] _ (ib_box3 w _ 129 c h x) (by simp) (by decide) enter100 (pic_nums _ _)).mono ?_
  rintro e w1 ⟨rfl, hb⟩
  rw [show valsAt [c, h, x] [0, 1, 2] = [c, h, x] from rfl]
  have HB := Lib.hid ((((Below.refl w.heap.size w).alloc (Nat.le_refl _) _).alloc (by simp) _).trans (hb.mono (by simp; omega)))
  have hNB := ((NB.new w c h x (.slice A n cA)).alloc _).below hb
  obtain ⟨c0, c1, c2, c3⟩ := hNB.cells
  clear hb hNB
  cases hw : [c, h, x].all winB
  · have HW := Lib.hid (form_no1 (ls := ls) hw)
    clear hw
    go_wp2_with fail
    go_ret
    exact ⟨ret_bool HW.out.symm, HB.out⟩
  · have HV := Lib.hid hw
    clear hw
    by_cases h8 : 8 < n
    · have HW := Lib.hid (form_no2 (c := c) (h := h) (x := x) (ls := ls) (by rw [← LX.out]; exact h8))
      have d8 : decide (8 < n) = true := by simpa using h8
      have e8 : decide ((8 : Int) < (n : Int)) = true := by simp; omega
      go_wp2_with fail
      go_ret
      exact ⟨ret_bool HW.out.symm, HB.out⟩
    · have d8 : decide (8 < n) = false := by simpa using h8
      have e8 : decide ((8 : Int) < (n : Int)) = false := by simp; omega
      go_wp2_with fail
      clear c0 c1 c2 c3
      go_loopw [20] (fun i wr => ∃ k : Nat, k ≤ n ∧ i = .int .i64 k ∧ Hid ((ls.take k).all lyB = true) ∧ Hid (Below w.heap.size w wr)) (fun i _ => n - (intOf i).toNat)
      case atStart => exact ⟨0, Nat.zero_le _, rfl, rfl, HB.out⟩
      case round =>
        obtain ⟨k, hk, rfl, HA, HC⟩ := hrel
        by_cases hlt : k < n
        · have hkl : k < ls.length := by rw [← LX.out]; exact hlt
          obtain ⟨b1, o1, rfl, l1, q⟩ := HX.out (by omega)
          obtain ⟨l, hle⟩ : ∃ l, l = ls.getD k Ly.z := ⟨_, rfl⟩
          have hq := (q k hkl).below HC.out l1
          rw [← hle] at hq
          have HL : Hid (ls[k]? = some l) := by show _ = _; rw [hle]; exact get_ly hkl
          obtain ⟨p0, p1, p2, p3⟩ := hq
          clear q hle
          go_wp2_with fail
          refine (formed_any l _).mono ?_
          rintro e w2 ⟨rfl, hb2⟩
          have HB2 := Lib.hid ((HC.out.alloc HC.out.size _).trans (hb2.mono (by simp; have := HC.out.size; omega)))
          clear hb2 p0 p1 p2 p3
          cases hl : lyB l
          · have HW := Lib.hid (form_no3 (c := c) (h := h) (x := x) (all_no HL.out hl))
            clear hl
            go_wp2_with fail
            go_ret
            exact ⟨ret_bool HW.out.symm, HB2.out⟩
          · have HT : Hid ((ls.take (k + 1)).all lyB = true) := by
              show _ = true
              rw [take_get HL.out, List.all_append, HA.out]; simp [hl]
            clear hl
            go_wp2_with fail
            go_roundw
            case rel => exact ⟨k + 1, by omega, by go_num, HT, HB2⟩
            case measure => simp [intOf]; omega
        · obtain rfl : k = n := by omega
          have hall := HA.out
          rw [LX.out, List.take_length] at hall
          have HW := Lib.hid (form_mk (n := ⟨c, h, x, ls⟩) HV.out (by show ls.length ≤ 8; rw [← LX.out]; omega) hall)
          clear hall
          go_wp2_with fail
          go_ret
          exact ⟨ret_bool HW.out.symm, HC.out⟩

end Go.Proofs.Ytnfmpladdfgadaa
