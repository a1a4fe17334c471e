/-
  The fixed questions of layer 16; sectors in variables.
-/
import Derived.Test.YtjokaaekliapmaaDoorQPub
import Derived.Test.YtjokaaekliapmaaDoorRHeld
namespace Go.Proofs.YtjokaaekliapmaaDoor
open Go.RowKit

/-- A sector laid into a new variable. -/
def setQ (w : World) (s : Sec) (A : Option Addr) (n c : Nat) : World :=
  (((((w.alloc (.cells #[.int .i64 0, .int .i64 0, .int .i64 0, .int .i64 0, .slice none 0 0] 24)).setCell ⟨w.heap.size, 0, none⟩ (.int .i64 s.g)).setCell ⟨w.heap.size, 1, none⟩ (.int .i64 s.p)).setCell ⟨w.heap.size, 2, none⟩ (.int .i64 s.t)).setCell ⟨w.heap.size, 3, none⟩ (.int .i64 s.k)).setCell ⟨w.heap.size, 4, none⟩ (.slice A n c)
theorem setQ_qb (w : World) (s : Sec) (A : Option Addr) (n c : Nat) : QB (setQ w s A n c) w.heap.size s A n c :=
  Lib.heap_setCell_same (i := 4) (Lib.heap_setCell_same (i := 3) (Lib.heap_setCell_same (i := 2) (Lib.heap_setCell_same (i := 1) (Lib.heap_setCell_same (i := 0) (heap_alloc_new w _) (.int .i64 s.g)) (.int .i64 s.p)) (.int .i64 s.t)) (.int .i64 s.k)) (.slice A n c)
theorem setQ_below (w : World) (s : Sec) (A : Option Addr) (n c : Nat) : Below w.heap.size w (setQ w s A n c) :=
  (((((chain_alloc (Below.refl _ w) _).setCell (p := ⟨w.heap.size, 0, none⟩) (Nat.le_refl _) _).setCell (p := ⟨w.heap.size, 1, none⟩) (Nat.le_refl _) _).setCell (p := ⟨w.heap.size, 2, none⟩) (Nat.le_refl _) _).setCell (p := ⟨w.heap.size, 3, none⟩) (Nat.le_refl _) _).setCell (p := ⟨w.heap.size, 4, none⟩) (Nat.le_refl _) _
theorem conv_lit (w : World) (C : Array Value) (n c : Nat) : (convert 22 22 (.slice (some ⟨w.heap.size, 0, none⟩) n c)).run Tryd.prog (w.alloc (.cells C 5)) = .ok (.slice (some ⟨w.heap.size, 0, none⟩) n c) (w.alloc (.cells C 5 (C.size, C.size + 1))) := by
  have hsh : (w.alloc (.cells C 5)).shape? w.heap.size = some (5, C.size) := by
    have : (w.alloc (.cells C 5)).heap[w.heap.size]? = some (.cells C 5) := by
      show (w.heap.push (.cells C 5))[w.heap.size]? = _
      simp
    unfold World.shape?
    rw [this]
  have hfr : ∀ (n : Nat), (w.alloc (.cells C 5)).freeze ⟨w.heap.size, n, none⟩ 1 = w.alloc (.cells C 5 (n, n + 1)) := fun n => by
    have hm : ∀ (a : Array Obj) (x : Obj) (f : Obj → Obj), (a.push x).modify a.size f = a.push (f x) := by
      intro a x f
      apply Array.ext
      · simp
      · intro i h1 h2
        simp only [Array.getElem_modify, Array.getElem_push]
        by_cases h : a.size = i
        · subst h
          simp
        · have hi : i < a.size := by simp at h1; omega
          simp [h, hi]
    unfold World.freeze
    rw [if_neg (by decide)]
    show ({ w.alloc (.cells C 5) with heap := (w.heap.push (.cells C 5)).modify w.heap.size _ } : World) = _
    rw [hm]
    rfl
  simp [convert, run_underlying Tryd.underlying22, run_underlying Tryd.underlying5, markStringish, hsh]
  exact hfr _
theorem h16a : rightQ ⟨258, 3, 2, 259, [97, 98]⟩ = true := by kernel_rfl
def l16 : List UInt8 := putQ ⟨258, 3, 2, 259, [97, 98]⟩
theorem h16b : l16.length = 64 := by kernel_rfl
theorem h16c : okQ l16 = true ∧ getQ l16 = ⟨258, 3, 2, 259, [97, 98]⟩ := ⟨(getq_put h16a).1, (getq_yes (getq_put h16a).1).trans (getq_put h16a).2⟩
theorem h16d : okQ (List.replicate 64 0) = false := by kernel_rfl
theorem h16e : okQ (l16.set 63 1) = false := by kernel_rfl
theorem h16f : l16.take 16 = [0, 0, 0, 0, 0, 0, 1, 2, 0, 3, 2, 1, 3, 2, 97, 98] := by kernel_rfl
theorem h16g : rightQ Sec.z = false := by kernel_rfl
theorem h16h : putQ ⟨1, 0, 1, 0, []⟩ = [] := by kernel_rfl

theorem b_made (w : World) (n : Nat) : Rg bcells (w.alloc (.cells (madeCells #[.int .u8 0] n) 5)) (some ⟨w.heap.size, 0, none⟩) (List.replicate n 0) :=
  rg_block (heap_alloc_new w _) (by
    apply List.ext_getElem
    · rw [flat_len bcells_len, List.length_replicate, Array.length_toList, size_madeCells, Nat.mul_one]
    · intro i h1 h2
      have hi : i < n := by rw [Array.length_toList, size_madeCells] at h1; exact h1
      have := flat_get bcells_len (List.replicate n (0 : UInt8)) i 0 0 (by simp [hi]) (by decide)
      rw [Nat.mul_one, Nat.add_zero, List.getElem?_eq_getElem h2] at this
      rw [Option.some.inj this]
      simp [madeCells, Nat.mod_one, bz])
theorem b_to16 (A : Option Addr) (n cap k : Nat) (h1 : k ≤ n) (h2 : n ≤ cap) (w : World) : (Instr.slice 22 (.slice A n cap) none (some (.int .i64 (k : Int))) none).run Tryd.prog w = .ok (.slice A k cap) w := by
  have : k ≤ cap := by omega
  first | (go_simp; done) | (go_simp; intro hh; omega) | (rcases A with _ | A <;> go_simp <;> (try intro hh) <;> omega)
theorem bg_take16 {w : World} {A : Option Addr} {xs : List UInt8} (h : Rg bcells w A xs) (k : Nat) : Rg bcells w A (xs.take k) := fun h0 => by
  obtain ⟨b, o, rfl, lt, hc⟩ := h (by rw [List.length_take] at h0; omega)
  refine ⟨b, o, rfl, lt, fun j u hu => hc j u ?_⟩
  have hj := (List.getElem?_eq_some_iff.1 hu).1
  rw [flat_len bcells_len, Nat.mul_one] at hj
  have g := flat_get bcells_len _ j 0 _ (List.getElem?_eq_getElem hj) (by omega)
  rw [Nat.mul_one, Nat.add_zero, hu] at g
  have hl : j < xs.length := by rw [List.length_take] at hj; omega
  have g2 := flat_get bcells_len xs j 0 _ (List.getElem?_eq_getElem hl) (by omega)
  rw [Nat.mul_one, Nat.add_zero] at g2
  rw [g2, g]
  simp
/-- A byte of one's own is written. -/
theorem own_byte {w : World} {B g n c j : Nat} {xs : List UInt8} {y : UInt8} (h : w.ownsRow B 5 1 (.slice (some ⟨g, 0, none⟩) n c) n (xs.flatMap bcells)) (hj : j < n) :
    (w.setCell ⟨g, j, none⟩ (.int .u8 (bz y))).ownsRow B 5 1 (.slice (some ⟨g, 0, none⟩) n c) n ((xs.set j y).flatMap bcells) := by
  rcases h.2 with ⟨hv, _⟩ | ⟨g', cap, cur, hv, hg, hh, h1, h2, h3, h4⟩
  · cases hv
  · injection hv with e1 e2 e3
    obtain rfl : g = g' := by
      have := Option.some.inj e1
      injection this
    subst e3
    have hlen := h.1
    refine ⟨by rw [flat_len bcells_len, List.length_set]; rw [flat_len bcells_len] at hlen; exact hlen, .inr ⟨g, c, _, rfl, hg, Lib.heap_setCell_same (i := j) hh _, h1, h2, by simpa using h3, ?_⟩⟩
    rw [Array.toList_setIfInBounds, Nat.mul_one] at *
    rw [List.take_set, h4]
    rw [flat_len bcells_len, Nat.mul_one] at hlen
    apply List.ext_getElem?
    intro i
    by_cases e : i = j
    · subst e
      rw [List.getElem?_set_self (by rw [flat_len bcells_len]; omega)]
      have := flat_get bcells_len (xs.set i y) i 0 y (by rw [List.getElem?_set_self (by omega)]) (by decide)
      rw [Nat.mul_one, Nat.add_zero] at this
      rw [this]; rfl
    · rw [List.getElem?_set_ne (Ne.symm e)]
      by_cases hi : i < xs.length
      · have a1 := flat_get bcells_len xs i 0 _ (List.getElem?_eq_getElem hi) (by decide)
        have a2 := flat_get bcells_len (xs.set j y) i 0 xs[i] (by rw [List.getElem?_set_ne (Ne.symm e)]; exact List.getElem?_eq_getElem hi) (by decide)
        rw [Nat.mul_one, Nat.add_zero] at a1 a2
        rw [a1, a2]
      · rw [List.getElem?_eq_none (by rw [flat_len bcells_len]; omega), List.getElem?_eq_none (by rw [flat_len bcells_len, List.length_set]; omega)]

set_option maxHeartbeats 8000000 in
set_option maxRecDepth 100000 in
theorem head16_any (w : World) (hT : Wd w := by first | assumption | exact Hid.out (by assumption) | exact Wd.below (Hid.out (by assumption)) (Hid.out (by assumption)) | exact Wd.below (by assumption) (Hid.out (by assumption))) : Calls Tryd.prog 9 #[] w fun e w' => e = .returned (.bool true) ∧ Below w.heap.size w w' := by
  have HT := Lib.hid hT
  clear hT
  obtain ⟨i0, hi, hz0, hz1, hz2⟩ := info_parts Tryd.infoB
  have hmk : ∀ w : World, (Instr.makeSlice 22 (.int .i64 64) (.int .i64 64)).run Tryd.prog w = .ok (.slice (some ⟨w.heap.size, 0, none⟩) 64 64) (w.alloc (.cells (madeCells #[.int .u8 0] 64) 5)) := fun w => by
    have := run_make (P := Tryd.prog) w 22 5 i0 _ Tryd.underlying22 hi hz0 .i64 .i64 64 64 (by omega) (Int.le_refl _) (by rw [hz2]; omega) (by omega)
    rw [hz1, Nat.mul_one] at this
    exact this
  have cv : (convert 22 22 (.slice (some ⟨w.heap.size, 0, none⟩) 2 2)).run Tryd.prog (w.alloc (.cells #[.int .u8 97, .int .u8 98] 5)) = .ok (.slice (some ⟨w.heap.size, 0, none⟩) 2 2) (w.alloc (.cells #[.int .u8 97, .int .u8 98] 5 (2, 3))) := conv_lit w _ 2 2
  go_enter Tryd.func9, Tryd.ntmps9
  go_wp2_with fail
  clear cv hi hz0 hz1 hz2
  obtain ⟨A, hA⟩ : ∃ A : Option Addr, A = some ⟨w.heap.size, 0, none⟩ := ⟨_, rfl⟩
  obtain ⟨z, hz⟩ : ∃ z, z = w.heap.size + 1 := ⟨_, rfl⟩
  have ha := rg_block (f := bcells) (xs := [97, 98]) (heap_alloc_new w (.cells #[.int .u8 97, .int .u8 98] 5 (2, 3))) rfl
  have hq := QB.new (w.alloc (.cells #[.int .u8 97, .int .u8 98] 5 (2, 3))) ⟨258, 3, 2, 259, [97, 98]⟩ (some ⟨w.heap.size, 0, none⟩) 2 2
  have ha2 := ha.alloc (.cells #[.int .i64 258, .int .i64 3, .int .i64 2, .int .i64 259, .slice (some ⟨w.heap.size, 0, none⟩) 2 2] 24)
  have hb := chain_alloc (chain_alloc (Below.refl _ w) (.cells #[.int .u8 97, .int .u8 98] 5 (2, 3))) (.cells #[.int .i64 258, .int .i64 3, .int .i64 2, .int .i64 259, .slice (some ⟨w.heap.size, 0, none⟩) 2 2] 24)
  have hs : (w.alloc (.cells #[.int .u8 97, .int .u8 98] 5 (2, 3))).heap.size = w.heap.size + 1 := by simp
  rw [hs] at hq
  dsimp only at hq
  clear ha hs
  rw [← hA] at ha2 hq hb ⊢
  rw [← hz] at hq ⊢
  generalize (w.alloc (.cells #[.int .u8 97, .int .u8 98] 5 (2, 3))).alloc (.cells #[.int .i64 258, .int .i64 3, .int .i64 2, .int .i64 259, .slice A 2 2] 24) = w1 at ha2 hq hb ⊢
  have Ra := Lib.hid ha2
  have Rz := Lib.hid hq
  have Ma : Hid (2 = [(97 : UInt8), 98].length) := rfl
  clear ha2 hq hA hz
  have B1 := Lib.hid hb
  clear hb
  refine (put16 ⟨258, 3, 2, 259, [97, 98]⟩ A 2 2 _ Ma.out Ra.out).mono ?_
  rintro e w2 ⟨v, rfl, ho, hb⟩
  obtain ⟨Ab, kb, rfl, y9, rb, Kb0, y7⟩ := own_cap bcells_len (by decide) ho
  clear y9 y7
  have Rb : Hid (Rg bcells w2 Ab l16) := rb
  have Mb : Hid (64 = l16.length) := h16b.symm
  have Kb : Hid (64 ≤ kb) := by have e : (putQ ⟨258, 3, 2, 259, [97, 98]⟩).length = 64 := h16b
                                show 64 ≤ kb
                                omega
  rw [show (putQ ⟨258, 3, 2, 259, [97, 98]⟩).length = 64 from h16b]
  clear ho rb Kb0
  have B2 := Lib.hid (chain B1.out hb)
  replace Ra := Lib.hid (Ra.out.below hb)
  replace Rz := Lib.hid (Rz.out.below hb)
  clear hb B1
  obtain ⟨z0, z1, z2, z3, z4⟩ := Rz.out.cells
  have zl := Rz.out.lt
  try dsimp only at z0 z1 z2 z3 z4
  go_wp2_with fail
  refine (get16 Ab kb 64 l16 _ Rb.out Mb.out Kb.out (by decide)).mono ?_
  rintro e w3 ⟨Ax, kx, nx, rfl, h1, h2, hb, h4⟩
  obtain ⟨y1, y2⟩ := h16c
  rw [y2] at h1 h2
  rw [y1, y2]
  obtain rfl : nx = 2 := h1
  have Rx : Hid (Rg bcells w3 Ax [97, 98]) := h2
  have Kx := Lib.hid h4
  have Mx : Hid (2 = [(97 : UInt8), 98].length) := rfl
  clear h2 h4 y1 y2
  unfold secv
  dsimp only
  clear z0 z1 z2 z3 z4 zl
  have B3 := Lib.hid (chain B2.out hb)
  replace Ra := Lib.hid (Ra.out.below hb)
  replace Rz := Lib.hid (Rz.out.below hb)
  replace Rb := Lib.hid (Rb.out.below hb)
  clear hb B2
  obtain ⟨z0, z1, z2, z3, z4⟩ := Rz.out.cells
  have zl := Rz.out.lt
  try dsimp only at z0 z1 z2 z3 z4
  go_wp2_with fail
  clear z0 z1 z2 z3 z4 zl
  have hq := QB.new w3 ⟨258, 3, 2, 259, [97, 98]⟩ Ax 2 kx
  dsimp only at hq
  have hb := chain_alloc (Below.refl _ w3) (.cells #[.int .i64 258, .int .i64 3, .int .i64 2, .int .i64 259, .slice Ax 2 kx] 24)
  have hm := b_made (w3.alloc (.cells #[.int .i64 258, .int .i64 3, .int .i64 2, .int .i64 259, .slice Ax 2 kx] 24)) 64
  have hb2 := chain_alloc hb (.cells (madeCells #[.int .u8 0] 64) 5)
  have hq2 := hq.below ((Below.refl _ _).alloc (Nat.le_refl _) (.cells (madeCells #[.int .u8 0] 64) 5))
  rw [show (w3.alloc (.cells #[.int .i64 258, .int .i64 3, .int .i64 2, .int .i64 259, .slice Ax 2 kx] 24)).heap.size = w3.heap.size + 1 by simp] at hm
  clear hq hb
  obtain ⟨y, hy⟩ : ∃ y, y = w3.heap.size := ⟨_, rfl⟩
  obtain ⟨C, hC⟩ : ∃ C : Option Addr, C = some ⟨w3.heap.size + 1, 0, none⟩ := ⟨_, rfl⟩
  rw [← hC] at hm ⊢
  rw [← hy] at hq2 ⊢
  generalize (w3.alloc (.cells #[.int .i64 258, .int .i64 3, .int .i64 2, .int .i64 259, .slice Ax 2 kx] 24)).alloc (.cells (madeCells #[.int .u8 0] 64) 5) = w4 at hq2 hm hb2 ⊢
  have hb := hb2
  have Ry := Lib.hid hq2
  have Rm := Lib.hid hm
  have Mm : Hid (64 = (List.replicate 64 (0 : UInt8)).length) := rfl
  clear hq2 hm hb2 hC hy
  have B4 := Lib.hid (chain B3.out hb)
  replace Ra := Lib.hid (Ra.out.below hb)
  replace Rz := Lib.hid (Rz.out.below hb)
  replace Rb := Lib.hid (Rb.out.below hb)
  replace Rx := Lib.hid (Rx.out.below hb)
  clear hb B3
  refine (get16 C 64 64 (List.replicate 64 0) _ Rm.out Mm.out (by decide) (by decide)).mono ?_
  rintro e w5 ⟨An, kn, nn, rfl, h1, h2, hb, h4⟩
  rw [getq_no h16d] at h1 h2
  rw [getq_no h16d, h16d]
  obtain rfl : nn = 0 := h1
  clear h2 h4
  unfold secv Sec.z
  dsimp only
  have B5 := Lib.hid (chain B4.out hb)
  replace Ra := Lib.hid (Ra.out.below hb)
  replace Rz := Lib.hid (Rz.out.below hb)
  replace Rb := Lib.hid (Rb.out.below hb)
  replace Rx := Lib.hid (Rx.out.below hb)
  replace Ry := Lib.hid (Ry.out.below hb)
  replace Rm := Lib.hid (Rm.out.below hb)
  clear hb B4
  clear Rm
  obtain ⟨w6, hw6⟩ : ∃ W, W = (w5.alloc (.cells #[.int .i64 0, .int .i64 0, .int .i64 0, .int .i64 0, .slice An 0 kn] 24)).alloc (.cells #[] 5) := ⟨_, rfl⟩
  have hb6 : Below w5.heap.size w5 w6 := by rw [hw6]; exact chain_alloc (chain_alloc (Below.refl _ w5) _) _
  have o6 : w6.ownsRow w5.heap.size 5 1 (.slice (some ⟨w5.heap.size + 1, 0, none⟩) 0 0) 0 (([] : List UInt8).flatMap bcells) := by
    rw [hw6]
    have := World.ownsRow_lit (base := w5.heap.size) (e := 5) (size := 1) (w5.alloc (.cells #[.int .i64 0, .int .i64 0, .int .i64 0, .int .i64 0, .slice An 0 kn] 24)) #[] 0 (by simp) (by decide) rfl
    rwa [show (w5.alloc (.cells #[.int .i64 0, .int .i64 0, .int .i64 0, .int .i64 0, .slice An 0 kn] 24)).heap.size = w5.heap.size + 1 by simp] at this
  obtain ⟨v, w7, run, o7, b7⟩ := b_append_run (m := 64) o6 Ab kb (Rb.out.below hb6) Mb.out (by decide) hb6.size
  rw [List.nil_append, Nat.zero_add] at o7
  have hb7 := hb6.trans b7
  obtain ⟨g, cc, rfl, gB⟩ : ∃ g cc, v = .slice (some ⟨g, 0, none⟩) 64 cc ∧ w5.heap.size ≤ g := by
    rcases o7.2 with ⟨_, h0⟩ | ⟨g, cap, cur, hv, hg, _⟩
    · cases h0
    · exact ⟨g, cap, hv, hg⟩
  have q0 := o7.cellAt 63 (by decide)
  have q1 := o7.frozenAt 63
  have o8 := own_byte (y := 1) o7 (j := 63) (by decide)
  have hb8 := hb7.setCell (p := ⟨g, 63, none⟩) gB (.int .u8 (bz 1))
  have e1 : bz 1 = 1 := rfl
  rw [e1] at o8 hb8
  have hvv : ∃ vv, w7.cell? ⟨g, 63, none⟩ = some vv := by
    rw [q0]
    exact ⟨_, List.getElem?_eq_getElem (by rw [flat_len bcells_len, h16b]; decide)⟩
  clear q0
  obtain ⟨vv, hvv⟩ := hvv
  subst hw6
  have O8 := Lib.hid o8
  have K8 : Hid (64 ≤ cc) := by
    obtain ⟨_, c2, e2, _, _, e3, _⟩ := own_cap bcells_len (by decide) o7
    injection e2 with z1 z2 z3
    show 64 ≤ cc
    omega
  have HB8 := Lib.hid hb8
  clear o6 o7 o8 b7 hb7 hb8 hb6 e1
  go_wp2_with (at_builtin; refine Lib.wpList_append_run _ rfl _ _ _ _ rfl _ _ rfl rfl _ _ run ?_)
  obtain ⟨A9, c2, e2, y9, rc, y8, y7⟩ := own_cap bcells_len (by decide) O8.out
  clear y9 y8 y7
  injection e2 with z1 z2 z3
  rw [← z1] at rc
  clear z2 z3
  have hb := HB8.out
  generalize w7.setCell ⟨g, 63, none⟩ (.int .u8 1) = w8 at rc hb ⊢
  have Rc := Lib.hid rc
  have Mc : Hid (64 = (l16.set 63 1).length) := by show _ = _; rw [List.length_set, h16b]
  clear rc run hvv q1 HB8 O8
  have B6 := Lib.hid (chain B5.out hb)
  replace Ra := Lib.hid (Ra.out.below hb)
  replace Rz := Lib.hid (Rz.out.below hb)
  replace Rb := Lib.hid (Rb.out.below hb)
  replace Rx := Lib.hid (Rx.out.below hb)
  replace Ry := Lib.hid (Ry.out.below hb)
  clear hb B5
  refine (get16 (some ⟨g, 0, none⟩) cc 64 (l16.set 63 1) _ Rc.out Mc.out K8.out (by decide)).mono ?_
  rintro e w9 ⟨Ad, kd, nd, rfl, h1, h2, hb, h4⟩
  rw [getq_no h16e] at h1 h2
  rw [getq_no h16e, h16e]
  obtain rfl : nd = 0 := h1
  clear h2 h4
  unfold secv Sec.z
  dsimp only
  have B7 := Lib.hid (chain B6.out hb)
  replace Ra := Lib.hid (Ra.out.below hb)
  replace Rz := Lib.hid (Rz.out.below hb)
  replace Rb := Lib.hid (Rb.out.below hb)
  replace Rx := Lib.hid (Rx.out.below hb)
  replace Ry := Lib.hid (Ry.out.below hb)
  replace Rc := Lib.hid (Rc.out.below hb)
  clear hb B6
  clear Rc
  have hb := chain_alloc (Below.refl _ w9) (.cells #[.int .i64 0, .int .i64 0, .int .i64 0, .int .i64 0, .slice Ad 0 kd] 24)
  obtain ⟨w10, hw10⟩ : ∃ W, W = w9.alloc (.cells #[.int .i64 0, .int .i64 0, .int .i64 0, .int .i64 0, .slice Ad 0 kd] 24) := ⟨_, rfl⟩
  rw [← hw10] at hb
  have B8 := Lib.hid (chain B7.out hb)
  replace Ra := Lib.hid (Ra.out.below hb)
  replace Rz := Lib.hid (Rz.out.below hb)
  replace Rb := Lib.hid (Rb.out.below hb)
  replace Rx := Lib.hid (Rx.out.below hb)
  replace Ry := Lib.hid (Ry.out.below hb)
  clear hb B7
  obtain ⟨z0, z1, z2, z3, z4⟩ := Rz.out.cells
  have zl := Rz.out.lt
  try dsimp only at z0 z1 z2 z3 z4
  obtain ⟨y0, y1, y2, y3, y4⟩ := Ry.out.cells
  have yl := Ry.out.lt
  try dsimp only at y0 y1 y2 y3 y4
  have k16 : 16 ≤ kb := Nat.le_trans (by decide) Kb.out
  have tob : ∀ w, (Instr.slice 22 (.slice Ab 64 kb) none (some (.int .i64 16)) none).run Tryd.prog w = .ok (.slice Ab 16 kb) w := fun w => b_to16 Ab 64 kb 16 (by decide) Kb.out w
  have Rt := Lib.hid (bg_take16 Rb.out 16)
  have tt := text_of (A := Ab) (c := kb) (n := 16) Rt.out (by rw [List.length_take, h16b]; rfl)
  have tq : ((tx (l16.take 16)).toList == [0, 0, 0, 0, 0, 0, 1, 2, 0, 3, 2, 1, 3, 2, 97, (98 : UInt8)]) = true := by rw [tx_list, h16f]; decide
  subst hw10
  go_wp2_with fail
  refine (rsame16 ⟨258, 3, 2, 259, [97, 98]⟩ Ax A 2 kx 2 2 _ Mx.out Ma.out Rx.out Ra.out).mono ?_
  rintro e w11 ⟨rfl, hb⟩
  clear tt tq tob Rt
  clear z0 z1 z2 z3 z4 zl y0 y1 y2 y3 y4 yl
  have B9 := Lib.hid (chain B8.out hb)
  replace Ra := Lib.hid (Ra.out.below hb)
  replace Rz := Lib.hid (Rz.out.below hb)
  replace Rb := Lib.hid (Rb.out.below hb)
  replace Rx := Lib.hid (Rx.out.below hb)
  replace Ry := Lib.hid (Ry.out.below hb)
  clear hb B8
  obtain ⟨z0, z1, z2, z3, z4⟩ := Rz.out.cells
  have zl := Rz.out.lt
  try dsimp only at z0 z1 z2 z3 z4
  obtain ⟨y0, y1, y2, y3, y4⟩ := Ry.out.cells
  have yl := Ry.out.lt
  try dsimp only at y0 y1 y2 y3 y4
  go_wp2_with fail
  refine (right16 ⟨258, 3, 2, 259, [97, 98]⟩ A 2 2 _ Ma.out).mono ?_
  rw [h16a]
  rintro e w12 ⟨rfl, hb⟩
  clear z0 z1 z2 z3 z4 zl y0 y1 y2 y3 y4 yl
  have B10 := Lib.hid (chain B9.out hb)
  replace Ra := Lib.hid (Ra.out.below hb)
  replace Rz := Lib.hid (Rz.out.below hb)
  replace Rb := Lib.hid (Rb.out.below hb)
  replace Rx := Lib.hid (Rx.out.below hb)
  replace Ry := Lib.hid (Ry.out.below hb)
  clear hb B9
  obtain ⟨z0, z1, z2, z3, z4⟩ := Rz.out.cells
  have zl := Rz.out.lt
  try dsimp only at z0 z1 z2 z3 z4
  obtain ⟨y0, y1, y2, y3, y4⟩ := Ry.out.cells
  have yl := Ry.out.lt
  try dsimp only at y0 y1 y2 y3 y4
  go_wp2_with fail
  refine (right16 Sec.z none 0 0 _ rfl).mono ?_
  rw [h16g]
  rintro e w13 ⟨rfl, hb⟩
  clear z0 z1 z2 z3 z4 zl y0 y1 y2 y3 y4 yl
  have B11 := Lib.hid (chain B10.out hb)
  replace Ra := Lib.hid (Ra.out.below hb)
  replace Rz := Lib.hid (Rz.out.below hb)
  replace Rb := Lib.hid (Rb.out.below hb)
  replace Rx := Lib.hid (Rx.out.below hb)
  replace Ry := Lib.hid (Ry.out.below hb)
  clear hb B10
  obtain ⟨z0, z1, z2, z3, z4⟩ := Rz.out.cells
  have zl := Rz.out.lt
  try dsimp only at z0 z1 z2 z3 z4
  obtain ⟨y0, y1, y2, y3, y4⟩ := Ry.out.cells
  have yl := Ry.out.lt
  try dsimp only at y0 y1 y2 y3 y4
  go_wp2_with fail
  refine (put16 ⟨1, 0, 1, 0, []⟩ none 0 0 _ rfl (Rg.nil _ _ _)).mono ?_
  rintro e w14 ⟨v, rfl, ho, hb⟩
  rw [h16h] at ho
  obtain ⟨Ae, ke, rfl, y9, y8, y7, y6⟩ := own_cap bcells_len (by decide) ho
  clear y9 y8 y7 y6
  show _
  clear ho
  rw [List.length_nil]
  clear z0 z1 z2 z3 z4 zl y0 y1 y2 y3 y4 yl
  have B12 := Lib.hid (chain B11.out hb)
  replace Ra := Lib.hid (Ra.out.below hb)
  replace Rz := Lib.hid (Rz.out.below hb)
  replace Rb := Lib.hid (Rb.out.below hb)
  replace Rx := Lib.hid (Rx.out.below hb)
  replace Ry := Lib.hid (Ry.out.below hb)
  clear hb B11
  obtain ⟨z0, z1, z2, z3, z4⟩ := Rz.out.cells
  have zl := Rz.out.lt
  try dsimp only at z0 z1 z2 z3 z4
  obtain ⟨y0, y1, y2, y3, y4⟩ := Ry.out.cells
  have yl := Ry.out.lt
  try dsimp only at y0 y1 y2 y3 y4
  go_wp2_with fail
  go_ret
  exact ⟨rfl, B12.out⟩

end Go.Proofs.YtjokaaekliapmaaDoor
