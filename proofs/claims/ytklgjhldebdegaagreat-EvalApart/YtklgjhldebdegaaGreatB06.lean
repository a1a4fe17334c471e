/-
  What the laws of this seat stand on, part 6.
-/
import Derived.Test.YtklgjhldebdegaaGreatB05
import Derived.Deep.QuietTactic
import Derived.BigQuiet
import Derived.StillTailTactics
namespace Go.Proofs.YtklgjhldebdegaaGreat
open Go.RowKit

theorem below_set9 {w0 w : World} {B b : Nat} (H : Below B w0 w) (hb : B ≤ b) (v0 v1 v2 v3 v4 v5 v6 v7 v8 : Value) : Below B w0 (((((((((w.setCell ⟨b, 0, none⟩ v0).setCell ⟨b, 1, none⟩ v1).setCell ⟨b, 2, none⟩ v2).setCell ⟨b, 3, none⟩ v3).setCell ⟨b, 4, none⟩ v4).setCell ⟨b, 5, none⟩ v5).setCell ⟨b, 6, none⟩ v6).setCell ⟨b, 7, none⟩ v7).setCell ⟨b, 8, none⟩ v8) :=
  (((((((((H.setCell (p := ⟨b, 0, none⟩) hb _).setCell (p := ⟨b, 1, none⟩) hb _).setCell (p := ⟨b, 2, none⟩) hb _).setCell (p := ⟨b, 3, none⟩) hb _).setCell (p := ⟨b, 4, none⟩) hb _).setCell (p := ⟨b, 5, none⟩) hb _).setCell (p := ⟨b, 6, none⟩) hb _).setCell (p := ⟨b, 7, none⟩) hb _).setCell (p := ⟨b, 8, none⟩) hb _)
/-- A zero source in a variable. -/
def ZB (w : World) (b : Nat) : Prop := w.heap[b]? = some (.cells #[.int .i64 0, .int .i64 0, .int .i64 0, .int .i64 0, .int .i64 0, .int .i64 0, .int .i64 0, .int .i64 0, .complex .f64 0 0] 146 (0, 0))
theorem ZB.lt {w : World} {b : Nat} (H : ZB w b) : b < w.heap.size := (Array.getElem?_eq_some_iff.1 H).1
theorem ZB.below {w w' : World} {b : Nat} (H : ZB w b) (hb : Below w.heap.size w w') : ZB w' b := (hb.block b H.lt).trans H
theorem ZB.alloc {w : World} {b : Nat} (H : ZB w b) (o : Obj) : ZB (w.alloc o) b := (Lib.alloc_old w o b H.lt).trans H
theorem ZB.frozen {w : World} {b : Nat} (H : ZB w b) : ∀ i, w.frozen? ⟨b, i, none⟩ = false := fun i => Lib.frozen_of_heap H i
theorem ZB.cells {w : World} {b : Nat} (H : ZB w b) : w.cell? ⟨b, 0, none⟩ = some (.int .i64 0) ∧ w.cell? ⟨b, 1, none⟩ = some (.int .i64 0) ∧ w.cell? ⟨b, 2, none⟩ = some (.int .i64 0) ∧ w.cell? ⟨b, 3, none⟩ = some (.int .i64 0) ∧ w.cell? ⟨b, 4, none⟩ = some (.int .i64 0) ∧ w.cell? ⟨b, 5, none⟩ = some (.int .i64 0) ∧ w.cell? ⟨b, 6, none⟩ = some (.int .i64 0) ∧ w.cell? ⟨b, 7, none⟩ = some (.int .i64 0) ∧ w.cell? ⟨b, 8, none⟩ = some (.complex .f64 0 0) := by
  refine ⟨?_, ?_, ?_, ?_, ?_, ?_, ?_, ?_, ?_⟩ <;> (rw [Lib.cell_of_heap H]; rfl)
theorem zb_two (w : World) (a : Obj) : ZB ((w.alloc a).alloc (.cells #[.int .i64 0, .int .i64 0, .int .i64 0, .int .i64 0, .int .i64 0, .int .i64 0, .int .i64 0, .int .i64 0, .complex .f64 0 0] 146)) (w.heap.size + 1) := by
  have := heap_alloc_new (w.alloc a) (.cells #[.int .i64 0, .int .i64 0, .int .i64 0, .int .i64 0, .int .i64 0, .int .i64 0, .int .i64 0, .int .i64 0, .complex .f64 0 0] 146)
  rwa [show (w.alloc a).heap.size = w.heap.size + 1 by simp] at this

set_option maxHeartbeats 1000000 in
set_option maxRecDepth 100000 in
theorem find_none (c h x : Int) (A : Option Addr) (cA n : Nat) (ls : List Ly) (i p : Int) (w : World) (hx : Rl w A ls) (ln : n = ls.length) (hn : n ≤ 1000) (hh : hasK (atN ⟨c, h, x, ls⟩ i) p = false) :
    Calls Tryz.prog 106 #[.agg #[.int .i64 c, .int .i64 h, .int .i64 x, .slice A n cA], .int .i64 i, .int .i64 p] w fun e w' => e = .returned (.agg #[.int .i64 0, .int .i64 0, .int .i64 0, .int .i64 0, .int .i64 0, .int .i64 0, .int .i64 0, .int .i64 0, .complex .f64 0 0]) ∧ Below w.heap.size w w' := by
  have HH := Lib.hid hh
  clear hh
  have hcs : ∀ (a : Addr) (k : FloatKind) (re im : Nat) (m : Mode) (w : World), (store a (.complex k re im) m).run Tryz.prog w = stored Tryz.prog w a (.complex k re im) m := fun a k re im m w => run_store Tryz.prog w a _ m rfl
  have HX := Lib.hid hx; have LX := Lib.hid ln
  clear hx ln
  obtain ⟨er, her⟩ : ∃ er, er = errN ⟨c, h, x, ls⟩ := ⟨_, rfl⟩
  have HER := Lib.hid her
  clear her
  go_enter Tryz.func106, Tryz.ntmps106
  go_wp2_with fail
  refine (shapes_any c h x A cA n ls _ (HX.out.below (below_two w _ _)) LX.out hn).mono ?_
  rintro e w1 ⟨A1, k1, n1, rfl, hn1, hR, hb, hd1, hd2⟩
  rw [← HER.out]
  have B1 := Lib.hid (chain (below_two w _ _) hb)
  have N1 := Lib.hid (((NB.new w c h x (.slice A n cA)).alloc (.cells #[.int .i64 0, .int .i64 0, .int .i64 0, .int .i64 0, .int .i64 0, .int .i64 0, .int .i64 0, .int .i64 0, .complex .f64 0 0] 146)).below hb)
  have Z1 := Lib.hid ((zb_two w (.cells #[.int .i64 c, .int .i64 h, .int .i64 x, .slice A n cA] 26)).below hb)
  obtain ⟨c0, c1, c2, c3⟩ := N1.out.cells
  obtain ⟨y0, y1, y2, y3, y4, y5, y6, y7, y8⟩ := Z1.out.cells
  have f0 := Z1.out.frozen 0
  have f1 := Z1.out.frozen 1
  have f2 := Z1.out.frozen 2
  have f3 := Z1.out.frozen 3
  have f4 := Z1.out.frozen 4
  have f5 := Z1.out.frozen 5
  have f6 := Z1.out.frozen 6
  have f7 := Z1.out.frozen 7
  have f8 := Z1.out.frozen 8
  have lz1 := Z1.out.lt
  clear hb hd1 hd2
  by_cases h0 : ¬ er = 0
  · have b0 : (er != 0) = true := by simpa using h0
    clear h0 hn1 hR
    go_wp2_with fail
    exact bodyPost_ret (v := .agg #[.int .i64 0, .int .i64 0, .int .i64 0, .int .i64 0, .int .i64 0, .int .i64 0, .int .i64 0, .int .i64 0, .complex .f64 0 0]) (by simp [results, Tryz.results106, go_sem, y0, y1, y2, y3, y4, y5, y6, y7, y8]) rfl ⟨rfl, below_set9 B1.out (by omega) _ _ _ _ _ _ _ _ _⟩
  have h0 : er = 0 := by omega
  subst h0
  by_cases i0 : i < 0
  · have d0 : decide (i < 0) = true := decide_eq_true i0
    clear hn1 hR
    go_wp2_with fail
    exact bodyPost_ret (v := .agg #[.int .i64 0, .int .i64 0, .int .i64 0, .int .i64 0, .int .i64 0, .int .i64 0, .int .i64 0, .int .i64 0, .complex .f64 0 0]) (by simp [results, Tryz.results106, go_sem, y0, y1, y2, y3, y4, y5, y6, y7, y8]) rfl ⟨rfl, below_set9 B1.out (by omega) _ _ _ _ _ _ _ _ _⟩
  have d0 : decide (i < 0) = false := decide_eq_false i0
  by_cases i1 : (n : Int) ≤ i
  · have d1 : decide ((n : Int) ≤ i) = true := decide_eq_true i1
    clear hn1 hR
    go_wp2_with fail
    exact bodyPost_ret (v := .agg #[.int .i64 0, .int .i64 0, .int .i64 0, .int .i64 0, .int .i64 0, .int .i64 0, .int .i64 0, .int .i64 0, .complex .f64 0 0]) (by simp [results, Tryz.results106, go_sem, y0, y1, y2, y3, y4, y5, y6, y7, y8]) rfl ⟨rfl, below_set9 B1.out (by omega) _ _ _ _ _ _ _ _ _⟩
  have d1 : decide ((n : Int) ≤ i) = false := decide_eq_false i1
  obtain ⟨j, rfl⟩ : ∃ j : Nat, i = j := ⟨i.toNat, by omega⟩
  have jn : j < n := by omega
  have d2 : decide (n ≤ j) = false := by simp; omega
  have he := HER.out.symm
  rw [shN_ok he] at hR hn1
  rw [sh_len, ← LX.out] at hn1
  obtain ⟨bS, oS, rfl, hlS, hcS⟩ := hR (by rw [sh_len]; omega)
  have hjl : j < ls.length := by rw [← LX.out]; exact jn
  have hl := get_ly hjl
  obtain ⟨K, hK⟩ : ∃ K, K = atN ⟨c, h, x, ls⟩ (j : Int) := ⟨_, rfl⟩
  have hKu : K.u = endS ⟨c, h, x⟩ (ls.take (j + 1)) := by rw [hK, at_some he hl, end_next hl]
  have g2 := sh_get ls ⟨c, h, x⟩ (j + 1) (by omega)
  rw [← hKu] at g2
  obtain ⟨m, hm⟩ : ∃ m, m = j + 1 := ⟨_, rfl⟩
  obtain ⟨a3, a4, a5⟩ := sh_at hcS g2
  rw [← hm] at a3 a4 a5
  have hf : hasB K.u.c K.u.h K.u.x p = false := by have := HH.out; rw [← hK] at this; exact this
  have HF := Lib.hid hf
  have ma : (0 : Int) ≤ (m : Int) := by omega
  have mb : (m : Int) < (n1 : Int) := by omega
  have mb' : m < n1 := by omega
  have v1 : IntKind.i64.wrap ((j : Int) + 1) = (m : Int) := next_i64 hm (Nat.lt_succ_self j) (by omega)
  have v2 : wrap64 ((j : Int) + 1) = (m : Int) := next_wrap hm (Nat.lt_succ_self j) (by omega)
  clear hf hKu g2 hl he hn1 hm hcS hK
  go_wp2_with fail
  refine (of_any K.u.c K.u.h K.u.x p _).mono ?_
  rintro e w2 ⟨rfl, hb⟩
  rw [HF.out]
  have B2 := Lib.hid (chain B1.out hb)
  have Z2 := Lib.hid (Z1.out.below hb)
  clear hb y0 f0 y1 f1 y2 f2 y3 f3 y4 f4 y5 f5 y6 f6 y7 f7 y8 f8 c0 c1 c2 c3 lz1
  obtain ⟨y0, y1, y2, y3, y4, y5, y6, y7, y8⟩ := Z2.out.cells
  have f0 := Z2.out.frozen 0
  have f1 := Z2.out.frozen 1
  have f2 := Z2.out.frozen 2
  have f3 := Z2.out.frozen 3
  have f4 := Z2.out.frozen 4
  have f5 := Z2.out.frozen 5
  have f6 := Z2.out.frozen 6
  have f7 := Z2.out.frozen 7
  have f8 := Z2.out.frozen 8
  have lz1 := Z2.out.lt
  go_wp2_with fail
  exact bodyPost_ret (v := .agg #[.int .i64 0, .int .i64 0, .int .i64 0, .int .i64 0, .int .i64 0, .int .i64 0, .int .i64 0, .int .i64 0, .complex .f64 0 0]) (by simp [results, Tryz.results106, go_sem, y0, y1, y2, y3, y4, y5, y6, y7, y8]) rfl ⟨rfl, below_set9 B2.out (by omega) _ _ _ _ _ _ _ _ _⟩

set_option maxHeartbeats 2000000 in
set_option maxRecDepth 100000 in
theorem find_some (c h x : Int) (A : Option Addr) (cA n : Nat) (ls : List Ly) (i p : Int) (K : Kn) (st : Int) (ch cx cy : Nat) (w : World) (hx : Rl w A ls) (ln : n = ls.length) (hn : n ≤ 1000) (hK : K = atN ⟨c, h, x, ls⟩ i) (hh : hasK K p = true)
    (hst : st = (if K.l.k = 3 then K.l.s else K.l.t)) (hch : chI K.u.c K.u.h K.u.x p = (ch : Int)) (hcx : colI K.u.c K.u.h K.u.x p * st = (cx : Int)) (hcy : rowI K.u.c K.u.h K.u.x p * st = (cy : Int)) (bx : cx ≤ 1000000000) (bY : cy ≤ 1000000000) :
    Calls Tryz.prog 106 #[.agg #[.int .i64 c, .int .i64 h, .int .i64 x, .slice A n cA], .int .i64 i, .int .i64 p] w fun e w' => e = .returned (.agg #[.int .i64 K.l.k, .int .i64 K.l.o, .int .i64 K.l.s, .int .i64 K.l.t, .int .i64 K.i.c, .int .i64 K.i.h, .int .i64 K.i.x, .int .i64 (ch : Int), .complex .f64 (fl cx) (fl cy)]) ∧ Below w.heap.size w w' := by
  have HH := Lib.hid hh; have HK := Lib.hid hK; have HCH := Lib.hid hch
  obtain ⟨col, hcol⟩ : ∃ col, col = colI K.u.c K.u.h K.u.x p := ⟨_, rfl⟩
  obtain ⟨row, hrow⟩ : ∃ row, row = rowI K.u.c K.u.h K.u.x p := ⟨_, rfl⟩
  rw [← hcol] at hcx
  rw [← hrow] at hcy
  have HCOL := Lib.hid hcol; have HROW := Lib.hid hrow; have HST := Lib.hid hst
  clear hh hch hcol hrow hst
  have z1 : 0 ≤ col * st := by omega
  have z2 : col * st ≤ 1000000000 := by omega
  have z3 : 0 ≤ row * st := by omega
  have z4 : row * st ≤ 1000000000 := by omega
  have hE : errN ⟨c, h, x, ls⟩ = 0 := by
    by_cases e : errN ⟨c, h, x, ls⟩ = 0
    · exact e
    · have := HH.out; rw [hK, at_none e, hasK_z] at this; cases this
  have hI : 0 ≤ i ∧ i < (ls.length : Int) := by
    by_cases e : 0 ≤ i ∧ i < (ls.length : Int)
    · exact e
    · have := HH.out; rw [hK, at_far e, hasK_z] at this; cases this
  obtain ⟨j, rfl⟩ : ∃ j : Nat, i = j := ⟨i.toNat, by omega⟩
  have HE0 := Lib.hid hE; have HI := Lib.hid hI
  clear hE hI hK
  have hcs : ∀ (a : Addr) (k : FloatKind) (re im : Nat) (m : Mode) (w : World), (store a (.complex k re im) m).run Tryz.prog w = stored Tryz.prog w a (.complex k re im) m := fun a k re im m w => run_store Tryz.prog w a _ m rfl
  have HX := Lib.hid hx; have LX := Lib.hid ln
  clear hx ln
  obtain ⟨er, her⟩ : ∃ er, er = errN ⟨c, h, x, ls⟩ := ⟨_, rfl⟩
  have HER := Lib.hid her
  clear her
  go_enter Tryz.func106, Tryz.ntmps106
  go_wp2_with fail
  refine (shapes_any c h x A cA n ls _ (HX.out.below (below_two w _ _)) LX.out hn).mono ?_
  rintro e w1 ⟨A1, k1, n1, rfl, hn1, hR, hb, hd1, hd2⟩
  rw [← HER.out]
  have B1 := Lib.hid (chain (below_two w _ _) hb)
  have N1 := Lib.hid (((NB.new w c h x (.slice A n cA)).alloc (.cells #[.int .i64 0, .int .i64 0, .int .i64 0, .int .i64 0, .int .i64 0, .int .i64 0, .int .i64 0, .int .i64 0, .complex .f64 0 0] 146)).below hb)
  have Z1 := Lib.hid ((zb_two w (.cells #[.int .i64 c, .int .i64 h, .int .i64 x, .slice A n cA] 26)).below hb)
  obtain ⟨c0, c1, c2, c3⟩ := N1.out.cells
  obtain ⟨y0, y1, y2, y3, y4, y5, y6, y7, y8⟩ := Z1.out.cells
  have f0 := Z1.out.frozen 0
  have f1 := Z1.out.frozen 1
  have f2 := Z1.out.frozen 2
  have f3 := Z1.out.frozen 3
  have f4 := Z1.out.frozen 4
  have f5 := Z1.out.frozen 5
  have f6 := Z1.out.frozen 6
  have f7 := Z1.out.frozen 7
  have f8 := Z1.out.frozen 8
  have lz1 := Z1.out.lt
  clear hb hd1 hd2
  have h0 : er = 0 := by rw [HER.out, HE0.out]
  subst h0
  have jn : j < n := by have := HI.out.2; rw [← LX.out] at this; omega
  have d0 : decide ((j : Int) < 0) = false := decide_eq_false (by omega)
  have d1 : decide ((n : Int) ≤ (j : Int)) = false := decide_eq_false (by omega)
  have d2 : decide (n ≤ j) = false := by simp; omega
  have he := HER.out.symm
  rw [shN_ok he] at hR hn1
  rw [sh_len, ← LX.out] at hn1
  obtain ⟨bS, oS, rfl, hlS, hcS⟩ := hR (by rw [sh_len]; omega)
  obtain ⟨b1, o1, rfl, l1, q⟩ := HX.out (by rw [← LX.out]; omega)
  have hjl : j < ls.length := by rw [← LX.out]; exact jn
  obtain ⟨l, hle⟩ : ∃ l, l = ls.getD j Ly.z := ⟨_, rfl⟩
  have hq := (q j hjl).below B1.out l1
  rw [← hle] at hq
  have hl : ls[j]? = some l := by rw [hle]; exact get_ly hjl
  have hKe : K = ⟨l, endS ⟨c, h, x⟩ (ls.take j), outS (endS ⟨c, h, x⟩ (ls.take j)) l, sumW ⟨c, h, x⟩ (ls.take j)⟩ := by rw [HK.out, at_some he hl]
  have hKl : l = K.l := by rw [hKe]
  have g1 := sh_get ls ⟨c, h, x⟩ j (by omega)
  rw [show endS ⟨c, h, x⟩ (ls.take j) = K.i by rw [hKe]] at g1
  have g2 := sh_get ls ⟨c, h, x⟩ (j + 1) (by omega)
  rw [show endS ⟨c, h, x⟩ (ls.take (j + 1)) = K.u by rw [hKe, end_next hl]] at g2
  rw [hKl] at hq
  obtain ⟨p0, p1, p2, p3⟩ := hq
  obtain ⟨m, hm⟩ : ∃ m, m = j + 1 := ⟨_, rfl⟩
  obtain ⟨a0, a1, a2⟩ := sh_at hcS g1
  obtain ⟨a3, a4, a5⟩ := sh_at hcS g2
  rw [← hm] at a3 a4 a5
  have ja : (0 : Int) ≤ (j : Int) := by omega
  have jb : (j : Int) < (n1 : Int) := by omega
  have jb' : j < n1 := by omega
  have jc : (j : Int) < (n : Int) := by omega
  have ma : (0 : Int) ≤ (m : Int) := by omega
  have mb : (m : Int) < (n1 : Int) := by omega
  have mb' : m < n1 := by omega
  have v1 : IntKind.i64.wrap ((j : Int) + 1) = (m : Int) := next_i64 hm (Nat.lt_succ_self j) (by omega)
  have v2 : wrap64 ((j : Int) + 1) = (m : Int) := next_wrap hm (Nat.lt_succ_self j) (by omega)
  have l1r : b1 < w1.heap.size := Nat.lt_of_lt_of_le l1 B1.out.size
  clear hKe hKl g1 g2 hl hle he hn1 hm hcS q l1
  go_wp2_with fail
  refine (of_any K.u.c K.u.h K.u.x p _).mono ?_
  rintro e w2 ⟨rfl, hb⟩
  rw [show hasB K.u.c K.u.h K.u.x p = true from HH.out, HCH.out, ← HCOL.out, ← HROW.out]
  have B2 := Lib.hid (chain B1.out hb)
  have Z2 := Lib.hid (Z1.out.below hb)
  have N2 := Lib.hid (N1.out.below hb)
  have r0 := (hb.cell (p := ⟨bS, oS + j * 3, none⟩) hlS).trans a0
  have r1 := (hb.cell (p := ⟨bS, oS + j * 3 + 1, none⟩) hlS).trans a1
  have r2 := (hb.cell (p := ⟨bS, oS + j * 3 + 2, none⟩) hlS).trans a2
  have s0 := (hb.cell (p := ⟨b1, o1 + j * 4, none⟩) l1r).trans p0
  have s1 := (hb.cell (p := ⟨b1, o1 + j * 4 + 1, none⟩) l1r).trans p1
  have s2 := (hb.cell (p := ⟨b1, o1 + j * 4 + 2, none⟩) l1r).trans p2
  have s3 := (hb.cell (p := ⟨b1, o1 + j * 4 + 3, none⟩) l1r).trans p3
  have lS2 : bS < w2.heap.size := Nat.lt_of_lt_of_le hlS hb.size
  have lb2 : b1 < w2.heap.size := Nat.lt_of_lt_of_le l1r hb.size
  clear hb y0 f0 y1 f1 y2 f2 y3 f3 y4 f4 y5 f5 y6 f6 y7 f7 y8 f8 c0 c1 c2 c3 lz1 a0 a1 a2 a3 a4 a5 p0 p1 p2 p3 l1r v1 v2
  obtain ⟨c0, c1, c2, c3⟩ := N2.out.cells
  obtain ⟨y0, y1, y2, y3, y4, y5, y6, y7, y8⟩ := Z2.out.cells
  have f0 := Z2.out.frozen 0
  have f1 := Z2.out.frozen 1
  have f2 := Z2.out.frozen 2
  have f3 := Z2.out.frozen 3
  have f4 := Z2.out.frozen 4
  have f5 := Z2.out.frozen 5
  have f6 := Z2.out.frozen 6
  have f7 := Z2.out.frozen 7
  have f8 := Z2.out.frozen 8
  have lz2 := Z2.out.lt
  have cv1 : ∀ w : World, (convert 3 151 (.int .i64 (cx : Int))).run Tryz.prog w = .ok (.float .f64 (fl cx)) w := fun w => run_convert_int_float w 3 151 .i64 .f64 _ (by kernel_rfl) Tryz.underlying151
  have cv2 : ∀ w : World, (convert 3 151 (.int .i64 (cy : Int))).run Tryz.prog w = .ok (.float .f64 (fl cy)) w := fun w => run_convert_int_float w 3 151 .i64 .f64 _ (by kernel_rfl) Tryz.underlying151
  by_cases k3 : K.l.k = 3
  · have e3 : (K.l.k == 3) = true := by rw [k3]; rfl
    have hS := HST.out
    rw [if_pos k3] at hS
    rw [hS] at hcx hcy z1 z2 z3 z4
    clear k3 hS
    go_wp2_with fail
    go_region
    go_wp2_with fail
    exact bodyPost_ret (v := .agg #[.int .i64 K.l.k, .int .i64 K.l.o, .int .i64 K.l.s, .int .i64 K.l.t, .int .i64 K.i.c, .int .i64 K.i.h, .int .i64 K.i.x, .int .i64 (ch : Int), .complex .f64 (fl cx) (fl cy)]) (by simp [results, Tryz.results106, go_sem, y0, y1, y2, y3, y4, y5, y6, y7, y8, lz2]) rfl ⟨rfl, (chain_alloc (below_set9 B2.out (by omega) _ _ _ _ _ _ _ _ _) _).drew⟩
  · have e3 : (K.l.k == 3) = false := by simpa using k3
    have hS := HST.out
    rw [if_neg k3] at hS
    rw [hS] at hcx hcy z1 z2 z3 z4
    clear k3 hS
    go_wp2_with fail
    go_region
    go_wp2_with fail
    exact bodyPost_ret (v := .agg #[.int .i64 K.l.k, .int .i64 K.l.o, .int .i64 K.l.s, .int .i64 K.l.t, .int .i64 K.i.c, .int .i64 K.i.h, .int .i64 K.i.x, .int .i64 (ch : Int), .complex .f64 (fl cx) (fl cy)]) (by simp [results, Tryz.results106, go_sem, y0, y1, y2, y3, y4, y5, y6, y7, y8, lz2]) rfl ⟨rfl, (chain_alloc (below_set9 B2.out (by omega) _ _ _ _ _ _ _ _ _) _).drew⟩

end Go.Proofs.YtklgjhldebdegaaGreat

namespace Go.Proofs.YtklgjhldebdegaaGreat
open Go.RowKit

/-- A layer that has a place which comes out. -/
theorem has_layer {c h x : Int} {ls : List Ly} {i p : Int} (hh : hasK (atN ⟨c, h, x, ls⟩ i) p = true) :
    errN ⟨c, h, x, ls⟩ = 0 ∧ ∃ (j : Nat) (l : Ly), i = j ∧ ls[j]? = some l ∧ atN ⟨c, h, x, ls⟩ i = ⟨l, endS ⟨c, h, x⟩ (ls.take j), outS (endS ⟨c, h, x⟩ (ls.take j)) l, sumW ⟨c, h, x⟩ (ls.take j)⟩ ∧ lyB l = true ∧ (endS ⟨c, h, x⟩ (ls.take j)).r = true ∧ okS (endS ⟨c, h, x⟩ (ls.take j)) l = true := by
  have hE : errN ⟨c, h, x, ls⟩ = 0 := by
    by_cases e : errN ⟨c, h, x, ls⟩ = 0
    · exact e
    · rw [at_none e, hasK_z] at hh; cases hh
  have hI : 0 ≤ i ∧ i < (ls.length : Int) := by
    by_cases e : 0 ≤ i ∧ i < (ls.length : Int)
    · exact e
    · rw [at_far e, hasK_z] at hh; cases hh
  obtain ⟨j, rfl⟩ : ∃ j : Nat, i = j := ⟨i.toNat, by omega⟩
  have hl := get_ly (show j < ls.length by omega)
  obtain ⟨a, b, d⟩ := layer_facts hE hl
  exact ⟨hE, j, _, rfl, hl, at_some hE hl, a, b, d⟩
theorem sum_all {c h x : Int} {ls : List Ly} (e : errN ⟨c, h, x, ls⟩ = 0) (j : Nat) : 0 ≤ sumW ⟨c, h, x⟩ (ls.take j) ∧ sumW ⟨c, h, x⟩ (ls.take j) ≤ 512 := by
  obtain ⟨r, f3, t, a, b, l8⟩ := ok_all e
  have h1 := sum_bd (s := ⟨c, h, x⟩) r (all_take f3 j) (fit_take t j) (by rw [List.length_take]; omega)
  refine ⟨h1.1, ?_⟩
  have h2 := w_app (ls.take j) (ls.drop j) ⟨c, h, x⟩
  rw [List.take_append_drop] at h2
  have h3 : fitL (endS ⟨c, h, x⟩ (ls.take j)) (ls.drop j) = true := by
    have := t
    rw [← List.take_append_drop j ls, fit_app, Bool.and_eq_true] at this
    exact this.2
  have h4 := sum_bd (s := endS ⟨c, h, x⟩ (ls.take j)) (end_right _ _ r (all_take f3 j) (fit_take t j)) (by rw [List.all_eq_true] at f3 ⊢; exact fun y hy => f3 y (List.mem_of_mem_drop hy)) h3 (by rw [List.length_drop]; omega)
  omega
/-- Channel, row and column of a place that comes out. -/
theorem of_bd {s : Sh} {p : Int} (hh : hasB s.c s.h s.x p = true) :
    (0 ≤ chI s.c s.h s.x p ∧ chI s.c s.h s.x p < s.c) ∧ (0 ≤ rowI s.c s.h s.x p ∧ rowI s.c s.h s.x p < s.h) ∧ (0 ≤ colI s.c s.h s.x p ∧ colI s.c s.h s.x p < s.x) := by
  obtain ⟨e1, e2, e3⟩ := of_yes hh
  obtain ⟨_, k0, k1, y0, y1, x0, x1⟩ := insideB_out (of_at hh).1
  rw [e1, e2, e3]
  exact ⟨⟨k0, k1⟩, ⟨y0, y1⟩, ⟨x0, x1⟩⟩

set_option maxHeartbeats 1000000 in
set_option maxRecDepth 100000 in
theorem terms_none (c h x : Int) (A : Option Addr) (cA n : Nat) (ls : List Ly) (i p : Int) (w : World) (hx : Rl w A ls) (ln : n = ls.length) (hn : n ≤ 1000) (hh : hasK (atN ⟨c, h, x, ls⟩ i) p = false) :
    Calls Tryz.prog 101 #[.agg #[.int .i64 c, .int .i64 h, .int .i64 x, .slice A n cA], .int .i64 i, .int .i64 p] w fun e w' => e = .returned (.slice none 0 0) ∧ Below w.heap.size w w' := by
  have HH := Lib.hid hh
  clear hh
  have hcs : ∀ (a : Addr) (k : FloatKind) (re im : Nat) (m : Mode) (w : World), (store a (.complex k re im) m).run Tryz.prog w = stored Tryz.prog w a (.complex k re im) m := fun a k re im m w => run_store Tryz.prog w a _ m rfl
  have HX := Lib.hid hx; have LX := Lib.hid ln
  clear hx ln
  go_enter Tryz.func101, Tryz.ntmps101
  go_wp2_with fail
  refine (find_none c h x A cA n ls i p _ (HX.out.below ((Below.refl _ w).alloc (Nat.le_refl _) _)) LX.out hn HH.out).mono ?_
  rintro e w1 ⟨rfl, hb⟩
  have B1 := Lib.hid (chain ((Below.refl w.heap.size w).alloc (Nat.le_refl _) _) hb)
  have N1 := Lib.hid ((NB.new w c h x (.slice A n cA)).below hb)
  obtain ⟨c0, c1, c2, c3⟩ := N1.out.cells
  have lw1 := N1.out.lt
  clear hb
  go_wp2_with fail
  refine (weights_of c h x A cA n ls i _ (HX.out.below (chain_alloc B1.out _)) LX.out hn).mono ?_
  rintro e w2 ⟨rfl, hb⟩
  have B2 := Lib.hid (chain (chain_alloc B1.out _) hb)
  have c0 := (hb.cell (p := ⟨w1.heap.size, 0, none⟩) (by show w1.heap.size < _; simp))
  rw [show (w1.alloc (.cells #[.int .i64 0, .int .i64 0, .int .i64 0, .int .i64 0, .int .i64 0, .int .i64 0, .int .i64 0, .int .i64 0, .complex .f64 0 0] 146)).cell? ⟨w1.heap.size, 0, none⟩ = some (.int .i64 0) by go_simp] at c0
  clear hb
  go_wp2_with fail
  go_ret
  exact ⟨rfl, B2.out⟩
set_option maxHeartbeats 1000000 in
set_option maxRecDepth 100000 in
theorem parts_none (c h x : Int) (A : Option Addr) (cA n : Nat) (ls : List Ly) (i p : Int) (w : World) (hx : Rl w A ls) (ln : n = ls.length) (hn : n ≤ 1000) (hh : hasK (atN ⟨c, h, x, ls⟩ i) p = false) :
    Calls Tryz.prog 104 #[.agg #[.int .i64 c, .int .i64 h, .int .i64 x, .slice A n cA], .int .i64 i, .int .i64 p] w fun e w' => e = .returned (.slice none 0 0) ∧ Below w.heap.size w w' := by
  have HH := Lib.hid hh
  clear hh
  have hcs : ∀ (a : Addr) (k : FloatKind) (re im : Nat) (m : Mode) (w : World), (store a (.complex k re im) m).run Tryz.prog w = stored Tryz.prog w a (.complex k re im) m := fun a k re im m w => run_store Tryz.prog w a _ m rfl
  have HX := Lib.hid hx; have LX := Lib.hid ln
  clear hx ln
  go_enter Tryz.func104, Tryz.ntmps104
  go_wp2_with fail
  refine (find_none c h x A cA n ls i p _ (HX.out.below ((Below.refl _ w).alloc (Nat.le_refl _) _)) LX.out hn HH.out).mono ?_
  rintro e w1 ⟨rfl, hb⟩
  have B1 := Lib.hid (chain ((Below.refl w.heap.size w).alloc (Nat.le_refl _) _) hb)
  clear hb
  go_wp2_with fail
  go_ret
  exact ⟨rfl, chain_alloc B1.out _⟩

set_option maxHeartbeats 2000000 in
set_option maxRecDepth 100000 in
theorem terms_snew (c h x : Int) (A : Option Addr) (cA n : Nat) (ls : List Ly) (i p : Int) (K : Kn) (w : World) (hx : Rl w A ls) (ln : n = ls.length) (hn : n ≤ 1000) (hK : K = atN ⟨c, h, x, ls⟩ i) (hh : hasK K p = true) :
    Calls Tryz.prog 101 #[.agg #[.int .i64 c, .int .i64 h, .int .i64 x, .slice A n cA], .int .i64 i, .int .i64 p] w (RowNew tcells (termsK K p) w) := by
  have hh2 := hh
  rw [hK] at hh2
  obtain ⟨hE, j, l, hij, hl, hat, hly, hr, hok⟩ := has_layer hh2
  rw [← hK] at hat
  have hsum := sum_all hE j
  have KOK : KnOk K := by rw [hK]; exact at_ok _ _
  have hu : K.u.r = true := by rw [hat]; exact out_right hr hly hok
  have hir : K.i.r = true := by rw [hat]; exact hr
  obtain ⟨u1, u2, u3, u4, u5, u6, u7⟩ := right_bd hu
  obtain ⟨r1, r2, r3, r4, r5, r6, r7⟩ := right_bd hir
  obtain ⟨⟨ch0, ch1⟩, ⟨ro0, ro1⟩, ⟨co0, co1⟩⟩ := of_bd (s := K.u) hh
  have hKa : K.a = sumW ⟨c, h, x⟩ (ls.take j) := by rw [hat]
  rw [← hKa] at hsum
  have hkind : K.l.k = 1 ∨ K.l.k = 2 ∨ K.l.k = 3 ∨ K.l.k = 4 := by rw [hat]; exact ly_kind hly
  have hrest : lyB K.l = true := by rw [hat]; exact hly
  -- the step
  obtain ⟨st, hst⟩ : ∃ st, st = (if K.l.k = 3 then K.l.s else K.l.t) := ⟨_, rfl⟩
  have hst0 : 0 ≤ st ∧ st ≤ 999999 ∧ (K.l.k = 1 → st = K.l.t ∧ st ≤ 12) := by
    rcases hkind with k | k | k | k
    · rw [hst, if_neg (by omega)]
      have ho2 : okS K.i K.l = true := by rw [hat]; exact hok
      rw [(out_conv K.i k).2] at ho2
      obtain ⟨_, _, _, _, _, t1, t2, _⟩ := convB_out ho2
      exact ⟨by omega, by omega, fun _ => ⟨rfl, t2⟩⟩
    · rw [hst, if_neg (by omega)]
      have := hrest
      unfold lyB restB at this
      rw [if_neg (by omega), if_neg (by omega), if_neg (by omega)] at this
      simp at this
      exact ⟨by omega, by omega, fun h => absurd h (by omega)⟩
    · rw [hst, if_pos k]
      have := hrest
      unfold lyB nums at this
      rw [if_neg (by omega), if_pos k] at this
      simp [winB] at this
      exact ⟨by omega, by omega, fun h => absurd h (by omega)⟩
    · rw [hst, if_neg (by omega)]
      have := hrest
      unfold lyB restB at this
      rw [if_neg (by omega), if_neg (by omega), if_pos k] at this
      simp at this
      exact ⟨by omega, by omega, fun h => absurd h (by omega)⟩
  obtain ⟨st0, st1, st2⟩ := hst0
  have m1 := mul_bd co0 (show colI K.u.c K.u.h K.u.x p ≤ 12 by omega) st0 st1
  have m2 := mul_bd ro0 (show rowI K.u.c K.u.h K.u.x p ≤ 12 by omega) st0 st1
  obtain ⟨ch, hch⟩ : ∃ ch : Nat, chI K.u.c K.u.h K.u.x p = ch := ⟨(chI K.u.c K.u.h K.u.x p).toNat, by omega⟩
  obtain ⟨cx, hcx⟩ : ∃ cx : Nat, colI K.u.c K.u.h K.u.x p * st = cx := ⟨(colI K.u.c K.u.h K.u.x p * st).toNat, by omega⟩
  obtain ⟨cy, hcy⟩ : ∃ cy : Nat, rowI K.u.c K.u.h K.u.x p * st = cy := ⟨(rowI K.u.c K.u.h K.u.x p * st).toNat, by omega⟩
  have HF : Hid (∀ w, Rl w A ls → Calls Tryz.prog 106 #[.agg #[.int .i64 c, .int .i64 h, .int .i64 x, .slice A n cA], .int .i64 i, .int .i64 p] w fun e w' => e = .returned (.agg #[.int .i64 K.l.k, .int .i64 K.l.o, .int .i64 K.l.s, .int .i64 K.l.t, .int .i64 K.i.c, .int .i64 K.i.h, .int .i64 K.i.x, .int .i64 (ch : Int), .complex .f64 (fl cx) (fl cy)]) ∧ Below w.heap.size w w') := fun w hx =>
    find_some c h x A cA n ls i p K st ch cx cy w hx ln hn hK hh hst hch hcx hcy (by omega) (by omega)
  have HWt : Hid (∀ w, Rl w A ls → Calls Tryz.prog 107 #[.agg #[.int .i64 c, .int .i64 h, .int .i64 x, .slice A n cA], .int .i64 i] w fun e w' => e = .returned (.tuple #[.int .i64 K.a, .int .i64 K.w]) ∧ Below w.heap.size w w') := fun w hx => by
    rw [hK]; exact weights_of c h x A cA n ls i w hx ln hn
  obtain ⟨a, ha⟩ : ∃ a, a = K.a := ⟨_, rfl⟩
  obtain ⟨b, hb⟩ : ∃ b, b = K.w := ⟨_, rfl⟩
  rw [← ha, ← hb] at HWt
  rw [← ha] at hsum
  obtain ⟨sm0, sm1⟩ := hsum
  have HTO : Hid (termsK K p = if K.l.k = 1 then seqT (a + (ch : Int) * K.i.c * K.l.s * K.l.s) (chanL K.i (cy : Int) (cx : Int) K.l.s.toNat K.i.c.toNat) else if K.l.k = 2 then [⟨p, -1⟩] else if K.l.k = 4 then seqT (a + (ch : Int) * K.i.n) (numL K.i.n.toNat) else []) := by
    show _ = _
    unfold termsK
    rw [hch, ← ha]
    by_cases k1 : K.l.k = 1
    · rw [if_pos k1, if_pos k1, ← (st2 k1).1, hcx, hcy]
    · rw [if_neg k1, if_neg k1]
      by_cases k4 : K.l.k = 4
      · rw [if_neg (show ¬ K.l.k = 2 by omega), if_pos k4, if_neg (show ¬ K.l.k = 2 by omega), if_pos k4, ← hch]
        have e1 : K.u = ⟨K.l.o, 1, 1⟩ := by rw [hat]; exact (out_dense _ (by have := k4; rw [hat] at this; exact this)).1
        have e2 := (of_yes hh).1
        rw [e1] at e2 ⊢
        rw [e2]; simp
      · rw [if_neg k4, if_neg k4]
  have hc8 : ch ≤ 8 := by omega
  have S4 : K.l.k = 4 → K.l.s = 0 := fun k4 => by
    have := hrest
    unfold lyB restB at this
    rw [if_neg (by omega), if_neg (by omega), if_pos k4] at this
    simp at this
    omega
  have HS4 := Lib.hid S4
  have X12 : K.l.k = 1 → 0 ≤ K.l.s ∧ K.l.s ≤ 12 ∧ cx ≤ 150 ∧ cy ≤ 150 := fun k1 => by
    obtain ⟨_, _, _, _, a5, a6, _⟩ := KOK.1 k1
    have z1 := mul_bd co0 (show colI K.u.c K.u.h K.u.x p ≤ 11 by omega) st0 (st2 k1).2
    have z2 := mul_bd ro0 (show rowI K.u.c K.u.h K.u.x p ≤ 11 by omega) st0 (st2 k1).2
    exact ⟨a5, a6, by omega, by omega⟩
  have HX12 := Lib.hid X12
  have LN := Lib.hid ln
  have RC : 0 ≤ K.i.c ∧ K.i.c ≤ 8 := ⟨by omega, r2⟩
  have HN : Hid (sizeI K.i.c K.i.h K.i.x = K.i.n) := rfl
  have SN := size_bd K.i
  clear X12 S4 hst hch hcx hcy m1 m2 st0 st1 st2 hrest hKa ha hb KOK hu hir u1 u2 u3 u4 u5 u6 u7 r1 r2 r3 r4 r5 r6 r7 ch0 ch1 ro0 ro1 co0 co1 hat hly hr hok hl hij hE hh2 hh hK
  have hcs : ∀ (a : Addr) (k : FloatKind) (re im : Nat) (m : Mode) (w : World), (store a (.complex k re im) m).run Tryz.prog w = stored Tryz.prog w a (.complex k re im) m := fun a k re im m w => run_store Tryz.prog w a _ m rfl
  have HX := Lib.hid hx
  clear hx ln
  go_enter Tryz.func101, Tryz.ntmps101
  go_wp2_with fail
  refine (HF.out _ (HX.out.below ((Below.refl _ w).alloc (Nat.le_refl _) _))).mono ?_
  rintro e w1 ⟨rfl, hb⟩
  have B1 := Lib.hid (chain ((Below.refl w.heap.size w).alloc (Nat.le_refl _) _) hb)
  have N1 := Lib.hid ((NB.new w c h x (.slice A n cA)).below hb)
  obtain ⟨c0, c1, c2, c3⟩ := N1.out.cells
  have lw1 := N1.out.lt
  clear hb
  go_wp2_with fail
  refine (HWt.out _ (HX.out.below (chain_alloc B1.out _))).mono ?_
  rintro e w2 ⟨rfl, hb⟩
  have B2 := Lib.hid (chain (chain_alloc B1.out _) hb)
  have hXB : w2.heap[w1.heap.size]? = some (.cells #[.int .i64 K.l.k, .int .i64 K.l.o, .int .i64 K.l.s, .int .i64 K.l.t, .int .i64 K.i.c, .int .i64 K.i.h, .int .i64 K.i.x, .int .i64 (ch : Int), .complex .f64 (fl cx) (fl cy)] 146 (0, 0)) := (hb.block w1.heap.size (by simp)).trans (heap_alloc_new w1 _)
  have y0 : w2.cell? ⟨w1.heap.size, 0, none⟩ = some (.int .i64 K.l.k) := by rw [Lib.cell_of_heap hXB]; rfl
  have y1 : w2.cell? ⟨w1.heap.size, 1, none⟩ = some (.int .i64 K.l.o) := by rw [Lib.cell_of_heap hXB]; rfl
  have y2 : w2.cell? ⟨w1.heap.size, 2, none⟩ = some (.int .i64 K.l.s) := by rw [Lib.cell_of_heap hXB]; rfl
  have y3 : w2.cell? ⟨w1.heap.size, 3, none⟩ = some (.int .i64 K.l.t) := by rw [Lib.cell_of_heap hXB]; rfl
  have y4 : w2.cell? ⟨w1.heap.size, 4, none⟩ = some (.int .i64 K.i.c) := by rw [Lib.cell_of_heap hXB]; rfl
  have y5 : w2.cell? ⟨w1.heap.size, 5, none⟩ = some (.int .i64 K.i.h) := by rw [Lib.cell_of_heap hXB]; rfl
  have y6 : w2.cell? ⟨w1.heap.size, 6, none⟩ = some (.int .i64 K.i.x) := by rw [Lib.cell_of_heap hXB]; rfl
  have y7 : w2.cell? ⟨w1.heap.size, 7, none⟩ = some (.int .i64 (ch : Int)) := by rw [Lib.cell_of_heap hXB]; rfl
  have y8 : w2.cell? ⟨w1.heap.size, 8, none⟩ = some (.complex .f64 (fl cx) (fl cy)) := by rw [Lib.cell_of_heap hXB]; rfl
  clear hb hXB c0 c1 c2 c3 lw1
  by_cases k1 : K.l.k = 1
  · have e1 : (K.l.k == 1) = true := by rw [k1]; rfl
    obtain ⟨x1, x2, x3, x4⟩ := HX12.out k1
    obtain ⟨m, hm⟩ : ∃ m : Nat, K.l.s = m := ⟨K.l.s.toNat, by omega⟩
    obtain ⟨cn, hcn⟩ : ∃ cn : Nat, K.i.c = cn := ⟨K.i.c.toNat, by omega⟩
    have hT := HTO.out
    rw [if_pos k1, hm, show (m : Int).toNat = m from rfl, show K.i.c.toNat = cn by rw [hcn]; rfl] at hT
    have HT := Lib.hid hT
    have HO : Hid (∀ w, Calls Tryz.prog 108 #[.agg #[.int .i64 K.l.k, .int .i64 K.l.o, .int .i64 K.l.s, .int .i64 K.l.t, .int .i64 K.i.c, .int .i64 K.i.h, .int .i64 K.i.x, .int .i64 (ch : Int), .complex .f64 (fl cx) (fl cy)], .int .i64 a] w (RowNew tcells (termsK K p) w)) := fun w => by
      have := ofWindows_new K.l.k K.l.o K.l.t (ch : Int) K.i m cx cy cn a w (by omega) x3 x4 hcn (by omega) (by omega) (by omega) sm0 sm1
      rw [HT.out, hm]
      exact this
    clear hT hm hcn k1 x1 x2 x3 x4
    go_wp2_with fail
    refine (HO.out _).mono ?_
    rintro e w3 ⟨A3, k3, n3, rfl, h1, h2, hb, h4, h5, h6⟩
    have H1 := Lib.hid h1; have H2 := Lib.hid h2; have HB := Lib.hid (chain B2.out hb); have H4 := Lib.hid h4; have H5 := Lib.hid h5
    have NEW : Hid (∀ a, A3 = some a → w.heap.size ≤ a.block) := fun a ha => Nat.le_trans B2.out.size (h6 a ha)
    clear h1 h2 hb h4 h5 h6
    go_wp2_with fail
    go_ret
    exact ⟨A3, k3, n3, rfl, H1.out, H2.out, HB.out, H4.out, H5.out, NEW.out⟩
  · have e1 : (K.l.k == 1) = false := by simpa using k1
    by_cases k2 : K.l.k = 2
    · have e2 : (K.l.k == 2) = true := by rw [k2]; rfl
      have hT := HTO.out
      rw [if_neg k1, if_pos k2] at hT
      have HT := Lib.hid hT
      clear hT k1 k2
      go_wp2_with fail
      go_ret
      refine ⟨some ⟨w2.heap.size, 0, none⟩, 1, 1, rfl, by rw [HT.out]; rfl, ?_, chain_alloc B2.out _, Nat.le_refl _, by decide, fun a ha => by cases ha; exact B2.out.size⟩
      rw [HT.out]
      exact rg_block (heap_alloc_new w2 _) rfl
    · have e2 : (K.l.k == 2) = false := by simpa using k2
      by_cases k4 : K.l.k = 4
      · have e4 : (K.l.k == 4) = true := by rw [k4]; rfl
        obtain ⟨m, hm⟩ : ∃ m : Nat, K.l.s = m := ⟨0, HS4.out k4⟩
        obtain ⟨q, hq⟩ : ∃ q : Nat, K.i.n = q := ⟨K.i.n.toNat, by omega⟩
        have hT := HTO.out
        rw [if_neg k1, if_neg k2, if_pos k4, hq, show (q : Int).toNat = q from rfl] at hT
        have HT := Lib.hid hT
        have HO : Hid (∀ w, Calls Tryz.prog 109 #[.agg #[.int .i64 K.l.k, .int .i64 K.l.o, .int .i64 K.l.s, .int .i64 K.l.t, .int .i64 K.i.c, .int .i64 K.i.h, .int .i64 K.i.x, .int .i64 (ch : Int), .complex .f64 (fl cx) (fl cy)], .int .i64 a] w (RowNew tcells (termsK K p) w)) := fun w => by
          have := ofAll_new K.l.k K.l.o K.l.t (ch : Int) K.i m cx cy q a w (by rw [HN.out, hq]) (by omega) (by omega) sm0 sm1
          rw [HT.out, hm]
          exact this
        clear hT hm hq k1 k2 k4
        go_wp2_with fail
        refine (HO.out _).mono ?_
        rintro e w3 ⟨A3, k3, n3, rfl, h1, h2, hb, h4, h5, h6⟩
        have H1 := Lib.hid h1; have H2 := Lib.hid h2; have HB := Lib.hid (chain B2.out hb); have H4 := Lib.hid h4; have H5 := Lib.hid h5
        have NEW : Hid (∀ a, A3 = some a → w.heap.size ≤ a.block) := fun a ha => Nat.le_trans B2.out.size (h6 a ha)
        clear h1 h2 hb h4 h5 h6
        go_wp2_with fail
        go_ret
        exact ⟨A3, k3, n3, rfl, H1.out, H2.out, HB.out, H4.out, H5.out, NEW.out⟩
      · have e4 : (K.l.k == 4) = false := by simpa using k4
        have hT := HTO.out
        rw [if_neg k1, if_neg k2, if_neg k4] at hT
        have HT := Lib.hid hT
        clear hT k1 k2 k4
        go_wp2_with fail
        go_ret
        exact ⟨none, 0, 0, rfl, by rw [HT.out]; rfl, by rw [HT.out]; exact Rg.nil _ _ _, B2.out, Nat.le_refl _, Nat.zero_le _, fun a ha => by cases ha⟩
theorem terms_some (c h x : Int) (A : Option Addr) (cA n : Nat) (ls : List Ly) (i p : Int) (K : Kn) (w : World) (hx : Rl w A ls) (ln : n = ls.length) (hn : n ≤ 1000) (hK : K = atN ⟨c, h, x, ls⟩ i) (hh : hasK K p = true) :
    Calls Tryz.prog 101 #[.agg #[.int .i64 c, .int .i64 h, .int .i64 x, .slice A n cA], .int .i64 i, .int .i64 p] w (RowTo tcells (termsK K p) w) := by
  exact (terms_snew c h x A cA n ls i p K w hx ln hn hK hh).mono fun _ _ h => h.row

set_option maxHeartbeats 2000000 in
set_option maxRecDepth 100000 in
theorem parts_some (c h x : Int) (A : Option Addr) (cA n : Nat) (ls : List Ly) (i p : Int) (K : Kn) (w : World) (hx : Rl w A ls) (ln : n = ls.length) (hn : n ≤ 1000) (hK : K = atN ⟨c, h, x, ls⟩ i) (hh : hasK K p = true) :
    Calls Tryz.prog 104 #[.agg #[.int .i64 c, .int .i64 h, .int .i64 x, .slice A n cA], .int .i64 i, .int .i64 p] w (RowTo icells (partsK K p) w) := by
  have hh2 := hh
  rw [hK] at hh2
  obtain ⟨hE, j, l, hij, hl, hat, hly, hr, hok⟩ := has_layer hh2
  rw [← hK] at hat
  have hu : K.u.r = true := by rw [hat]; exact out_right hr hly hok
  have hir : K.i.r = true := by rw [hat]; exact hr
  obtain ⟨u1, u2, u3, u4, u5, u6, u7⟩ := right_bd hu
  obtain ⟨r1, r2, r3, r4, r5, r6, r7⟩ := right_bd hir
  obtain ⟨⟨ch0, ch1⟩, ⟨ro0, ro1⟩, ⟨co0, co1⟩⟩ := of_bd (s := K.u) hh
  have hkind : K.l.k = 1 ∨ K.l.k = 2 ∨ K.l.k = 3 ∨ K.l.k = 4 := by rw [hat]; exact ly_kind hly
  have hrest : lyB K.l = true := by rw [hat]; exact hly
  have hok2 : okS K.i K.l = true := by rw [hat]; exact hok
  obtain ⟨st, hst⟩ : ∃ st, st = (if K.l.k = 3 then K.l.s else K.l.t) := ⟨_, rfl⟩
  have hst0 : 0 ≤ st ∧ st ≤ 999999 ∧ (K.l.k = 3 → st = K.l.s ∧ st ≤ 12) := by
    rcases hkind with k | k | k | k
    · rw [hst, if_neg (by omega)]
      have ho2 := hok2
      rw [(out_conv K.i k).2] at ho2
      obtain ⟨_, _, _, _, _, t1, t2, _⟩ := convB_out ho2
      exact ⟨by omega, by omega, fun h => absurd h (by omega)⟩
    · rw [hst, if_neg (by omega)]
      have := hrest
      unfold lyB restB at this
      rw [if_neg (by omega), if_neg (by omega), if_neg (by omega)] at this
      simp at this
      exact ⟨by omega, by omega, fun h => absurd h (by omega)⟩
    · rw [hst, if_pos k]
      have ho2 := hok2
      rw [(out_pool K.i k).2] at ho2
      obtain ⟨_, t1, t2, _⟩ := poolB_out ho2
      have h12 : K.l.s ≤ K.i.h := by
        by_cases hle : K.l.s ≤ K.i.h
        · exact hle
        · rw [Int.emod_eq_of_lt (by omega) (by omega)] at t2; omega
      exact ⟨by omega, by omega, fun _ => ⟨rfl, by omega⟩⟩
    · rw [hst, if_neg (by omega)]
      have := hrest
      unfold lyB restB at this
      rw [if_neg (by omega), if_neg (by omega), if_pos k] at this
      simp at this
      exact ⟨by omega, by omega, fun h => absurd h (by omega)⟩
  obtain ⟨st0, st1, st2⟩ := hst0
  have m1 := mul_bd co0 (show colI K.u.c K.u.h K.u.x p ≤ 12 by omega) st0 st1
  have m2 := mul_bd ro0 (show rowI K.u.c K.u.h K.u.x p ≤ 12 by omega) st0 st1
  obtain ⟨ch, hch⟩ : ∃ ch : Nat, chI K.u.c K.u.h K.u.x p = ch := ⟨(chI K.u.c K.u.h K.u.x p).toNat, by omega⟩
  obtain ⟨cx, hcx⟩ : ∃ cx : Nat, colI K.u.c K.u.h K.u.x p * st = cx := ⟨(colI K.u.c K.u.h K.u.x p * st).toNat, by omega⟩
  obtain ⟨cy, hcy⟩ : ∃ cy : Nat, rowI K.u.c K.u.h K.u.x p * st = cy := ⟨(rowI K.u.c K.u.h K.u.x p * st).toNat, by omega⟩
  have HF : Hid (∀ w, Rl w A ls → Calls Tryz.prog 106 #[.agg #[.int .i64 c, .int .i64 h, .int .i64 x, .slice A n cA], .int .i64 i, .int .i64 p] w fun e w' => e = .returned (.agg #[.int .i64 K.l.k, .int .i64 K.l.o, .int .i64 K.l.s, .int .i64 K.l.t, .int .i64 K.i.c, .int .i64 K.i.h, .int .i64 K.i.x, .int .i64 (ch : Int), .complex .f64 (fl cx) (fl cy)]) ∧ Below w.heap.size w w') := fun w hx =>
    find_some c h x A cA n ls i p K st ch cx cy w hx ln hn hK hh hst hch hcx hcy (by omega) (by omega)
  have HTO : Hid (partsK K p = if K.l.k = 3 then winL K.i (ch : Int) (cy : Int) (cx : Int) K.l.s.toNat else []) := by
    show _ = _
    unfold partsK
    by_cases k3 : K.l.k = 3
    · rw [if_pos k3, if_pos k3, hch, ← (st2 k3).1, hcx, hcy]
    · rw [if_neg k3, if_neg k3]
  have X12 : K.l.k = 3 → 0 ≤ K.l.s ∧ K.l.s ≤ 12 ∧ cx ≤ 150 ∧ cy ≤ 150 := fun k3 => by
    have z1 := mul_bd co0 (show colI K.u.c K.u.h K.u.x p ≤ 11 by omega) st0 (st2 k3).2
    have z2 := mul_bd ro0 (show rowI K.u.c K.u.h K.u.x p ≤ 11 by omega) st0 (st2 k3).2
    have := (st2 k3)
    exact ⟨by omega, by omega, by omega, by omega⟩
  have HX12 := Lib.hid X12
  clear X12 hst hch hcx hcy m1 m2 st0 st1 st2 hrest hu hir u1 u2 u3 u4 u5 u6 u7 r1 r2 r3 r4 r5 r6 r7 ch0 ch1 ro0 ro1 co0 co1 hat hly hr hok hl hij hE hh2 hh hK hkind hok2
  have hcs : ∀ (a : Addr) (k : FloatKind) (re im : Nat) (m : Mode) (w : World), (store a (.complex k re im) m).run Tryz.prog w = stored Tryz.prog w a (.complex k re im) m := fun a k re im m w => run_store Tryz.prog w a _ m rfl
  have hmf : ∀ (fn : Fn) (first cap : Array Value) (w : World), (Instr.makeFunc fn first cap).run Tryz.prog w = .ok (.func fn first cap) w := fun _ _ _ _ => rfl
  have HX := Lib.hid hx
  clear hx ln
  go_enter Tryz.func104, Tryz.ntmps104
  go_wp2_with fail
  refine (HF.out _ (HX.out.below ((Below.refl _ w).alloc (Nat.le_refl _) _))).mono ?_
  rintro e w1 ⟨rfl, hb⟩
  have B1 := Lib.hid (chain ((Below.refl w.heap.size w).alloc (Nat.le_refl _) _) hb)
  clear hb
  by_cases k3 : K.l.k = 3
  · have e3 : (K.l.k != 3) = false := by rw [k3]; rfl
    obtain ⟨x1, x2, x3, x4⟩ := HX12.out k3
    obtain ⟨m, hm⟩ : ∃ m : Nat, K.l.s = m := ⟨K.l.s.toNat, by omega⟩
    have hT := HTO.out
    rw [if_pos k3, hm, show (m : Int).toNat = m from rfl] at hT
    have HT := Lib.hid hT
    obtain ⟨pb, hpb⟩ : ∃ pb, pb = w1.heap.size + 1 := ⟨_, rfl⟩
    have hp : w.heap.size ≤ pb := by have := B1.out.size; omega
    have HO : Hid (∀ w', PJ w pb [] w' → Calls Tryz.prog 110 #[.agg #[.int .i64 K.l.k, .int .i64 K.l.o, .int .i64 K.l.s, .int .i64 K.l.t, .int .i64 K.i.c, .int .i64 K.i.h, .int .i64 K.i.x, .int .i64 (ch : Int), .complex .f64 (fl cx) (fl cy)], .int .i64 (ch : Int), .func (.func 111) #[] #[.pointer (some ⟨pb, 0, none⟩)]] w' fun e w'' => e = .returned (.tuple #[]) ∧ PJ w pb (partsK K p) w'') := fun w' hj => by
      have := window_any 111 #[.pointer (some ⟨pb, 0, none⟩)] (PJ w pb) (by intro args w; go_simp) (fun xs x w1 hl hj => parts1_any w pb hp xs x w1 hl hj) (fun xs w1 w2 h1 h2 => h1.below h2) K.l.k K.l.o K.l.t (ch : Int) K.i m cx cy (ch : Int) [] w' hj (by omega) x3 x4 (by simp)
      rw [hm, HT.out]
      exact this.mono fun e w2 hh => ⟨hh.1, hh.2.1⟩
    have J0 : Hid (PJ w pb [] ((w1.alloc (.cells #[.int .i64 K.l.k, .int .i64 K.l.o, .int .i64 K.l.s, .int .i64 K.l.t, .int .i64 K.i.c, .int .i64 K.i.h, .int .i64 K.i.x, .int .i64 (ch : Int), .complex .f64 (fl cx) (fl cy)] 146)).alloc (.cells #[.slice none 0 0] 36))) := by
      refine ⟨⟨.slice none 0 0, ?_, ⟨rfl, .inl ⟨rfl, rfl⟩⟩⟩, chain_alloc (chain_alloc B1.out _) _⟩
      have := heap_alloc_new (w1.alloc (.cells #[.int .i64 K.l.k, .int .i64 K.l.o, .int .i64 K.l.s, .int .i64 K.l.t, .int .i64 K.i.c, .int .i64 K.i.h, .int .i64 K.i.x, .int .i64 (ch : Int), .complex .f64 (fl cx) (fl cy)] 146)) (.cells #[.slice none 0 0] 36)
      rw [show (w1.alloc _).heap.size = w1.heap.size + 1 by simp, ← hpb] at this
      exact this
    clear hT hm k3 x1 x2 x3 x4
    go_wp2_with fail
    rw [← hpb]
    clear hpb
    refine (HO.out _ J0.out).mono ?_
    rintro e w3 ⟨rfl, ⟨v, hV, hO⟩, hB⟩
    obtain ⟨A3, c3, hv, hd1, hd2, hd3, hd4⟩ := own_cap icells_len (by decide) hO
    subst hv
    have D2 := Lib.hid hd2; have D3 := Lib.hid hd3; have D4 := Lib.hid hd4; have B := Lib.hid hB
    have cv := hV.cell
    clear hV hO hB hd1 hd2 hd3 hd4
    go_wp2_with fail
    go_ret
    exact ⟨A3, c3, _, rfl, rfl, D2.out, B.out, D3.out, D4.out⟩
  · have e3 : (K.l.k != 3) = true := by simpa using k3
    have hT := HTO.out
    rw [if_neg k3] at hT
    have HT := Lib.hid hT
    clear hT k3
    go_wp2_with fail
    go_ret
    exact ⟨none, 0, 0, rfl, by rw [HT.out]; rfl, by rw [HT.out]; exact Rg.nil _ _ _, chain_alloc B1.out _, Nat.le_refl _, Nat.zero_le _⟩

/-- Terms and Parts, of any network, layer and place. -/
theorem terms_any (c h x : Int) (A : Option Addr) (cA n : Nat) (ls : List Ly) (i p : Int) (ts : List Tm) (hts : termsN ⟨c, h, x, ls⟩ i p = ts) (w : World) (hx : Rl w A ls) (ln : n = ls.length) (hn : n ≤ 1000) :
    Calls Tryz.prog 101 #[.agg #[.int .i64 c, .int .i64 h, .int .i64 x, .slice A n cA], .int .i64 i, .int .i64 p] w (RowTo tcells ts w) := by
  subst hts
  cases hh : hasK (atN ⟨c, h, x, ls⟩ i) p
  · refine (terms_none c h x A cA n ls i p w hx ln hn hh).mono ?_
    rintro e w' ⟨rfl, hb⟩
    have e0 : termsN ⟨c, h, x, ls⟩ i p = [] := if_neg (by rw [hh]; decide)
    exact ⟨none, 0, 0, rfl, by rw [e0]; rfl, by rw [e0]; exact Rg.nil _ _ _, hb, Nat.le_refl _, Nat.zero_le _⟩
  · rw [show termsN ⟨c, h, x, ls⟩ i p = termsK (atN ⟨c, h, x, ls⟩ i) p from if_pos hh]
    exact terms_some c h x A cA n ls i p _ w hx ln hn rfl hh
theorem terms_new (c h x : Int) (A : Option Addr) (cA n : Nat) (ls : List Ly) (i p : Int) (ts : List Tm) (hts : termsN ⟨c, h, x, ls⟩ i p = ts) (w : World) (hx : Rl w A ls) (ln : n = ls.length) (hn : n ≤ 1000) :
    Calls Tryz.prog 101 #[.agg #[.int .i64 c, .int .i64 h, .int .i64 x, .slice A n cA], .int .i64 i, .int .i64 p] w (RowNew tcells ts w) := by
  subst hts
  cases hh : hasK (atN ⟨c, h, x, ls⟩ i) p
  · refine (terms_none c h x A cA n ls i p w hx ln hn hh).mono ?_
    rintro e w' ⟨rfl, hb⟩
    have e0 : termsN ⟨c, h, x, ls⟩ i p = [] := if_neg (by rw [hh]; decide)
    exact ⟨none, 0, 0, rfl, by rw [e0]; rfl, by rw [e0]; exact Rg.nil _ _ _, hb, Nat.le_refl _, Nat.zero_le _, fun a ha => by cases ha⟩
  · rw [show termsN ⟨c, h, x, ls⟩ i p = termsK (atN ⟨c, h, x, ls⟩ i) p from if_pos hh]
    exact terms_snew c h x A cA n ls i p _ w hx ln hn rfl hh
theorem parts_any (c h x : Int) (A : Option Addr) (cA n : Nat) (ls : List Ly) (i p : Int) (xs : List Int) (hxs : partsN ⟨c, h, x, ls⟩ i p = xs) (w : World) (hx : Rl w A ls) (ln : n = ls.length) (hn : n ≤ 1000) :
    Calls Tryz.prog 104 #[.agg #[.int .i64 c, .int .i64 h, .int .i64 x, .slice A n cA], .int .i64 i, .int .i64 p] w (RowTo icells xs w) := by
  subst hxs
  cases hh : hasK (atN ⟨c, h, x, ls⟩ i) p
  · refine (parts_none c h x A cA n ls i p w hx ln hn hh).mono ?_
    rintro e w' ⟨rfl, hb⟩
    have e0 : partsN ⟨c, h, x, ls⟩ i p = [] := if_neg (by rw [hh]; decide)
    exact ⟨none, 0, 0, rfl, by rw [e0]; rfl, by rw [e0]; exact Rg.nil _ _ _, hb, Nat.le_refl _, Nat.zero_le _⟩
  · rw [show partsN ⟨c, h, x, ls⟩ i p = partsK (atN ⟨c, h, x, ls⟩ i) p from if_pos hh]
    exact parts_some c h x A cA n ls i p _ w hx ln hn rfl hh

end Go.Proofs.YtklgjhldebdegaaGreat

namespace Go.Proofs.YtklgjhldebdegaaGreat
open Go.RowKit

/-- Is there such a layer of a right network? -/
def isB (N : Nt) (i : Int) : Bool := decide (errN N = 0 ∧ 0 ≤ i ∧ i < (N.ls.length : Int))
theorem isB_yes {N : Nt} {i : Int} (h : errN N = 0 ∧ 0 ≤ i ∧ i < (N.ls.length : Int)) : isB N i = true := decide_eq_true h
theorem isB_out {N : Nt} {i : Int} (h : isB N i = true) : errN N = 0 ∧ 0 ≤ i ∧ i < (N.ls.length : Int) := of_decide_eq_true h
end Go.Proofs.YtklgjhldebdegaaGreat

namespace Go.Proofs.YtklgjhldebdegaaGreat

/-- A layer of a right network. -/
def Good (K : Kn) : Prop := lyB K.l = true ∧ K.i.r = true ∧ okS K.i K.l = true ∧ K.u = outS K.i K.l ∧ 0 ≤ K.a ∧ K.a ≤ 512
theorem good_at {c h x : Int} {ls : List Ly} {i : Int} (e : isB ⟨c, h, x, ls⟩ i = true) : Good (atN ⟨c, h, x, ls⟩ i) := by
  obtain ⟨hE, h0, h1⟩ := isB_out e
  obtain ⟨j, rfl⟩ : ∃ j : Nat, i = j := ⟨i.toNat, by omega⟩
  have hl := get_ly (show j < ls.length by have : (j : Int) < (ls.length : Int) := h1; omega)
  obtain ⟨a, b, d⟩ := layer_facts hE hl
  rw [at_some hE hl]
  exact ⟨a, b, d, rfl, (sum_all hE j).1, (sum_all hE j).2⟩
theorem Good.kind {K : Kn} (g : Good K) : K.l.k = 1 ∨ K.l.k = 2 ∨ K.l.k = 3 ∨ K.l.k = 4 := ly_kind g.1
theorem Good.ur {K : Kn} (g : Good K) : K.u.r = true := by rw [g.2.2.2.1]; exact out_right g.2.1 g.1 g.2.2.1
theorem Good.conv {K : Kn} (g : Good K) (k : K.l.k = 1) :
    1 ≤ K.l.o ∧ K.l.o ≤ 8 ∧ 1 ≤ K.l.s ∧ K.l.s ≤ K.i.h ∧ K.l.s ≤ K.i.x ∧ 1 ≤ K.l.t ∧ K.l.t ≤ 12 ∧ K.u = ⟨K.l.o, (K.i.h - K.l.s) / K.l.t + 1, (K.i.x - K.l.s) / K.l.t + 1⟩ := by
  have ho := g.2.2.1
  obtain ⟨e1, e2⟩ := out_conv K.i k
  rw [e2] at ho
  obtain ⟨_, o1, o2, s1, s2, t1, t2, _⟩ := convB_out ho
  obtain ⟨c1, c2, c3⟩ := conv_is ho
  refine ⟨o1, o2, s1, by omega, by omega, t1, t2, ?_⟩
  rw [g.2.2.2.1, e1, c1, c2, c3]
theorem Good.square {K : Kn} (g : Good K) (k : K.l.k = 2) : K.u = K.i := by rw [g.2.2.2.1, (out_square K.i k).1]
theorem Good.pool {K : Kn} (g : Good K) (k : K.l.k = 3) :
    1 ≤ K.l.s ∧ K.i.h % K.l.s = 0 ∧ K.i.x % K.l.s = 0 ∧ K.u = ⟨K.i.c, K.i.h / K.l.s, K.i.x / K.l.s⟩ := by
  have ho := g.2.2.1
  obtain ⟨e1, e2⟩ := out_pool K.i k
  rw [e2] at ho
  obtain ⟨_, s1, d1, d2⟩ := poolB_out ho
  obtain ⟨c1, c2, c3⟩ := pool_is ho
  refine ⟨s1, d1, d2, ?_⟩
  rw [g.2.2.2.1, e1, c1, c2, c3]
theorem Good.dense {K : Kn} (g : Good K) (k : K.l.k = 4) : 1 ≤ K.l.o ∧ K.l.o ≤ 8 ∧ K.u = ⟨K.l.o, 1, 1⟩ := by
  have ho := g.2.2.1
  obtain ⟨e1, e2⟩ := out_dense K.i k
  rw [e2] at ho
  obtain ⟨b1, b2, _⟩ := rightB_out ho
  exact ⟨b1, b2, by rw [g.2.2.2.1, e1]⟩
theorem has_bd {K : Kn} {p : Int} (h : hasK K p = true) : 0 ≤ p ∧ p < K.u.n := hasB_out h
theorem has_yes {K : Kn} {p : Int} (h0 : 0 ≤ p) (h1 : p < K.u.n) : hasK K p = true := hasB_yes h0 h1
theorem Sh.n_eq {s : Sh} (h : s.r = true) : s.n = s.c * s.h * s.x := sizeI_yes h

/-! ### Windows -/
theorem win_bd {H s t y : Int} (t1 : 1 ≤ t) (y1 : y < (H - s) / t + 1) : y * t + s ≤ H := by
  have a : y * t ≤ (H - s) / t * t := Int.mul_le_mul_of_nonneg_right (by omega) (by omega)
  have b : (H - s) / t * t ≤ H - s := Int.ediv_mul_le _ (by omega)
  omega
theorem conv_in {K : Kn} (g : Good K) (k : K.l.k = 1) {p : Int} (hp : hasK K p = true) {ci r q : Nat} (hc : (ci : Int) < K.i.c) (hr : (r : Int) < K.l.s) (hq : (q : Int) < K.l.s) :
    insideB K.i.c K.i.h K.i.x ci (rowI K.u.c K.u.h K.u.x p * K.l.t + r) (colI K.u.c K.u.h K.u.x p * K.l.t + q) = true := by
  obtain ⟨o1, o2, s1, s2, s3, t1, t2, hu⟩ := g.conv k
  obtain ⟨_, ⟨r0, r1⟩, ⟨q0, q1⟩⟩ := of_bd (s := K.u) hp
  have hh : K.u.h = (K.i.h - K.l.s) / K.l.t + 1 := by rw [hu]
  have hx : K.u.x = (K.i.x - K.l.s) / K.l.t + 1 := by rw [hu]
  have a := win_bd (H := K.i.h) (s := K.l.s) t1 (Int.lt_of_lt_of_le r1 (Int.le_of_eq hh))
  have b := win_bd (H := K.i.x) (s := K.l.s) t1 (Int.lt_of_lt_of_le q1 (Int.le_of_eq hx))
  have c := Int.mul_nonneg r0 (show 0 ≤ K.l.t by omega)
  have d := Int.mul_nonneg q0 (show 0 ≤ K.l.t by omega)
  exact insideB_yes g.2.1 ⟨by omega, hc, by omega, by omega, by omega, by omega⟩
theorem win_mem {s : Sh} {c y x : Int} {m : Nat} {v : Int} : v ∈ winL s c y x m ↔ ∃ r q : Nat, r < m ∧ q < m ∧ v = atI s.c s.h s.x c (y + r) (x + q) := by
  unfold winL winR rowL
  simp only [List.mem_flatMap, List.mem_range, List.mem_map]
  constructor
  · rintro ⟨r, hr, q, hq, rfl⟩; exact ⟨r, q, hr, hq, rfl⟩
  · rintro ⟨r, q, hr, hq, rfl⟩; exact ⟨r, hr, q, hq, rfl⟩
theorem chan_mem {s : Sh} {y x : Int} {m cs : Nat} {v : Int} : v ∈ chanL s y x m cs ↔ ∃ c r q : Nat, c < cs ∧ r < m ∧ q < m ∧ v = atI s.c s.h s.x c (y + r) (x + q) := by
  unfold chanL
  simp only [List.mem_flatMap, List.mem_range, win_mem]
  constructor
  · rintro ⟨c, hc, r, q, hr, hq, rfl⟩; exact ⟨c, r, q, hc, hr, hq, rfl⟩
  · rintro ⟨c, r, q, hc, hr, hq, rfl⟩; exact ⟨c, hc, r, q, hr, hq, rfl⟩
theorem at_in_bd {c h x k y z : Int} (e : insideB c h x k y z = true) : 0 ≤ atI c h x k y z ∧ atI c h x k y z < sizeI c h x := by
  rw [atI_yes e]
  exact hasB_out (at_of e).1
theorem seq_mem : ∀ (xs : List Int) (b : Int) (t : Tm), t ∈ seqT b xs → ∃ (j : Nat) (x : Int), j < xs.length ∧ xs[j]? = some x ∧ t = ⟨x, b + j⟩
  | [], _, _, h => by simp [seqT] at h
  | y :: ys, b, t, h => by
    simp only [seqT, List.mem_cons] at h
    rcases h with rfl | h
    · exact ⟨0, y, by simp, rfl, by simp⟩
    · obtain ⟨j, x, h1, h2, h3⟩ := seq_mem ys (b + 1) t h
      exact ⟨j + 1, x, by simp; exact h1, by simpa using h2, by rw [h3, show b + 1 + (j : Int) = b + ((j + 1 : Nat) : Int) by omega]⟩

/-! ### How many -/
def perK (K : Kn) : Int := if K.l.k = 1 then K.i.c * (K.l.s * K.l.s) else if K.l.k = 2 then 1 else if K.l.k = 4 then K.i.n else 0
theorem terms_len {K : Kn} (g : Good K) (p : Int) : ((termsK K p).length : Int) = perK K := by
  obtain ⟨r1, _⟩ := right_bd g.2.1
  have nb := size_bd K.i
  unfold termsK perK
  by_cases k1 : K.l.k = 1
  · obtain ⟨_, _, s1, _⟩ := g.conv k1
    rw [if_pos k1, if_pos k1, seq_len, chan_len, Int.natCast_mul, Int.natCast_mul, Int.toNat_of_nonneg (by omega), Int.toNat_of_nonneg (by omega)]
  · rw [if_neg k1, if_neg k1]
    by_cases k2 : K.l.k = 2
    · rw [if_pos k2, if_pos k2]; rfl
    · rw [if_neg k2, if_neg k2]
      by_cases k4 : K.l.k = 4
      · rw [if_pos k4, if_pos k4, seq_len, num_len, Int.toNat_of_nonneg (by omega)]
      · rw [if_neg k4, if_neg k4]; rfl
theorem per_all {K : Kn} (g : Good K) : K.u.n * perK K = K.p := by
  unfold perK Kn.p
  by_cases k1 : K.l.k = 1
  · obtain ⟨_, _, _, _, _, _, _, hu⟩ := g.conv k1
    have hc : K.u.c = K.l.o := by rw [hu]
    rw [if_pos k1, p_conv _ _ k1, w_conv _ k1, Sh.n_eq g.ur, hc]
    ac_rfl
  · rw [if_neg k1]
    by_cases k2 : K.l.k = 2
    · rw [if_pos k2, p_square _ _ k2, g.square k2]; omega
    · rw [if_neg k2]
      by_cases k4 : K.l.k = 4
      · obtain ⟨_, _, hu⟩ := g.dense k4
        have e := Sh.n_eq g.ur
        rw [show K.u.c = K.l.o by rw [hu], show K.u.h = 1 by rw [hu], show K.u.x = 1 by rw [hu]] at e
        rw [if_pos k4, p_dense _ _ k4, w_dense _ k4, e]
        simp
      · rw [if_neg k4, p_none _ _ k1 k2 k4]; simp
theorem per_bd {K : Kn} (g : Good K) : 0 ≤ perK K ∧ perK K ≤ 1152 := by
  obtain ⟨r1, r2, r3, r4, r5, r6, _⟩ := right_bd g.2.1
  have nb := size_bd K.i
  unfold perK
  by_cases k1 : K.l.k = 1
  · obtain ⟨_, _, s1, s2, _⟩ := g.conv k1
    rw [if_pos k1]
    have a := mul_bd (show 0 ≤ K.l.s by omega) (show K.l.s ≤ 12 by omega) (show 0 ≤ K.l.s by omega) (show K.l.s ≤ 12 by omega)
    have b := mul_bd (show 0 ≤ K.i.c by omega) r2 a.1 a.2
    omega
  · rw [if_neg k1]
    by_cases k2 : K.l.k = 2
    · rw [if_pos k2]; omega
    · rw [if_neg k2]
      by_cases k4 : K.l.k = 4
      · rw [if_pos k4]; omega
      · rw [if_neg k4]; omega

/-! ### Of which places -/
theorem conv_w {K : Kn} (k : K.l.k = 1) : K.w = K.l.o * (K.i.c * (K.l.s * K.l.s)) := by
  unfold Kn.w; rw [w_conv _ k]; ac_rfl
theorem seg_lt {a L o c j : Int} (hL : 0 ≤ L) (hc : c < o) (hj : j < L) : a + c * L + j < a + o * L := by
  have : (c + 1) * L ≤ o * L := Int.mul_le_mul_of_nonneg_right (by omega) hL
  rw [Int.add_mul, Int.one_mul] at this
  omega
theorem terms_rng {K : Kn} (g : Good K) {p : Int} (hp : hasK K p = true) : ∀ t ∈ termsK K p, 0 ≤ t.x ∧ t.x < K.i.n ∧ (K.w = 0 → t.w = -1) ∧ (0 < K.w → K.a ≤ t.w ∧ t.w < K.a + K.w) := by
  obtain ⟨r1, _⟩ := right_bd g.2.1
  obtain ⟨p0, p1⟩ := has_bd hp
  intro t ht
  unfold termsK at ht
  by_cases k1 : K.l.k = 1
  · obtain ⟨o1, o2, s1, s2, s3, t1, t2, hu⟩ := g.conv k1
    obtain ⟨⟨c0, c1⟩, _, _⟩ := of_bd (s := K.u) hp
    rw [if_pos k1] at ht
    obtain ⟨j, v, hj, hv, rfl⟩ := seq_mem _ _ _ ht
    obtain ⟨ci, r, q, hc, hr, hq, e⟩ := chan_mem.1 (List.mem_of_getElem? hv)
    have hi := conv_in g k1 hp (ci := ci) (r := r) (q := q) (by omega) (by omega) (by omega)
    obtain ⟨v0, v1⟩ := at_in_bd hi
    rw [chan_len] at hj
    have hj2 : (j : Int) < K.i.c * (K.l.s * K.l.s) := by
      have : (j : Int) < ((K.i.c.toNat * (K.l.s.toNat * K.l.s.toNat) : Nat) : Int) := by omega
      rwa [Int.natCast_mul, Int.natCast_mul, Int.toNat_of_nonneg (by omega), Int.toNat_of_nonneg (by omega)] at this
    have hch : chI K.u.c K.u.h K.u.x p < K.l.o := Int.lt_of_lt_of_le c1 (Int.le_of_eq (by rw [hu]))
    have e2 : chI K.u.c K.u.h K.u.x p * K.i.c * K.l.s * K.l.s = chI K.u.c K.u.h K.u.x p * (K.i.c * (K.l.s * K.l.s)) := by ac_rfl
    have L0 : 0 ≤ K.i.c * (K.l.s * K.l.s) := Int.mul_nonneg (by omega) (Int.mul_nonneg (by omega) (by omega))
    have m0 := Int.mul_nonneg c0 L0
    refine ⟨by show 0 ≤ v; rw [e]; exact v0, by show v < _; rw [e]; exact v1, fun h0 => ?_, fun _ => ⟨?_, ?_⟩⟩
    · exfalso
      rw [conv_w k1] at h0
      have : 0 < K.l.o * (K.i.c * (K.l.s * K.l.s)) := Int.mul_pos (by omega) (Int.mul_pos (by omega) (Int.mul_pos (by omega) (by omega)))
      omega
    · show K.a ≤ K.a + _ + (j : Int)
      rw [e2]; omega
    · show K.a + _ + (j : Int) < K.a + K.w
      rw [e2, conv_w k1]
      exact seg_lt L0 hch hj2
  · rw [if_neg k1] at ht
    by_cases k2 : K.l.k = 2
    · rw [if_pos k2] at ht
      simp at ht
      subst ht
      have hw : K.w = 0 := w_none _ k1 (by omega)
      rw [g.square k2] at p1
      exact ⟨p0, p1, fun _ => rfl, fun h => absurd h (by omega)⟩
    · rw [if_neg k2] at ht
      by_cases k4 : K.l.k = 4
      · obtain ⟨o1, o2, hu⟩ := g.dense k4
        rw [if_pos k4] at ht
        obtain ⟨j, v, hj, hv, rfl⟩ := seq_mem _ _ _ ht
        have nb := size_bd K.i
        rw [num_len] at hj
        rw [num_get hj] at hv
        have hv := Option.some.inj hv
        have hw : K.w = K.l.o * K.i.n := w_dense _ k4
        have n1 := size_pos g.2.1
        have e := Sh.n_eq g.ur
        rw [show K.u.c = K.l.o by rw [hu], show K.u.h = 1 by rw [hu], show K.u.x = 1 by rw [hu]] at e
        rw [e] at p1
        have m0 := Int.mul_nonneg p0 (show 0 ≤ K.i.n by omega)
        refine ⟨by show 0 ≤ v; omega, by show v < _; omega, fun h0 => ?_, fun _ => ⟨?_, ?_⟩⟩
        · exfalso
          rw [hw] at h0
          have : 0 < K.l.o * K.i.n := Int.mul_pos (by omega) (by omega)
          omega
        · show K.a ≤ K.a + p * K.i.n + (j : Int)
          omega
        · show K.a + p * K.i.n + (j : Int) < K.a + K.w
          rw [hw]
          exact seg_lt (by omega) (by omega) (by omega)
      · rw [if_neg k4] at ht; simp at ht
theorem termsN_is {c h x : Int} {ls : List Ly} {i p : Int} (hp : hasK (atN ⟨c, h, x, ls⟩ i) p = true) : termsN ⟨c, h, x, ls⟩ i p = termsK (atN ⟨c, h, x, ls⟩ i) p := if_pos hp
theorem termsN_no {c h x : Int} {ls : List Ly} {i p : Int} (hp : ¬ (0 ≤ p ∧ p < (atN ⟨c, h, x, ls⟩ i).u.n)) : termsN ⟨c, h, x, ls⟩ i p = [] := if_neg (by rw [show hasK _ p = false from hasB_no hp]; decide)

end Go.Proofs.YtklgjhldebdegaaGreat

namespace Go.Proofs.YtklgjhldebdegaaGreat
open Go.RowKit

/-- The number at a place. -/
def ug (us : List UInt64) (j : Int) : UInt64 := us.getD j.toNat 0
theorem ug_get {us : List UInt64} {j : Nat} (h : j < us.length) : us[j]? = some (ug us (j : Int)) := by
  unfold ug; rw [List.getElem?_eq_getElem h]; simp [List.getD_eq_getElem?_getD, h]
theorem ug_at {w : World} {A : Option Addr} {us : List UInt64} (h : Rg ucells w A us) {j : Int} (j0 : 0 ≤ j) (j1 : j < (us.length : Int)) :
    ∃ b off, A = some ⟨b, off, none⟩ ∧ b < w.heap.size ∧ w.cell? ⟨b, off + j.toNat, none⟩ = some (.int .u64 (uz (ug us j))) := by
  obtain ⟨b, off, e, hlt, hc⟩ := h (by omega)
  refine ⟨b, off, e, hlt, ?_⟩
  have := Rg.at ucells_len hc (ug_get (us := us) (j := j.toNat) (by omega)) 0 _ rfl
  rw [Nat.mul_one, Nat.add_zero, show ((j.toNat : Nat) : Int) = j by omega] at this
  exact this

def sumU : List UInt64 → UInt64
  | [] => 0
  | u :: us => u + sumU us
theorem sumU_app : ∀ a b, sumU (a ++ b) = sumU a + sumU b
  | [], b => by simp [sumU]
  | u :: us, b => by simp only [List.cons_append, sumU, sumU_app us b, UInt64.add_assoc]
theorem sumU_snoc (a : List UInt64) (u : UInt64) : sumU (a ++ [u]) = sumU a + u := by rw [sumU_app]; simp [sumU]
theorem sum_add {α : Type} (f g : α → UInt64) : ∀ l : List α, sumU (l.map fun t => f t + g t) = sumU (l.map f) + sumU (l.map g)
  | [] => by simp [sumU]
  | x :: l => by simp only [List.map_cons, sumU, sum_add f g l]; grind
/-! ### Rows -/
def addU (a b : List UInt64) : List UInt64 := List.zipWith (· + ·) a b
def noughts (n : Nat) : List UInt64 := List.replicate n 0
theorem addU_map {α : Type} (f g : α → UInt64) : ∀ l : List α, addU (l.map f) (l.map g) = l.map fun p => f p + g p
  | [] => rfl
  | x :: l => by
    have := addU_map f g l
    unfold addU at this ⊢
    simp only [List.map_cons, List.zipWith_cons_cons, this]
theorem addU_len {a b : List UInt64} (h : a.length = b.length) : (addU a b).length = a.length := by unfold addU; simp [h]
theorem ug_add {a b : List UInt64} (h : a.length = b.length) (j : Int) : ug (addU a b) j = ug a j + ug b j := by
  unfold ug addU
  rw [List.getD_eq_getElem?_getD, List.getD_eq_getElem?_getD, List.getD_eq_getElem?_getD, List.getElem?_zipWith]
  by_cases hj : j.toNat < a.length
  · rw [List.getElem?_eq_getElem hj, List.getElem?_eq_getElem (by omega)]; rfl
  · rw [List.getElem?_eq_none (by omega), List.getElem?_eq_none (by omega)]; rfl
/-! ### A layer -/
def termU (xs ws : List UInt64) (t : Tm) : UInt64 := ug xs t.x * ug ws t.w
def numK (K : Kn) (xs ws : List UInt64) (p : Int) : UInt64 :=
  if K.l.k = 2 then ug xs p * ug xs p
  else if K.l.k = 3 then sumU ((partsK K p).map (ug xs))
  else sumU ((termsK K p).map (termU xs ws))
def layK (K : Kn) (xs ws : List UInt64) : List UInt64 := (List.range K.u.n.toNat).map fun p => numK K xs ws (p : Nat)
theorem lay_len (K : Kn) (xs ws : List UInt64) : (layK K xs ws).length = K.u.n.toNat := by simp [layK]
theorem lay_get {K : Kn} {xs ws : List UInt64} {p : Nat} (h : p < K.u.n.toNat) : (layK K xs ws)[p]? = some (numK K xs ws (p : Nat)) := by
  simp [layK, h]
theorem num_add {K : Kn} (k2 : K.l.k ≠ 2) {xs ys ws : List UInt64} (h : xs.length = ys.length) (p : Int) : numK K (addU xs ys) ws p = numK K xs ws p + numK K ys ws p := by
  unfold numK
  rw [if_neg k2, if_neg k2, if_neg k2]
  by_cases k3 : K.l.k = 3
  · rw [if_pos k3, if_pos k3, if_pos k3, ← sum_add]
    exact congrArg (fun f => sumU (List.map f _)) (funext fun t => ug_add h t)
  · rw [if_neg k3, if_neg k3, if_neg k3, ← sum_add]
    exact congrArg (fun f => sumU (List.map f _)) (funext fun t => by unfold termU; rw [ug_add h]; grind)
theorem lay_add {K : Kn} (k2 : K.l.k ≠ 2) {xs ys ws : List UInt64} (h : xs.length = ys.length) : layK K (addU xs ys) ws = addU (layK K xs ws) (layK K ys ws) := by
  unfold layK; rw [addU_map]; exact congrArg (fun f => List.map f _) (funext fun p => num_add k2 h _)
theorem lay_noW {K : Kn} (k : K.l.k = 2 ∨ K.l.k = 3) (xs ws vs : List UInt64) : layK K xs ws = layK K xs vs := by
  unfold layK
  refine congrArg (fun f => List.map f _) (funext fun p => ?_)
  unfold numK
  rcases k with k | k
  · rw [if_pos k, if_pos k]
  · rw [if_neg (show ¬ K.l.k = 2 by omega), if_neg (show ¬ K.l.k = 2 by omega), if_pos k, if_pos k]
/-! ### The document's number -/
def termR (xs ws : List UInt64) (t : Tm) : UInt64 := if t.w < 0 then ug xs t.x * ug xs t.x else ug xs t.x * ug ws t.w
def numR (K : Kn) (xs ws : List UInt64) (p : Int) : UInt64 := sumU ((termsK K p).map (termR xs ws)) + sumU ((partsK K p).map (ug xs))
theorem w_yes {K : Kn} (g : Good K) (k2 : K.l.k ≠ 2) (k3 : K.l.k ≠ 3) : 0 < K.w := by
  have := (w_pos g.2.1 g.1 g.2.2.1)
  unfold Kn.w
  have h1 := this.1
  have h2 := this.2.1
  by_cases e : wI K.i K.l = 0
  · rcases h1.1 e with k | k
    · exact absurd k k2
    · exact absurd k k3
  · omega
theorem num_ref {K : Kn} (g : Good K) {p : Int} (hp : hasK K p = true) (xs ws : List UInt64) : numR K xs ws p = numK K xs ws p := by
  unfold numR numK
  by_cases k2 : K.l.k = 2
  · rw [if_pos k2]
    unfold termsK partsK
    rw [if_neg (by omega), if_pos k2, if_neg (by omega)]
    simp [sumU, termR]
  · rw [if_neg k2]
    by_cases k3 : K.l.k = 3
    · rw [if_pos k3]
      unfold termsK
      rw [if_neg (by omega), if_neg k2, if_neg (by omega)]
      simp [sumU]
    · rw [if_neg k3]
      unfold partsK
      rw [if_neg k3]
      have : (termsK K p).map (termR xs ws) = (termsK K p).map (termU xs ws) := by
        refine List.map_congr_left fun t ht => ?_
        obtain ⟨_, _, _, h4⟩ := terms_rng g hp t ht
        have := h4 (w_yes g k2 k3)
        have := g.2.2.2.2.1
        unfold termR termU
        rw [if_neg (by omega)]
      rw [this]
      simp [sumU]

end Go.Proofs.YtklgjhldebdegaaGreat

namespace Go.Proofs.YtklgjhldebdegaaGreat
open Go.RowKit

def okL (N : Nt) (i : Int) (xs ws : List UInt64) : Bool := decide ((errN N = 0 ∧ 0 ≤ i ∧ i < (N.ls.length : Int)) ∧ (xs.length : Int) = (atN N i).i.n ∧ (ws.length : Int) = totW (knN N))
def layN (N : Nt) (i : Int) (xs ws : List UInt64) : List UInt64 := if okL N i xs ws = true then layK (atN N i) xs ws else []
def runN (N : Nt) (ws : List UInt64) : Nat → List UInt64 → List UInt64
  | 0, xs => xs
  | k + 1, xs => layK (atN N (k : Nat)) (runN N ws k xs) ws
def okF (N : Nt) (xs ws : List UInt64) : Bool := decide (errN N = 0 ∧ (xs.length : Int) = N.s.n ∧ (ws.length : Int) = totW (knN N))
def fN (N : Nt) (xs ws : List UInt64) : List UInt64 := if okF N xs ws = true then runN N ws N.ls.length xs else []
theorem okF_out {N : Nt} {xs ws : List UInt64} (h : okF N xs ws = true) : errN N = 0 ∧ (xs.length : Int) = N.s.n ∧ (ws.length : Int) = totW (knN N) := of_decide_eq_true h
theorem lay_yes {N : Nt} {i : Int} {xs ws : List UInt64} (h : okL N i xs ws = true) : layN N i xs ws = layK (atN N i) xs ws := if_pos h
theorem lay_no {N : Nt} {i : Int} {xs ws : List UInt64} (h : okL N i xs ws = false) : layN N i xs ws = [] := if_neg (by rw [h]; decide)
theorem f_yes {N : Nt} {xs ws : List UInt64} (h : okF N xs ws = true) : fN N xs ws = runN N ws N.ls.length xs := if_pos h
theorem f_no {N : Nt} {xs ws : List UInt64} (h : okF N xs ws = false) : fN N xs ws = [] := if_neg (by rw [h]; decide)
theorem run_end (c h x : Int) (ls : List Ly) {k : Nat} {l : Ly} (hl : ls[k]? = some l) : endS ⟨c, h, x⟩ (ls.take (k + 1)) = outS (endS ⟨c, h, x⟩ (ls.take k)) l := by
  rw [List.take_add_one, hl, Option.toList, end_app]; rfl
theorem run_len {c h x : Int} {ls : List Ly} (e : errN ⟨c, h, x, ls⟩ = 0) (ws : List UInt64) {xs : List UInt64} (hx : (xs.length : Int) = (⟨c, h, x⟩ : Sh).n) : ∀ k : Nat, k ≤ ls.length → ((runN ⟨c, h, x, ls⟩ ws k xs).length : Int) = (endS ⟨c, h, x⟩ (ls.take k)).n
  | 0, _ => by simpa [runN, endS] using hx
  | k + 1, hk => by
    have hl := get_ly (show k < ls.length by omega)
    rw [runN, lay_len, run_end c h x ls hl, at_some e hl]
    have := size_bd (outS (endS ⟨c, h, x⟩ (ls.take k)) (ls.getD k Ly.z))
    show ((outS _ _).n.toNat : Int) = _
    omega
/-- Each step of a run is its layer's. -/
theorem run_ok {c h x : Int} {ls : List Ly} {xs ws : List UInt64} (h0 : okF ⟨c, h, x, ls⟩ xs ws = true) {k : Nat} (hk : k < ls.length) : okL ⟨c, h, x, ls⟩ (k : Nat) (runN ⟨c, h, x, ls⟩ ws k xs) ws = true := by
  obtain ⟨e, h1, h2⟩ := okF_out h0
  have hl := get_ly hk
  refine decide_eq_true ⟨⟨e, by omega, by show (k : Int) < (ls.length : Int); omega⟩, ?_, h2⟩
  rw [run_len e ws h1 k (by omega), at_some e hl]

/-! ### Cut into two -/
end Go.Proofs.YtklgjhldebdegaaGreat

namespace Go.Proofs.YtklgjhldebdegaaGreat
open Go.RowKit

/-- A gate: its layer, the place that comes out, the how many-th term there, and that term's places. -/
structure Gt where
  l : Int
  a : Int
  t : Int
  x : Int
  w : Int
def Gt.z : Gt := ⟨0, 0, 0, 0, 0⟩
/-- Gates of terms, numbered from k on. -/
def gatesT (i p : Int) : Nat → List Tm → List Gt
  | _, [] => []
  | k, t :: ts => ⟨i, p, (k : Nat), t.x, t.w⟩ :: gatesT i p (k + 1) ts
def gatesP (K : Kn) (i : Int) (p : Nat) : List Gt := gatesT i (p : Nat) 0 (termsK K (p : Nat))
def gatesL (K : Kn) (i : Int) (m : Nat) : List Gt := (List.range m).flatMap (gatesP K i)
/-- Gates of the first k layers. -/
def gatesK (N : Nt) (k : Nat) : List Gt := (List.range k).flatMap fun i => gatesL (atN N (i : Nat)) (i : Nat) (atN N (i : Nat)).u.n.toNat
def gatesN (N : Nt) : List Gt := if errN N = 0 then gatesK N N.ls.length else []
theorem gatesT_len (i p : Int) : ∀ (ts : List Tm) (k : Nat), (gatesT i p k ts).length = ts.length
  | [], _ => rfl
  | t :: ts, k => by simp only [gatesT, List.length_cons, gatesT_len i p ts]
theorem gatesT_get (i p : Int) : ∀ (ts : List Tm) (k j : Nat) (t : Tm), ts[j]? = some t → (gatesT i p k ts)[j]? = some ⟨i, p, ((k + j : Nat) : Int), t.x, t.w⟩
  | [], _, _, _, h => by simp at h
  | u :: ts, k, 0, t, h => by simp at h; simp [gatesT, h]
  | u :: ts, k, j + 1, t, h => by
    simp only [gatesT, List.getElem?_cons_succ] at h ⊢
    rw [gatesT_get i p ts (k + 1) j t h, show k + 1 + j = k + (j + 1) by omega]
theorem gatesT_app (i p : Int) : ∀ (ts : List Tm) (k : Nat) (t : Tm), gatesT i p k (ts ++ [t]) = gatesT i p k ts ++ [⟨i, p, ((k + ts.length : Nat) : Int), t.x, t.w⟩]
  | [], k, t => by simp [gatesT]
  | u :: ts, k, t => by
    simp only [List.cons_append, gatesT, List.length_cons]
    rw [gatesT_app i p ts (k + 1) t, show k + 1 + ts.length = k + (ts.length + 1) by omega]
/-! ### How many -/
theorem flat_range_len {α : Type} (f : Nat → List α) (m c : Nat) (h : ∀ p, p < m → (f p).length = c) : ((List.range m).flatMap f).length = m * c := by
  induction m with
  | zero => simp
  | succ m ih =>
    rw [List.range_succ, List.flatMap_append, List.length_append, ih fun p hp => h p (by omega)]
    simp [h m (Nat.lt_succ_self m), Nat.succ_mul]
theorem gatesL_len {K : Kn} (g : Good K) (i : Int) (m : Nat) : (gatesL K i m).length = m * (perK K).toNat := by
  unfold gatesL
  refine flat_range_len _ m _ fun p _ => ?_
  unfold gatesP
  rw [gatesT_len]
  have := terms_len g (p : Nat)
  omega
theorem gatesL_all {K : Kn} (g : Good K) (i : Int) : ((gatesL K i K.u.n.toNat).length : Int) = K.p := by
  rw [gatesL_len g, Int.natCast_mul, Int.toNat_of_nonneg (size_bd K.u).1, Int.toNat_of_nonneg (per_bd g).1]
  exact per_all g
theorem gatesK_next (N : Nt) (k : Nat) : gatesK N (k + 1) = gatesK N k ++ gatesL (atN N (k : Nat)) (k : Nat) (atN N (k : Nat)).u.n.toNat := by
  unfold gatesK
  rw [List.range_succ, List.flatMap_append]; simp
theorem gatesK_len {c h x : Int} {ls : List Ly} (e : errN ⟨c, h, x, ls⟩ = 0) : ∀ k : Nat, k ≤ ls.length → ((gatesK ⟨c, h, x, ls⟩ k).length : Int) = totP ((knN ⟨c, h, x, ls⟩).take k)
  | 0, _ => rfl
  | k + 1, hk => by
    have g : Good (atN ⟨c, h, x, ls⟩ (k : Nat)) := good_at (isB_yes ⟨e, by omega, by show (k : Int) < (ls.length : Int); omega⟩)
    have hl := get_ly (show k < ls.length by omega)
    have hK : (knN ⟨c, h, x, ls⟩)[k]? = some (atN ⟨c, h, x, ls⟩ (k : Nat)) := by
      rw [knN_ok e, at_some e hl]
      have := kn_get ls ⟨c, h, x⟩ 0 k _ hl
      rw [Int.zero_add] at this
      exact this
    have ht := tot_snoc ((knN ⟨c, h, x, ls⟩).take k) (atN ⟨c, h, x, ls⟩ (k : Nat))
    rw [← take_get hK] at ht
    rw [gatesK_next, List.length_append, Int.natCast_add, gatesK_len e k (by omega), gatesL_all g, ht.2]
theorem gates_total {c h x : Int} {ls : List Ly} : ((gatesN ⟨c, h, x, ls⟩).length : Int) = totP (knN ⟨c, h, x, ls⟩) := by
  by_cases e : errN ⟨c, h, x, ls⟩ = 0
  · have := gatesK_len e ls.length (Nat.le_refl _)
    rw [show gatesN ⟨c, h, x, ls⟩ = gatesK ⟨c, h, x, ls⟩ ls.length from if_pos e, this, List.take_of_length_le (by rw [knN_ok e, kn_len]; exact Nat.le_refl _)]
  · rw [show gatesN ⟨c, h, x, ls⟩ = [] from if_neg e, knN_no e]; rfl

/-! ### Where a gate stands -/
theorem flat_range_get {α : Type} (f : Nat → List α) (c : Nat) : ∀ (m p j : Nat), (∀ p, p < m → (f p).length = c) → p < m → j < c → ((List.range m).flatMap f)[p * c + j]? = (f p)[j]?
  | 0, p, j, _, hp, _ => absurd hp (by omega)
  | m + 1, p, j, h, hp, hj => by
    have hl := flat_range_len f m c fun p hp => h p (by omega)
    rw [List.range_succ, List.flatMap_append]
    by_cases e : p = m
    · subst e
      rw [List.getElem?_append_right (by rw [hl]; omega), hl, Nat.add_sub_cancel_left]; simp
    · have : p * c + j < m * c := by
        have : (p + 1) * c ≤ m * c := Nat.mul_le_mul_right c (by omega)
        rw [Nat.succ_mul] at this; omega
      rw [List.getElem?_append_left (by rw [hl]; exact this)]
      exact flat_range_get f c m p j (fun p hp => h p (by omega)) (by omega) hj
theorem gatesL_get {K : Kn} (g : Good K) (i : Int) {m p j : Nat} {t : Tm} (hp : p < m) (ht : (termsK K (p : Nat))[j]? = some t) :
    (gatesL K i m)[p * (perK K).toNat + j]? = some ⟨i, (p : Nat), (j : Nat), t.x, t.w⟩ := by
  have hlen : ∀ p : Nat, (gatesP K i p).length = (perK K).toNat := fun p => by
    unfold gatesP
    rw [gatesT_len]
    have := terms_len g (p : Nat)
    omega
  have hj : j < (perK K).toNat := by
    have := (List.getElem?_eq_some_iff.1 ht).1
    have := terms_len g (p : Nat)
    omega
  unfold gatesL
  rw [flat_range_get _ _ m p j (fun p _ => hlen p) hp hj]
  have := gatesT_get i (p : Nat) (termsK K (p : Nat)) 0 j t ht
  rw [Nat.zero_add] at this
  exact this
theorem gatesK_pre (N : Nt) : ∀ {k m : Nat}, k ≤ m → ∀ {q : Nat} {g : Gt}, (gatesK N k)[q]? = some g → (gatesK N m)[q]? = some g
  | k, 0, h, q, g, hq => by obtain rfl : k = 0 := by omega
                            exact hq
  | k, m + 1, h, q, g, hq => by
    by_cases e : k = m + 1
    · subst e; exact hq
    · rw [gatesK_next, List.getElem?_append_left (by
        have := (List.getElem?_eq_some_iff.1 (gatesK_pre N (show k ≤ m by omega) hq)).1; exact this)]
      exact gatesK_pre N (by omega) hq
/-- The gate of a layer's place and term. -/
theorem gate_at {c h x : Int} {ls : List Ly} (e : errN ⟨c, h, x, ls⟩ = 0) {i p j : Nat} {t : Tm} (hi : i < ls.length) (hp : (p : Int) < (atN ⟨c, h, x, ls⟩ (i : Nat)).u.n) (ht : (termsK (atN ⟨c, h, x, ls⟩ (i : Nat)) (p : Nat))[j]? = some t) :
    (gatesN ⟨c, h, x, ls⟩)[(gatesK ⟨c, h, x, ls⟩ i).length + (p * (perK (atN ⟨c, h, x, ls⟩ (i : Nat))).toNat + j)]? = some ⟨(i : Nat), (p : Nat), (j : Nat), t.x, t.w⟩ := by
  have g : Good (atN ⟨c, h, x, ls⟩ (i : Nat)) := good_at (isB_yes ⟨e, by omega, by show (i : Int) < (ls.length : Int); omega⟩)
  rw [show gatesN ⟨c, h, x, ls⟩ = gatesK ⟨c, h, x, ls⟩ ls.length from if_pos e]
  refine gatesK_pre _ (show i + 1 ≤ ls.length by omega) ?_
  rw [gatesK_next, List.getElem?_append_right (by omega), Nat.add_sub_cancel_left]
  exact gatesL_get g _ (by omega) ht

/-! ### Stages, ranges, lines; which gate -/
def stK (ls : List Ly) : Nat → List Int
  | 0 => []
  | k + 1 => stK ls k ++ (if (ls.getD k Ly.z).k = 3 then [] else [((k : Nat) : Int)])
def stagesN (N : Nt) : List Int := if errN N = 0 then stK N.ls N.ls.length else []
theorem stK_len (ls : List Ly) : ∀ k : Nat, (stK ls k).length ≤ k
  | 0 => Nat.le_refl _
  | k + 1 => by
    have := stK_len ls k
    simp only [stK, List.length_append]
    split <;> simp <;> omega
def rangeN (N : Nt) (s : Int) : Int × Int := if 0 ≤ s ∧ s < ((stagesN N).length : Int) then (totP (((stagesN N).take s.toNat).map (atN N)), (atN N ((stagesN N).getD s.toNat 0)).p) else (0, 0)
def lineN (N : Nt) (s : Int) : Int × Int := if errN N = 0 ∧ s = ((stagesN N).length : Int) then (2 * totP (knN N), (endS N.s N.ls).n) else (2 * (rangeN N s).1, 2 * (rangeN N s).2)
theorem range_yes {N : Nt} {s : Nat} (h : s < (stagesN N).length) : rangeN N (s : Nat) = (totP (((stagesN N).take s).map (atN N)), (atN N ((stagesN N).getD s 0)).p) := if_pos ⟨by omega, by omega⟩
theorem range_no {N : Nt} {s : Int} (h : ¬ (0 ≤ s ∧ s < ((stagesN N).length : Int))) : rangeN N s = (0, 0) := if_neg h
theorem st_get {l : List Int} {k : Nat} (h : k < l.length) : l[k]? = some (l.getD k 0) := by
  rw [List.getElem?_eq_getElem h]; simp [List.getD_eq_getElem?_getD, h]
theorem gt_get {l : List Gt} {k : Nat} (h : k < l.length) : l[k]? = some (l.getD k Gt.z) := by
  rw [List.getElem?_eq_getElem h]; simp [List.getD_eq_getElem?_getD, h]
theorem gates_bd {c h x : Int} {ls : List Ly} : (gatesN ⟨c, h, x, ls⟩).length ≤ 512 := by
  have := gates_total (c := c) (h := h) (x := x) (ls := ls)
  by_cases e : errN ⟨c, h, x, ls⟩ = 0
  · rw [(tots e).2] at this
    have := (ok_all e).2.2.2.2.1
    omega
  · rw [show gatesN ⟨c, h, x, ls⟩ = [] from if_neg e]; simp
def gcells (g : Gt) : List Value := [.int .i64 g.l, .int .i64 g.a, .int .i64 g.t, .int .i64 g.x, .int .i64 g.w]
theorem gcells_len (g : Gt) : (gcells g).length = 5 := rfl
theorem g_cells {w : World} {b off : Nat} {gs : List Gt} (h : ∀ j u, (gs.flatMap gcells)[j]? = some u → w.cell? ⟨b, off + j, none⟩ = some u) {k : Nat} {g : Gt} (hg : gs[k]? = some g) :
    w.cell? ⟨b, off + k * 5, none⟩ = some (.int .i64 g.l) ∧ w.cell? ⟨b, off + k * 5 + 1, none⟩ = some (.int .i64 g.a) ∧ w.cell? ⟨b, off + k * 5 + 2, none⟩ = some (.int .i64 g.t) ∧ w.cell? ⟨b, off + k * 5 + 3, none⟩ = some (.int .i64 g.x) ∧ w.cell? ⟨b, off + k * 5 + 4, none⟩ = some (.int .i64 g.w) := by
  have q := Rg.at gcells_len h hg
  exact ⟨q 0 _ rfl, q 1 _ rfl, q 2 _ rfl, q 3 _ rfl, q 4 _ rfl⟩
theorem in_cell {w : World} {b off : Nat} {xs : List Int} (h : ∀ j u, (xs.flatMap icells)[j]? = some u → w.cell? ⟨b, off + j, none⟩ = some u) {k : Nat} {x : Int} (hx : xs[k]? = some x) :
    w.cell? ⟨b, off + k, none⟩ = some (.int .i64 x) := by
  have q := Rg.at icells_len h hx
  have := q 0 _ rfl
  rw [Nat.mul_one, Nat.add_zero] at this
  exact this

end Go.Proofs.YtklgjhldebdegaaGreat

namespace Go.Proofs.YtklgjhldebdegaaGreat
open Go.RowKit
/-! ### Cut -/
theorem stK_pre (ls : List Ly) : ∀ {k m : Nat}, k ≤ m → ∃ r, stK ls m = stK ls k ++ r
  | k, 0, h => ⟨[], by obtain rfl : k = 0 := by omega
                       rfl⟩
  | k, m + 1, h => by
    by_cases e : k = m + 1
    · subst e; exact ⟨[], by simp⟩
    · obtain ⟨r, hr⟩ := stK_pre ls (show k ≤ m by omega)
      exact ⟨r ++ (if (ls.getD m Ly.z).k = 3 then [] else [((m : Nat) : Int)]), by simp only [stK]; rw [hr, List.append_assoc]⟩
/-! ### Stages and their ranges -/
theorem stK_mem (ls : List Ly) : ∀ (k : Nat) (y : Int), y ∈ stK ls k → ∃ i : Nat, i < k ∧ y = (i : Nat) ∧ (ls.getD i Ly.z).k ≠ 3
  | 0, y, h => by simp [stK] at h
  | k + 1, y, h => by
    simp only [stK, List.mem_append] at h
    rcases h with h | h
    · obtain ⟨i, h1, h2⟩ := stK_mem ls k y h
      exact ⟨i, by omega, h2⟩
    · split at h
      · simp at h
      · rename_i h3
        simp at h
        exact ⟨k, by omega, h, h3⟩
theorem stK_sorted (ls : List Ly) : ∀ k : Nat, (stK ls k).Pairwise (· < ·)
  | 0 => List.Pairwise.nil
  | k + 1 => by
    simp only [stK]
    rw [List.pairwise_append]
    refine ⟨stK_sorted ls k, ?_, fun a ha b hb => ?_⟩
    · split
      · exact List.Pairwise.nil
      · simp
    · obtain ⟨i, h1, h2, _⟩ := stK_mem ls k a ha
      split at hb
      · simp at hb
      · simp at hb
        rw [h2, hb]; omega
/-- The products of all stages ahead are those of all layers ahead. -/
theorem st_sum {c h x : Int} {ls : List Ly} (e : errN ⟨c, h, x, ls⟩ = 0) : ∀ k : Nat, k ≤ ls.length → totP ((stK ls k).map (atN ⟨c, h, x, ls⟩)) = ((gatesK ⟨c, h, x, ls⟩ k).length : Int)
  | 0, _ => rfl
  | k + 1, hk => by
    have hl := get_ly (show k < ls.length by omega)
    have g : Good (atN ⟨c, h, x, ls⟩ (k : Nat)) := good_at (isB_yes ⟨e, by omega, by show (k : Int) < (ls.length : Int); omega⟩)
    rw [gatesK_next, List.length_append, Int.natCast_add, ← st_sum e k (by omega), gatesL_all g]
    simp only [stK]
    split
    · rename_i h3
      have : (atN ⟨c, h, x, ls⟩ (k : Nat)).p = 0 := by
        rw [at_some e hl]
        show pI (endS ⟨c, h, x⟩ (ls.take k)) (outS (endS ⟨c, h, x⟩ (ls.take k)) (ls.getD k Ly.z)) (ls.getD k Ly.z) = 0
        exact p_none _ _ (by omega) (by omega) (by omega)
      rw [List.append_nil, this]; omega
    · rw [List.map_append]
      exact (tot_snoc _ _).2

end Go.Proofs.YtklgjhldebdegaaGreat

namespace Go.Proofs.YtklgjhldebdegaaGreat
open Go.RowKit

theorem per_pos {K : Kn} (g : Good K) (k : K.l.k ≠ 3) : 1 ≤ perK K := by
  obtain ⟨r1, _⟩ := right_bd g.2.1
  have nb := size_pos g.2.1
  unfold perK
  rcases g.kind with k1 | k2 | k3 | k4
  · obtain ⟨_, _, s1, _⟩ := g.conv k1
    rw [if_pos k1]
    have a := Int.mul_pos (show 0 < K.l.s by omega) (show 0 < K.l.s by omega)
    have b := Int.mul_pos (show 0 < K.i.c by omega) a
    omega
  · rw [if_neg (by omega), if_pos k2]; omega
  · exact absurd k3 k
  · rw [if_neg (by omega), if_neg (by omega), if_pos k4]; exact nb
theorem p_zero {K : Kn} (g : Good K) : K.p = 0 ↔ K.l.k = 3 := by
  have e := per_all g
  have u := size_pos g.ur
  constructor
  · intro h
    by_cases k : K.l.k = 3
    · exact k
    · have := Int.mul_pos (show 0 < K.u.n by omega) (show 0 < perK K by have := per_pos g k; omega)
      omega
  · intro k
    exact p_none _ _ (by omega) (by omega) (by omega)

/-- A layer that has products. -/
abbrev isS (N : Nt) (i : Nat) : Prop := i < N.ls.length ∧ (atN N (i : Nat)).p ≠ 0
abbrev St (N : Nt) : Type := { i : Nat // isS N i }
def stI (N : Nt) : Nat → List (St N)
  | 0 => []
  | k + 1 => stI N k ++ (if h : isS N k then [⟨k, h⟩] else [])
def stL (N : Nt) : List (St N) := stI N N.ls.length
def numS (N : Nt) (i : Nat) : Int := ((stI N i).length : Nat)
def firstS (N : Nt) (i : Nat) : Int := ((gatesK N i).length : Nat)
def manyS (N : Nt) (i : Nat) : Int := (atN N (i : Nat)).p
def eachS (N : Nt) (i : Nat) : Int := perK (atN N (i : Nat))
theorem isS_err {c h x : Int} {ls : List Ly} {i : Nat} (hs : isS ⟨c, h, x, ls⟩ i) : errN ⟨c, h, x, ls⟩ = 0 := by
  by_cases e : errN ⟨c, h, x, ls⟩ = 0
  · exact e
  · have : atN ⟨c, h, x, ls⟩ (i : Nat) = Kn.z := at_out (by rw [knN_no e]; simp)
    exact absurd (by rw [this]; exact kz_p) hs.2
theorem good_i {c h x : Int} {ls : List Ly} (e : errN ⟨c, h, x, ls⟩ = 0) {i : Nat} (hi : i < ls.length) : Good (atN ⟨c, h, x, ls⟩ (i : Nat)) :=
  good_at (isB_yes ⟨e, by omega, by show (i : Int) < (ls.length : Int); omega⟩)
theorem isS_good {c h x : Int} {ls : List Ly} {i : Nat} (hs : isS ⟨c, h, x, ls⟩ i) : Good (atN ⟨c, h, x, ls⟩ (i : Nat)) := good_i (isS_err hs) hs.1
theorem at_kind {c h x : Int} {ls : List Ly} (e : errN ⟨c, h, x, ls⟩ = 0) {i : Nat} (hi : i < ls.length) : (atN ⟨c, h, x, ls⟩ (i : Nat)).l = ls.getD i Ly.z := by
  rw [at_some e (get_ly hi)]
theorem isS_kind {c h x : Int} {ls : List Ly} (e : errN ⟨c, h, x, ls⟩ = 0) {i : Nat} (hi : i < ls.length) : isS ⟨c, h, x, ls⟩ i ↔ ¬ (ls.getD i Ly.z).k = 3 := by
  have g := good_i e hi
  have z := p_zero g
  rw [at_kind e hi] at z
  exact ⟨fun hs k => hs.2 (z.2 k), fun k => ⟨hi, fun p => k (z.1 p)⟩⟩
theorem stI_st {c h x : Int} {ls : List Ly} (e : errN ⟨c, h, x, ls⟩ = 0) : ∀ k : Nat, k ≤ ls.length → (stI ⟨c, h, x, ls⟩ k).map (fun y => ((y.1 : Nat) : Int)) = stK ls k
  | 0, _ => rfl
  | k + 1, hk => by
    have z := isS_kind e (show k < ls.length by omega)
    simp only [stI, stK, List.map_append]
    rw [stI_st e k (by omega)]
    by_cases h : isS ⟨c, h, x, ls⟩ k
    · rw [dif_pos h, if_neg (z.1 h)]; rfl
    · rw [dif_neg h, if_pos (by by_cases q : (ls.getD k Ly.z).k = 3; exact q; exact absurd (z.2 q) h)]; rfl
theorem stI_none {c h x : Int} {ls : List Ly} (e : ¬ errN ⟨c, h, x, ls⟩ = 0) : ∀ k : Nat, stI ⟨c, h, x, ls⟩ k = []
  | 0 => rfl
  | k + 1 => by
    simp only [stI]
    rw [stI_none e k, dif_neg fun h => e (isS_err h)]; rfl
theorem stL_st {c h x : Int} {ls : List Ly} : (stL ⟨c, h, x, ls⟩).map (fun y => ((y.1 : Nat) : Int)) = stagesN ⟨c, h, x, ls⟩ := by
  by_cases e : errN ⟨c, h, x, ls⟩ = 0
  · rw [show stagesN ⟨c, h, x, ls⟩ = stK ls ls.length from if_pos e]
    exact stI_st e _ (Nat.le_refl _)
  · rw [show stagesN ⟨c, h, x, ls⟩ = [] from if_neg e]
    unfold stL
    rw [stI_none e]; rfl
theorem stI_len {N : Nt} : ∀ k : Nat, (stI N k).length ≤ k
  | 0 => Nat.le_refl _
  | k + 1 => by
    have := stI_len (N := N) k
    simp only [stI, List.length_append]
    split <;> simp <;> omega
theorem stI_yes {N : Nt} {k : Nat} (h : isS N k) : stI N (k + 1) = stI N k ++ [⟨k, h⟩] := by simp only [stI]; rw [dif_pos h]
theorem stI_no {N : Nt} {k : Nat} (h : ¬ isS N k) : stI N (k + 1) = stI N k := by simp only [stI]; rw [dif_neg h, List.append_nil]
theorem stI_pre {N : Nt} : ∀ {k m : Nat}, k ≤ m → stI N k <+: stI N m
  | k, 0, h => by obtain rfl : k = 0 := by omega
                  exact List.prefix_refl _
  | k, m + 1, h => by
    by_cases e : k = m + 1
    · subst e; exact List.prefix_refl _
    · exact (stI_pre (show k ≤ m by omega)).trans (List.prefix_append _ _)
theorem stI_mem {N : Nt} {i m : Nat} (h : isS N i) (him : i < m) : (⟨i, h⟩ : St N) ∈ stI N m :=
  (stI_pre (show i + 1 ≤ m by omega)).subset (by rw [stI_yes h]; simp)
theorem stL_mem {N : Nt} (x : St N) : x ∈ stL N := stI_mem x.2 x.2.1

/-- What is known of a stage. -/
theorem st_facts {c h x : Int} {ls : List Ly} (hn : ls.length ≤ 60) (y : St ⟨c, h, x, ls⟩) :
    (0 ≤ numS ⟨c, h, x, ls⟩ y.1 ∧ numS ⟨c, h, x, ls⟩ y.1 ≤ 60) ∧ (0 ≤ firstS ⟨c, h, x, ls⟩ y.1) ∧ 1 ≤ manyS ⟨c, h, x, ls⟩ y.1 ∧ firstS ⟨c, h, x, ls⟩ y.1 + manyS ⟨c, h, x, ls⟩ y.1 ≤ ((gatesN ⟨c, h, x, ls⟩).length : Int) ∧ 1 ≤ eachS ⟨c, h, x, ls⟩ y.1 ∧ (atN ⟨c, h, x, ls⟩ (y.1 : Nat)).u.n * eachS ⟨c, h, x, ls⟩ y.1 = manyS ⟨c, h, x, ls⟩ y.1 ∧ 1 ≤ (atN ⟨c, h, x, ls⟩ (y.1 : Nat)).u.n := by
  have g := isS_good y.2
  have e := isS_err y.2
  have l := stI_len (N := ⟨c, h, x, ls⟩) y.1
  have hy : y.1 < ls.length := y.2.1
  have u := size_pos g.ur
  have pa := per_all g
  have k3 : (atN ⟨c, h, x, ls⟩ (y.1 : Nat)).l.k ≠ 3 := fun k => y.2.2 ((p_zero g).2 k)
  have pp := per_pos g k3
  have p1 := Int.mul_pos (show 0 < (atN ⟨c, h, x, ls⟩ (y.1 : Nat)).u.n by omega) (show 0 < perK (atN ⟨c, h, x, ls⟩ (y.1 : Nat)) by omega)
  have hl : ((gatesK ⟨c, h, x, ls⟩ (y.1 + 1)).length : Int) = firstS ⟨c, h, x, ls⟩ y.1 + manyS ⟨c, h, x, ls⟩ y.1 := by
    rw [gatesK_next, List.length_append, Int.natCast_add, gatesL_all g]; rfl
  have hm : (gatesK ⟨c, h, x, ls⟩ (y.1 + 1)).length ≤ (gatesN ⟨c, h, x, ls⟩).length := by
    rw [show gatesN ⟨c, h, x, ls⟩ = gatesK ⟨c, h, x, ls⟩ ls.length from if_pos e]
    by_cases z : (gatesK ⟨c, h, x, ls⟩ (y.1 + 1)).length = 0
    · omega
    · have := gatesK_pre ⟨c, h, x, ls⟩ (show y.1 + 1 ≤ ls.length by omega) (gt_get (show (gatesK ⟨c, h, x, ls⟩ (y.1 + 1)).length - 1 < (gatesK ⟨c, h, x, ls⟩ (y.1 + 1)).length by omega))
      have := (List.getElem?_eq_some_iff.1 this).1
      omega
  refine ⟨⟨?_, ?_⟩, ?_, ?_, ?_, pp, pa, u⟩
  · unfold numS; omega
  · unfold numS; omega
  · unfold firstS; omega
  · unfold manyS; omega
  · rw [← hl]; omega

/-! ### Ranges -/
theorem range_of {c h x : Int} {ls : List Ly} (y : St ⟨c, h, x, ls⟩) : rangeN ⟨c, h, x, ls⟩ (numS ⟨c, h, x, ls⟩ y.1) = (firstS ⟨c, h, x, ls⟩ y.1, manyS ⟨c, h, x, ls⟩ y.1) := by
  have e := isS_err y.2
  have hy : y.1 < ls.length := y.2.1
  obtain ⟨r, hr⟩ := stI_pre (N := ⟨c, h, x, ls⟩) (show y.1 + 1 ≤ ls.length by omega)
  rw [stI_yes y.2] at hr
  have hs : stagesN ⟨c, h, x, ls⟩ = stK ls y.1 ++ (((y.1 : Nat) : Int) :: r.map (fun y => ((y.1 : Nat) : Int))) := by
    rw [← stL_st, show stL ⟨c, h, x, ls⟩ = stI ⟨c, h, x, ls⟩ ls.length from rfl, ← hr, List.map_append, List.map_append, stI_st e _ (by omega), List.append_assoc]; rfl
  have hl : (stK ls y.1).length = (stI ⟨c, h, x, ls⟩ y.1).length := by rw [← stI_st e y.1 (by omega), List.length_map]
  unfold numS
  rw [range_yes (by rw [hs, List.length_append, hl]; simp), hs, ← hl, List.take_left']
  · rw [st_sum e _ (by omega), List.getD_eq_getElem?_getD, List.getElem?_append_right (Nat.le_refl _), Nat.sub_self]; rfl
  · rfl
theorem num_at {c h x : Int} {ls : List Ly} (e : errN ⟨c, h, x, ls⟩ = 0) : ∀ (k s : Nat) (v : Int), k ≤ ls.length → (stK ls k)[s]? = some v → ∃ y : St ⟨c, h, x, ls⟩, v = (y.1 : Nat) ∧ numS ⟨c, h, x, ls⟩ y.1 = (s : Nat)
  | 0, s, v, _, hv => by simp [stK] at hv
  | k + 1, s, v, hk, hv => by
    have hl : (stK ls k).length = (stI ⟨c, h, x, ls⟩ k).length := by rw [← stI_st e k (by omega), List.length_map]
    simp only [stK] at hv
    by_cases hs : s < (stK ls k).length
    · rw [List.getElem?_append_left hs] at hv
      exact num_at e k s v (by omega) hv
    · rw [List.getElem?_append_right (by omega)] at hv
      split at hv
      · simp at hv
      · rename_i h3
        have hS := (isS_kind e (show k < ls.length by omega)).2 h3
        obtain ⟨z, z2⟩ := List.getElem?_eq_some_iff.1 hv
        simp at z
        have z0 : s - (stK ls k).length = 0 := by omega
        rw [z0] at hv
        refine ⟨⟨k, hS⟩, ?_, ?_⟩
        · simpa using hv.symm
        · unfold numS; rw [← hl]; show ((stK ls k).length : Int) = s; omega
theorem range_miss {c h x : Int} {ls : List Ly} {s : Int} (hh : ∀ y ∈ stL ⟨c, h, x, ls⟩, ¬ numS ⟨c, h, x, ls⟩ y.1 = s) : rangeN ⟨c, h, x, ls⟩ s = (0, 0) := by
  refine range_no fun ⟨h0, h1⟩ => ?_
  by_cases e : errN ⟨c, h, x, ls⟩ = 0
  · rw [show stagesN ⟨c, h, x, ls⟩ = stK ls ls.length from if_pos e] at h1
    obtain ⟨k, rfl⟩ : ∃ k : Nat, s = k := ⟨s.toNat, by omega⟩
    obtain ⟨y, _, hy⟩ := num_at e ls.length k _ (Nat.le_refl _) (st_get (show k < (stK ls ls.length).length by omega))
    exact hh y (stL_mem y) hy
  · rw [show stagesN ⟨c, h, x, ls⟩ = [] from if_neg e] at h1
    simp at h1; omega

/-! ### Gates -/
end Go.Proofs.YtklgjhldebdegaaGreat
