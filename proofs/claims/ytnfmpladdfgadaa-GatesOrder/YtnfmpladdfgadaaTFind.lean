/-
  What find of package terms answers: where a number comes from.
-/
import Derived.Test.YtnfmpladdfgadaaTAll
import Derived.Test.YtnfmpladdfgadaaRefW
namespace Go.Proofs.Ytnfmpladdfgadaa
open Go.RowKit

theorem below_set9 {w0 w : World} {B b : Nat} (H : Below B w0 w) (hb : B ≤ b) (v0 v1 v2 v3 v4 v5 v6 v7 v8 : Value) : Below B w0 (((((((((w.setCell ⟨b, 0, none⟩ v0).setCell ⟨b, 1, none⟩ v1).setCell ⟨b, 2, none⟩ v2).setCell ⟨b, 3, none⟩ v3).setCell ⟨b, 4, none⟩ v4).setCell ⟨b, 5, none⟩ v5).setCell ⟨b, 6, none⟩ v6).setCell ⟨b, 7, none⟩ v7).setCell ⟨b, 8, none⟩ v8) :=
  (((((((((H.setCell (p := ⟨b, 0, none⟩) hb _).setCell (p := ⟨b, 1, none⟩) hb _).setCell (p := ⟨b, 2, none⟩) hb _).setCell (p := ⟨b, 3, none⟩) hb _).setCell (p := ⟨b, 4, none⟩) hb _).setCell (p := ⟨b, 5, none⟩) hb _).setCell (p := ⟨b, 6, none⟩) hb _).setCell (p := ⟨b, 7, none⟩) hb _).setCell (p := ⟨b, 8, none⟩) hb _)
/-- A zero source in a variable. -/
def ZB (w : World) (b : Nat) : Prop := w.heap[b]? = some (.cells #[.int .i64 0, .int .i64 0, .int .i64 0, .int .i64 0, .int .i64 0, .int .i64 0, .int .i64 0, .int .i64 0, .complex .f64 0 0] 87 (0, 0))
theorem ZB.lt {w : World} {b : Nat} (H : ZB w b) : b < w.heap.size := (Array.getElem?_eq_some_iff.1 H).1
theorem ZB.below {w w' : World} {b : Nat} (H : ZB w b) (hb : Below w.heap.size w w') : ZB w' b := (hb.block b H.lt).trans H
theorem ZB.alloc {w : World} {b : Nat} (H : ZB w b) (o : Obj) : ZB (w.alloc o) b := (Lib.alloc_old w o b H.lt).trans H
theorem ZB.frozen {w : World} {b : Nat} (H : ZB w b) : ∀ i, w.frozen? ⟨b, i, none⟩ = false := fun i => Lib.frozen_of_heap H i
theorem ZB.cells {w : World} {b : Nat} (H : ZB w b) : w.cell? ⟨b, 0, none⟩ = some (.int .i64 0) ∧ w.cell? ⟨b, 1, none⟩ = some (.int .i64 0) ∧ w.cell? ⟨b, 2, none⟩ = some (.int .i64 0) ∧ w.cell? ⟨b, 3, none⟩ = some (.int .i64 0) ∧ w.cell? ⟨b, 4, none⟩ = some (.int .i64 0) ∧ w.cell? ⟨b, 5, none⟩ = some (.int .i64 0) ∧ w.cell? ⟨b, 6, none⟩ = some (.int .i64 0) ∧ w.cell? ⟨b, 7, none⟩ = some (.int .i64 0) ∧ w.cell? ⟨b, 8, none⟩ = some (.complex .f64 0 0) := by
  refine ⟨?_, ?_, ?_, ?_, ?_, ?_, ?_, ?_, ?_⟩ <;> (rw [Lib.cell_of_heap H]; rfl)
theorem zb_two (w : World) (a : Obj) : ZB ((w.alloc a).alloc (.cells #[.int .i64 0, .int .i64 0, .int .i64 0, .int .i64 0, .int .i64 0, .int .i64 0, .int .i64 0, .int .i64 0, .complex .f64 0 0] 87)) (w.heap.size + 1) := by
  have := heap_alloc_new (w.alloc a) (.cells #[.int .i64 0, .int .i64 0, .int .i64 0, .int .i64 0, .int .i64 0, .int .i64 0, .int .i64 0, .int .i64 0, .complex .f64 0 0] 87)
  rwa [show (w.alloc a).heap.size = w.heap.size + 1 by simp] at this

set_option maxHeartbeats 1000000 in
set_option maxRecDepth 100000 in
theorem find_none (c h x : Int) (A : Option Addr) (cA n : Nat) (ls : List Ly) (i p : Int) (w : World) (hx : Rl w A ls) (ln : n = ls.length) (hn : n ≤ 1000) (hh : hasK (atN ⟨c, h, x, ls⟩ i) p = false) :
    Calls Try.prog 64 #[.agg #[.int .i64 c, .int .i64 h, .int .i64 x, .slice A n cA], .int .i64 i, .int .i64 p] w fun e w' => e = .returned (.agg #[.int .i64 0, .int .i64 0, .int .i64 0, .int .i64 0, .int .i64 0, .int .i64 0, .int .i64 0, .int .i64 0, .complex .f64 0 0]) ∧ Below w.heap.size w w' := by
  have HH := Lib.hid hh
  clear hh
  have hcs : ∀ (a : Addr) (k : FloatKind) (re im : Nat) (m : Mode) (w : World), (store a (.complex k re im) m).run Try.prog w = stored Try.prog w a (.complex k re im) m := fun a k re im m w => run_store Try.prog w a _ m rfl
  have HX := Lib.hid hx; have LX := Lib.hid ln
  clear hx ln
  obtain ⟨er, her⟩ : ∃ er, er = errN ⟨c, h, x, ls⟩ := ⟨_, rfl⟩
  have HER := Lib.hid her
  clear her
  go_enter Try.func64, Try.ntmps64
  go_wp2_with fail
  refine (shapes_any c h x A cA n ls _ (HX.out.below (below_two w _ _)) LX.out hn).mono ?_
  rintro e w1 ⟨A1, k1, n1, rfl, hn1, hR, hb, hd1, hd2⟩
  rw [← HER.out]
  have B1 := Lib.hid (chain (below_two w _ _) hb)
  have N1 := Lib.hid (((NB.new w c h x (.slice A n cA)).alloc (.cells #[.int .i64 0, .int .i64 0, .int .i64 0, .int .i64 0, .int .i64 0, .int .i64 0, .int .i64 0, .int .i64 0, .complex .f64 0 0] 87)).below hb)
  have Z1 := Lib.hid ((zb_two w (.cells #[.int .i64 c, .int .i64 h, .int .i64 x, .slice A n cA] 26)).below hb)
  obtain ⟨c0, c1, c2, c3⟩ := N1.out.cells
  obtain ⟨y0, y1, y2, y3, y4, y5, y6, y7, y8⟩ := Z1.out.cells
  have f0 := Z1.out.frozen 0
  have f1 := Z1.out.frozen 1
  have f2 := Z1.out.frozen 2
  have f3 := Z1.out.frozen 3
  have f4 := Z1.out.frozen 4
  have f5 := Z1.out.frozen 5
  have f6 := Z1.out.frozen 6
  have f7 := Z1.out.frozen 7
  have f8 := Z1.out.frozen 8
  have lz1 := Z1.out.lt
  clear hb hd1 hd2
  by_cases h0 : ¬ er = 0
  · have b0 : (er != 0) = true := by simpa using h0
    clear h0 hn1 hR
    go_wp2_with fail
    exact bodyPost_ret (v := .agg #[.int .i64 0, .int .i64 0, .int .i64 0, .int .i64 0, .int .i64 0, .int .i64 0, .int .i64 0, .int .i64 0, .complex .f64 0 0]) (by simp [results, Try.results64, go_sem, y0, y1, y2, y3, y4, y5, y6, y7, y8]) rfl ⟨rfl, below_set9 B1.out (by omega) _ _ _ _ _ _ _ _ _⟩
  have h0 : er = 0 := by omega
  subst h0
  by_cases i0 : i < 0
  · have d0 : decide (i < 0) = true := decide_eq_true i0
    clear hn1 hR
    go_wp2_with fail
    exact bodyPost_ret (v := .agg #[.int .i64 0, .int .i64 0, .int .i64 0, .int .i64 0, .int .i64 0, .int .i64 0, .int .i64 0, .int .i64 0, .complex .f64 0 0]) (by simp [results, Try.results64, go_sem, y0, y1, y2, y3, y4, y5, y6, y7, y8]) rfl ⟨rfl, below_set9 B1.out (by omega) _ _ _ _ _ _ _ _ _⟩
  have d0 : decide (i < 0) = false := decide_eq_false i0
  by_cases i1 : (n : Int) ≤ i
  · have d1 : decide ((n : Int) ≤ i) = true := decide_eq_true i1
    clear hn1 hR
    go_wp2_with fail
    exact bodyPost_ret (v := .agg #[.int .i64 0, .int .i64 0, .int .i64 0, .int .i64 0, .int .i64 0, .int .i64 0, .int .i64 0, .int .i64 0, .complex .f64 0 0]) (by simp [results, Try.results64, go_sem, y0, y1, y2, y3, y4, y5, y6, y7, y8]) rfl ⟨rfl, below_set9 B1.out (by omega) _ _ _ _ _ _ _ _ _⟩
  have d1 : decide ((n : Int) ≤ i) = false := decide_eq_false i1
  obtain ⟨j, rfl⟩ : ∃ j : Nat, i = j := ⟨i.toNat, by omega⟩
  have jn : j < n := by omega
  have d2 : decide (n ≤ j) = false := by simp; omega
  have he := HER.out.symm
  rw [shN_ok he] at hR hn1
  rw [sh_len, ← LX.out] at hn1
  obtain ⟨bS, oS, rfl, hlS, hcS⟩ := hR (by rw [sh_len]; omega)
  have hjl : j < ls.length := by rw [← LX.out]; exact jn
  have hl := get_ly hjl
  obtain ⟨K, hK⟩ : ∃ K, K = atN ⟨c, h, x, ls⟩ (j : Int) := ⟨_, rfl⟩
  have hKu : K.u = endS ⟨c, h, x⟩ (ls.take (j + 1)) := by rw [hK, at_some he hl, end_next hl]
  have g2 := sh_get ls ⟨c, h, x⟩ (j + 1) (by omega)
  rw [← hKu] at g2
  obtain ⟨m, hm⟩ : ∃ m, m = j + 1 := ⟨_, rfl⟩
  obtain ⟨a3, a4, a5⟩ := sh_at hcS g2
  rw [← hm] at a3 a4 a5
  have hf : hasB K.u.c K.u.h K.u.x p = false := by have := HH.out; rw [← hK] at this; exact this
  have HF := Lib.hid hf
  have ma : (0 : Int) ≤ (m : Int) := by omega
  have mb : (m : Int) < (n1 : Int) := by omega
  have mb' : m < n1 := by omega
  have v1 : IntKind.i64.wrap ((j : Int) + 1) = (m : Int) := next_i64 hm (Nat.lt_succ_self j) (by omega)
  have v2 : wrap64 ((j : Int) + 1) = (m : Int) := next_wrap hm (Nat.lt_succ_self j) (by omega)
  clear hf hKu g2 hl he hn1 hm hcS hK
  go_wp2_with fail
  refine (of_any K.u.c K.u.h K.u.x p _).mono ?_
  rintro e w2 ⟨rfl, hb⟩
  rw [HF.out]
  have B2 := Lib.hid (chain B1.out hb)
  have Z2 := Lib.hid (Z1.out.below hb)
  clear hb y0 f0 y1 f1 y2 f2 y3 f3 y4 f4 y5 f5 y6 f6 y7 f7 y8 f8 c0 c1 c2 c3 lz1
  obtain ⟨y0, y1, y2, y3, y4, y5, y6, y7, y8⟩ := Z2.out.cells
  have f0 := Z2.out.frozen 0
  have f1 := Z2.out.frozen 1
  have f2 := Z2.out.frozen 2
  have f3 := Z2.out.frozen 3
  have f4 := Z2.out.frozen 4
  have f5 := Z2.out.frozen 5
  have f6 := Z2.out.frozen 6
  have f7 := Z2.out.frozen 7
  have f8 := Z2.out.frozen 8
  have lz1 := Z2.out.lt
  go_wp2_with fail
  exact bodyPost_ret (v := .agg #[.int .i64 0, .int .i64 0, .int .i64 0, .int .i64 0, .int .i64 0, .int .i64 0, .int .i64 0, .int .i64 0, .complex .f64 0 0]) (by simp [results, Try.results64, go_sem, y0, y1, y2, y3, y4, y5, y6, y7, y8]) rfl ⟨rfl, below_set9 B2.out (by omega) _ _ _ _ _ _ _ _ _⟩

set_option maxHeartbeats 2000000 in
set_option maxRecDepth 100000 in
theorem find_some (c h x : Int) (A : Option Addr) (cA n : Nat) (ls : List Ly) (i p : Int) (K : Kn) (st : Int) (ch cx cy : Nat) (w : World) (hx : Rl w A ls) (ln : n = ls.length) (hn : n ≤ 1000) (hK : K = atN ⟨c, h, x, ls⟩ i) (hh : hasK K p = true)
    (hst : st = (if K.l.k = 3 then K.l.s else K.l.t)) (hch : chI K.u.c K.u.h K.u.x p = (ch : Int)) (hcx : colI K.u.c K.u.h K.u.x p * st = (cx : Int)) (hcy : rowI K.u.c K.u.h K.u.x p * st = (cy : Int)) (bx : cx ≤ 1000000000) (bY : cy ≤ 1000000000) :
    Calls Try.prog 64 #[.agg #[.int .i64 c, .int .i64 h, .int .i64 x, .slice A n cA], .int .i64 i, .int .i64 p] w fun e w' => e = .returned (.agg #[.int .i64 K.l.k, .int .i64 K.l.o, .int .i64 K.l.s, .int .i64 K.l.t, .int .i64 K.i.c, .int .i64 K.i.h, .int .i64 K.i.x, .int .i64 (ch : Int), .complex .f64 (fl cx) (fl cy)]) ∧ Below w.heap.size w w' := by
  have HH := Lib.hid hh; have HK := Lib.hid hK; have HCH := Lib.hid hch
  obtain ⟨col, hcol⟩ : ∃ col, col = colI K.u.c K.u.h K.u.x p := ⟨_, rfl⟩
  obtain ⟨row, hrow⟩ : ∃ row, row = rowI K.u.c K.u.h K.u.x p := ⟨_, rfl⟩
  rw [← hcol] at hcx
  rw [← hrow] at hcy
  have HCOL := Lib.hid hcol; have HROW := Lib.hid hrow; have HST := Lib.hid hst
  clear hh hch hcol hrow hst
  have z1 : 0 ≤ col * st := by omega
  have z2 : col * st ≤ 1000000000 := by omega
  have z3 : 0 ≤ row * st := by omega
  have z4 : row * st ≤ 1000000000 := by omega
  have hE : errN ⟨c, h, x, ls⟩ = 0 := by
    by_cases e : errN ⟨c, h, x, ls⟩ = 0
    · exact e
    · have := HH.out; rw [hK, at_none e, hasK_z] at this; cases this
  have hI : 0 ≤ i ∧ i < (ls.length : Int) := by
    by_cases e : 0 ≤ i ∧ i < (ls.length : Int)
    · exact e
    · have := HH.out; rw [hK, at_far e, hasK_z] at this; cases this
  obtain ⟨j, rfl⟩ : ∃ j : Nat, i = j := ⟨i.toNat, by omega⟩
  have HE0 := Lib.hid hE; have HI := Lib.hid hI
  clear hE hI hK
  have hcs : ∀ (a : Addr) (k : FloatKind) (re im : Nat) (m : Mode) (w : World), (store a (.complex k re im) m).run Try.prog w = stored Try.prog w a (.complex k re im) m := fun a k re im m w => run_store Try.prog w a _ m rfl
  have HX := Lib.hid hx; have LX := Lib.hid ln
  clear hx ln
  obtain ⟨er, her⟩ : ∃ er, er = errN ⟨c, h, x, ls⟩ := ⟨_, rfl⟩
  have HER := Lib.hid her
  clear her
  go_enter Try.func64, Try.ntmps64
  go_wp2_with fail
  refine (shapes_any c h x A cA n ls _ (HX.out.below (below_two w _ _)) LX.out hn).mono ?_
  rintro e w1 ⟨A1, k1, n1, rfl, hn1, hR, hb, hd1, hd2⟩
  rw [← HER.out]
  have B1 := Lib.hid (chain (below_two w _ _) hb)
  have N1 := Lib.hid (((NB.new w c h x (.slice A n cA)).alloc (.cells #[.int .i64 0, .int .i64 0, .int .i64 0, .int .i64 0, .int .i64 0, .int .i64 0, .int .i64 0, .int .i64 0, .complex .f64 0 0] 87)).below hb)
  have Z1 := Lib.hid ((zb_two w (.cells #[.int .i64 c, .int .i64 h, .int .i64 x, .slice A n cA] 26)).below hb)
  obtain ⟨c0, c1, c2, c3⟩ := N1.out.cells
  obtain ⟨y0, y1, y2, y3, y4, y5, y6, y7, y8⟩ := Z1.out.cells
  have f0 := Z1.out.frozen 0
  have f1 := Z1.out.frozen 1
  have f2 := Z1.out.frozen 2
  have f3 := Z1.out.frozen 3
  have f4 := Z1.out.frozen 4
  have f5 := Z1.out.frozen 5
  have f6 := Z1.out.frozen 6
  have f7 := Z1.out.frozen 7
  have f8 := Z1.out.frozen 8
  have lz1 := Z1.out.lt
  clear hb hd1 hd2
  have h0 : er = 0 := by rw [HER.out, HE0.out]
  subst h0
  have jn : j < n := by have := HI.out.2; rw [← LX.out] at this; omega
  have d0 : decide ((j : Int) < 0) = false := decide_eq_false (by omega)
  have d1 : decide ((n : Int) ≤ (j : Int)) = false := decide_eq_false (by omega)
  have d2 : decide (n ≤ j) = false := by simp; omega
  have he := HER.out.symm
  rw [shN_ok he] at hR hn1
  rw [sh_len, ← LX.out] at hn1
  obtain ⟨bS, oS, rfl, hlS, hcS⟩ := hR (by rw [sh_len]; omega)
  obtain ⟨b1, o1, rfl, l1, q⟩ := HX.out (by rw [← LX.out]; omega)
  have hjl : j < ls.length := by rw [← LX.out]; exact jn
  obtain ⟨l, hle⟩ : ∃ l, l = ls.getD j Ly.z := ⟨_, rfl⟩
  have hq := (q j hjl).below B1.out l1
  rw [← hle] at hq
  have hl : ls[j]? = some l := by rw [hle]; exact get_ly hjl
  have hKe : K = ⟨l, endS ⟨c, h, x⟩ (ls.take j), outS (endS ⟨c, h, x⟩ (ls.take j)) l, sumW ⟨c, h, x⟩ (ls.take j)⟩ := by rw [HK.out, at_some he hl]
  have hKl : l = K.l := by rw [hKe]
  have g1 := sh_get ls ⟨c, h, x⟩ j (by omega)
  rw [show endS ⟨c, h, x⟩ (ls.take j) = K.i by rw [hKe]] at g1
  have g2 := sh_get ls ⟨c, h, x⟩ (j + 1) (by omega)
  rw [show endS ⟨c, h, x⟩ (ls.take (j + 1)) = K.u by rw [hKe, end_next hl]] at g2
  rw [hKl] at hq
  obtain ⟨p0, p1, p2, p3⟩ := hq
  obtain ⟨m, hm⟩ : ∃ m, m = j + 1 := ⟨_, rfl⟩
  obtain ⟨a0, a1, a2⟩ := sh_at hcS g1
  obtain ⟨a3, a4, a5⟩ := sh_at hcS g2
  rw [← hm] at a3 a4 a5
  have ja : (0 : Int) ≤ (j : Int) := by omega
  have jb : (j : Int) < (n1 : Int) := by omega
  have jb' : j < n1 := by omega
  have jc : (j : Int) < (n : Int) := by omega
  have ma : (0 : Int) ≤ (m : Int) := by omega
  have mb : (m : Int) < (n1 : Int) := by omega
  have mb' : m < n1 := by omega
  have v1 : IntKind.i64.wrap ((j : Int) + 1) = (m : Int) := next_i64 hm (Nat.lt_succ_self j) (by omega)
  have v2 : wrap64 ((j : Int) + 1) = (m : Int) := next_wrap hm (Nat.lt_succ_self j) (by omega)
  have l1r : b1 < w1.heap.size := Nat.lt_of_lt_of_le l1 B1.out.size
  clear hKe hKl g1 g2 hl hle he hn1 hm hcS q l1
  go_wp2_with fail
  refine (of_any K.u.c K.u.h K.u.x p _).mono ?_
  rintro e w2 ⟨rfl, hb⟩
  rw [show hasB K.u.c K.u.h K.u.x p = true from HH.out, HCH.out, ← HCOL.out, ← HROW.out]
  have B2 := Lib.hid (chain B1.out hb)
  have Z2 := Lib.hid (Z1.out.below hb)
  have N2 := Lib.hid (N1.out.below hb)
  have r0 := (hb.cell (p := ⟨bS, oS + j * 3, none⟩) hlS).trans a0
  have r1 := (hb.cell (p := ⟨bS, oS + j * 3 + 1, none⟩) hlS).trans a1
  have r2 := (hb.cell (p := ⟨bS, oS + j * 3 + 2, none⟩) hlS).trans a2
  have s0 := (hb.cell (p := ⟨b1, o1 + j * 4, none⟩) l1r).trans p0
  have s1 := (hb.cell (p := ⟨b1, o1 + j * 4 + 1, none⟩) l1r).trans p1
  have s2 := (hb.cell (p := ⟨b1, o1 + j * 4 + 2, none⟩) l1r).trans p2
  have s3 := (hb.cell (p := ⟨b1, o1 + j * 4 + 3, none⟩) l1r).trans p3
  have lS2 : bS < w2.heap.size := Nat.lt_of_lt_of_le hlS hb.size
  have lb2 : b1 < w2.heap.size := Nat.lt_of_lt_of_le l1r hb.size
  clear hb y0 f0 y1 f1 y2 f2 y3 f3 y4 f4 y5 f5 y6 f6 y7 f7 y8 f8 c0 c1 c2 c3 lz1 a0 a1 a2 a3 a4 a5 p0 p1 p2 p3 l1r v1 v2
  obtain ⟨c0, c1, c2, c3⟩ := N2.out.cells
  obtain ⟨y0, y1, y2, y3, y4, y5, y6, y7, y8⟩ := Z2.out.cells
  have f0 := Z2.out.frozen 0
  have f1 := Z2.out.frozen 1
  have f2 := Z2.out.frozen 2
  have f3 := Z2.out.frozen 3
  have f4 := Z2.out.frozen 4
  have f5 := Z2.out.frozen 5
  have f6 := Z2.out.frozen 6
  have f7 := Z2.out.frozen 7
  have f8 := Z2.out.frozen 8
  have lz2 := Z2.out.lt
  have cv1 : ∀ w : World, (convert 3 119 (.int .i64 (cx : Int))).run Try.prog w = .ok (.float .f64 (fl cx)) w := fun w => run_convert_int_float w 3 119 .i64 .f64 _ (by kernel_rfl) Try.underlying119
  have cv2 : ∀ w : World, (convert 3 119 (.int .i64 (cy : Int))).run Try.prog w = .ok (.float .f64 (fl cy)) w := fun w => run_convert_int_float w 3 119 .i64 .f64 _ (by kernel_rfl) Try.underlying119
  by_cases k3 : K.l.k = 3
  · have e3 : (K.l.k == 3) = true := by rw [k3]; rfl
    have hS := HST.out
    rw [if_pos k3] at hS
    rw [hS] at hcx hcy z1 z2 z3 z4
    clear k3 hS
    go_wp2_with fail
    go_region
    go_wp2_with fail
    exact bodyPost_ret (v := .agg #[.int .i64 K.l.k, .int .i64 K.l.o, .int .i64 K.l.s, .int .i64 K.l.t, .int .i64 K.i.c, .int .i64 K.i.h, .int .i64 K.i.x, .int .i64 (ch : Int), .complex .f64 (fl cx) (fl cy)]) (by simp [results, Try.results64, go_sem, y0, y1, y2, y3, y4, y5, y6, y7, y8, lz2]) rfl ⟨rfl, (chain_alloc (below_set9 B2.out (by omega) _ _ _ _ _ _ _ _ _) _).drew⟩
  · have e3 : (K.l.k == 3) = false := by simpa using k3
    have hS := HST.out
    rw [if_neg k3] at hS
    rw [hS] at hcx hcy z1 z2 z3 z4
    clear k3 hS
    go_wp2_with fail
    go_region
    go_wp2_with fail
    exact bodyPost_ret (v := .agg #[.int .i64 K.l.k, .int .i64 K.l.o, .int .i64 K.l.s, .int .i64 K.l.t, .int .i64 K.i.c, .int .i64 K.i.h, .int .i64 K.i.x, .int .i64 (ch : Int), .complex .f64 (fl cx) (fl cy)]) (by simp [results, Try.results64, go_sem, y0, y1, y2, y3, y4, y5, y6, y7, y8, lz2]) rfl ⟨rfl, (chain_alloc (below_set9 B2.out (by omega) _ _ _ _ _ _ _ _ _) _).drew⟩

end Go.Proofs.Ytnfmpladdfgadaa
