/-
  What the laws of this seat stand on, part 6.
-/
import Derived.Test.YtklgjhldebdegaaB05
import Derived.Deep.QuietTactic
import Derived.BigQuiet
import Derived.StillTailTactics
import Derived.Laws.Bits64
import Derived.Laws.Bits64b
import Derived.Laws.StructEq
namespace Go.Proofs.Ytklgjhldebdegaa
open Go.RowKit

/-- A layer that has a place which comes out. -/
theorem has_layer {c h x : Int} {ls : List Ly} {i p : Int} (hh : hasK (atN ⟨c, h, x, ls⟩ i) p = true) :
    errN ⟨c, h, x, ls⟩ = 0 ∧ ∃ (j : Nat) (l : Ly), i = j ∧ ls[j]? = some l ∧ atN ⟨c, h, x, ls⟩ i = ⟨l, endS ⟨c, h, x⟩ (ls.take j), outS (endS ⟨c, h, x⟩ (ls.take j)) l, sumW ⟨c, h, x⟩ (ls.take j)⟩ ∧ lyB l = true ∧ (endS ⟨c, h, x⟩ (ls.take j)).r = true ∧ okS (endS ⟨c, h, x⟩ (ls.take j)) l = true := by
  have hE : errN ⟨c, h, x, ls⟩ = 0 := by
    by_cases e : errN ⟨c, h, x, ls⟩ = 0
    · exact e
    · rw [at_none e, hasK_z] at hh; cases hh
  have hI : 0 ≤ i ∧ i < (ls.length : Int) := by
    by_cases e : 0 ≤ i ∧ i < (ls.length : Int)
    · exact e
    · rw [at_far e, hasK_z] at hh; cases hh
  obtain ⟨j, rfl⟩ : ∃ j : Nat, i = j := ⟨i.toNat, by omega⟩
  have hl := get_ly (show j < ls.length by omega)
  obtain ⟨a, b, d⟩ := layer_facts hE hl
  exact ⟨hE, j, _, rfl, hl, at_some hE hl, a, b, d⟩
theorem sum_all {c h x : Int} {ls : List Ly} (e : errN ⟨c, h, x, ls⟩ = 0) (j : Nat) : 0 ≤ sumW ⟨c, h, x⟩ (ls.take j) ∧ sumW ⟨c, h, x⟩ (ls.take j) ≤ 512 := by
  obtain ⟨r, f3, t, a, b, l8⟩ := ok_all e
  have h1 := sum_bd (s := ⟨c, h, x⟩) r (all_take f3 j) (fit_take t j) (by rw [List.length_take]; omega)
  refine ⟨h1.1, ?_⟩
  have h2 := w_app (ls.take j) (ls.drop j) ⟨c, h, x⟩
  rw [List.take_append_drop] at h2
  have h3 : fitL (endS ⟨c, h, x⟩ (ls.take j)) (ls.drop j) = true := by
    have := t
    rw [← List.take_append_drop j ls, fit_app, Bool.and_eq_true] at this
    exact this.2
  have h4 := sum_bd (s := endS ⟨c, h, x⟩ (ls.take j)) (end_right _ _ r (all_take f3 j) (fit_take t j)) (by rw [List.all_eq_true] at f3 ⊢; exact fun y hy => f3 y (List.mem_of_mem_drop hy)) h3 (by rw [List.length_drop]; omega)
  omega
/-- Channel, row and column of a place that comes out. -/
theorem of_bd {s : Sh} {p : Int} (hh : hasB s.c s.h s.x p = true) :
    (0 ≤ chI s.c s.h s.x p ∧ chI s.c s.h s.x p < s.c) ∧ (0 ≤ rowI s.c s.h s.x p ∧ rowI s.c s.h s.x p < s.h) ∧ (0 ≤ colI s.c s.h s.x p ∧ colI s.c s.h s.x p < s.x) := by
  obtain ⟨e1, e2, e3⟩ := of_yes hh
  obtain ⟨_, k0, k1, y0, y1, x0, x1⟩ := insideB_out (of_at hh).1
  rw [e1, e2, e3]
  exact ⟨⟨k0, k1⟩, ⟨y0, y1⟩, ⟨x0, x1⟩⟩

set_option maxHeartbeats 1000000 in
set_option maxRecDepth 100000 in
theorem terms_none (c h x : Int) (A : Option Addr) (cA n : Nat) (ls : List Ly) (i p : Int) (w : World) (hx : Rl w A ls) (ln : n = ls.length) (hn : n ≤ 1000) (hh : hasK (atN ⟨c, h, x, ls⟩ i) p = false) :
    Calls Try.prog 70 #[.agg #[.int .i64 c, .int .i64 h, .int .i64 x, .slice A n cA], .int .i64 i, .int .i64 p] w fun e w' => e = .returned (.slice none 0 0) ∧ Below w.heap.size w w' := by
  have HH := Lib.hid hh
  clear hh
  have hcs : ∀ (a : Addr) (k : FloatKind) (re im : Nat) (m : Mode) (w : World), (store a (.complex k re im) m).run Try.prog w = stored Try.prog w a (.complex k re im) m := fun a k re im m w => run_store Try.prog w a _ m rfl
  have HX := Lib.hid hx; have LX := Lib.hid ln
  clear hx ln
  go_enter Try.func70, Try.ntmps70
  go_wp2_with fail
  refine (find_none c h x A cA n ls i p _ (HX.out.below ((Below.refl _ w).alloc (Nat.le_refl _) _)) LX.out hn HH.out).mono ?_
  rintro e w1 ⟨rfl, hb⟩
  have B1 := Lib.hid (chain ((Below.refl w.heap.size w).alloc (Nat.le_refl _) _) hb)
  have N1 := Lib.hid ((NB.new w c h x (.slice A n cA)).below hb)
  obtain ⟨c0, c1, c2, c3⟩ := N1.out.cells
  have lw1 := N1.out.lt
  clear hb
  go_wp2_with fail
  refine (weights_of c h x A cA n ls i _ (HX.out.below (chain_alloc B1.out _)) LX.out hn).mono ?_
  rintro e w2 ⟨rfl, hb⟩
  have B2 := Lib.hid (chain (chain_alloc B1.out _) hb)
  have c0 := (hb.cell (p := ⟨w1.heap.size, 0, none⟩) (by show w1.heap.size < _; simp))
  rw [show (w1.alloc (.cells #[.int .i64 0, .int .i64 0, .int .i64 0, .int .i64 0, .int .i64 0, .int .i64 0, .int .i64 0, .int .i64 0, .complex .f64 0 0] 121)).cell? ⟨w1.heap.size, 0, none⟩ = some (.int .i64 0) by go_simp] at c0
  clear hb
  go_wp2_with fail
  go_ret
  exact ⟨rfl, B2.out⟩
set_option maxHeartbeats 1000000 in
set_option maxRecDepth 100000 in
theorem parts_none (c h x : Int) (A : Option Addr) (cA n : Nat) (ls : List Ly) (i p : Int) (w : World) (hx : Rl w A ls) (ln : n = ls.length) (hn : n ≤ 1000) (hh : hasK (atN ⟨c, h, x, ls⟩ i) p = false) :
    Calls Try.prog 73 #[.agg #[.int .i64 c, .int .i64 h, .int .i64 x, .slice A n cA], .int .i64 i, .int .i64 p] w fun e w' => e = .returned (.slice none 0 0) ∧ Below w.heap.size w w' := by
  have HH := Lib.hid hh
  clear hh
  have hcs : ∀ (a : Addr) (k : FloatKind) (re im : Nat) (m : Mode) (w : World), (store a (.complex k re im) m).run Try.prog w = stored Try.prog w a (.complex k re im) m := fun a k re im m w => run_store Try.prog w a _ m rfl
  have HX := Lib.hid hx; have LX := Lib.hid ln
  clear hx ln
  go_enter Try.func73, Try.ntmps73
  go_wp2_with fail
  refine (find_none c h x A cA n ls i p _ (HX.out.below ((Below.refl _ w).alloc (Nat.le_refl _) _)) LX.out hn HH.out).mono ?_
  rintro e w1 ⟨rfl, hb⟩
  have B1 := Lib.hid (chain ((Below.refl w.heap.size w).alloc (Nat.le_refl _) _) hb)
  clear hb
  go_wp2_with fail
  go_ret
  exact ⟨rfl, chain_alloc B1.out _⟩

set_option maxHeartbeats 2000000 in
set_option maxRecDepth 100000 in
theorem terms_snew (c h x : Int) (A : Option Addr) (cA n : Nat) (ls : List Ly) (i p : Int) (K : Kn) (w : World) (hx : Rl w A ls) (ln : n = ls.length) (hn : n ≤ 1000) (hK : K = atN ⟨c, h, x, ls⟩ i) (hh : hasK K p = true) :
    Calls Try.prog 70 #[.agg #[.int .i64 c, .int .i64 h, .int .i64 x, .slice A n cA], .int .i64 i, .int .i64 p] w (RowNew tcells (termsK K p) w) := by
  have hh2 := hh
  rw [hK] at hh2
  obtain ⟨hE, j, l, hij, hl, hat, hly, hr, hok⟩ := has_layer hh2
  rw [← hK] at hat
  have hsum := sum_all hE j
  have KOK : KnOk K := by rw [hK]; exact at_ok _ _
  have hu : K.u.r = true := by rw [hat]; exact out_right hr hly hok
  have hir : K.i.r = true := by rw [hat]; exact hr
  obtain ⟨u1, u2, u3, u4, u5, u6, u7⟩ := right_bd hu
  obtain ⟨r1, r2, r3, r4, r5, r6, r7⟩ := right_bd hir
  obtain ⟨⟨ch0, ch1⟩, ⟨ro0, ro1⟩, ⟨co0, co1⟩⟩ := of_bd (s := K.u) hh
  have hKa : K.a = sumW ⟨c, h, x⟩ (ls.take j) := by rw [hat]
  rw [← hKa] at hsum
  have hkind : K.l.k = 1 ∨ K.l.k = 2 ∨ K.l.k = 3 ∨ K.l.k = 4 := by rw [hat]; exact ly_kind hly
  have hrest : lyB K.l = true := by rw [hat]; exact hly
  -- the step
  obtain ⟨st, hst⟩ : ∃ st, st = (if K.l.k = 3 then K.l.s else K.l.t) := ⟨_, rfl⟩
  have hst0 : 0 ≤ st ∧ st ≤ 999999 ∧ (K.l.k = 1 → st = K.l.t ∧ st ≤ 12) := by
    rcases hkind with k | k | k | k
    · rw [hst, if_neg (by omega)]
      have ho2 : okS K.i K.l = true := by rw [hat]; exact hok
      rw [(out_conv K.i k).2] at ho2
      obtain ⟨_, _, _, _, _, t1, t2, _⟩ := convB_out ho2
      exact ⟨by omega, by omega, fun _ => ⟨rfl, t2⟩⟩
    · rw [hst, if_neg (by omega)]
      have := hrest
      unfold lyB restB at this
      rw [if_neg (by omega), if_neg (by omega), if_neg (by omega)] at this
      simp at this
      exact ⟨by omega, by omega, fun h => absurd h (by omega)⟩
    · rw [hst, if_pos k]
      have := hrest
      unfold lyB nums at this
      rw [if_neg (by omega), if_pos k] at this
      simp [winB] at this
      exact ⟨by omega, by omega, fun h => absurd h (by omega)⟩
    · rw [hst, if_neg (by omega)]
      have := hrest
      unfold lyB restB at this
      rw [if_neg (by omega), if_neg (by omega), if_pos k] at this
      simp at this
      exact ⟨by omega, by omega, fun h => absurd h (by omega)⟩
  obtain ⟨st0, st1, st2⟩ := hst0
  have m1 := mul_bd co0 (show colI K.u.c K.u.h K.u.x p ≤ 12 by omega) st0 st1
  have m2 := mul_bd ro0 (show rowI K.u.c K.u.h K.u.x p ≤ 12 by omega) st0 st1
  obtain ⟨ch, hch⟩ : ∃ ch : Nat, chI K.u.c K.u.h K.u.x p = ch := ⟨(chI K.u.c K.u.h K.u.x p).toNat, by omega⟩
  obtain ⟨cx, hcx⟩ : ∃ cx : Nat, colI K.u.c K.u.h K.u.x p * st = cx := ⟨(colI K.u.c K.u.h K.u.x p * st).toNat, by omega⟩
  obtain ⟨cy, hcy⟩ : ∃ cy : Nat, rowI K.u.c K.u.h K.u.x p * st = cy := ⟨(rowI K.u.c K.u.h K.u.x p * st).toNat, by omega⟩
  have HF : Hid (∀ w, Rl w A ls → Calls Try.prog 74 #[.agg #[.int .i64 c, .int .i64 h, .int .i64 x, .slice A n cA], .int .i64 i, .int .i64 p] w fun e w' => e = .returned (.agg #[.int .i64 K.l.k, .int .i64 K.l.o, .int .i64 K.l.s, .int .i64 K.l.t, .int .i64 K.i.c, .int .i64 K.i.h, .int .i64 K.i.x, .int .i64 (ch : Int), .complex .f64 (fl cx) (fl cy)]) ∧ Below w.heap.size w w') := fun w hx =>
    find_some c h x A cA n ls i p K st ch cx cy w hx ln hn hK hh hst hch hcx hcy (by omega) (by omega)
  have HWt : Hid (∀ w, Rl w A ls → Calls Try.prog 75 #[.agg #[.int .i64 c, .int .i64 h, .int .i64 x, .slice A n cA], .int .i64 i] w fun e w' => e = .returned (.tuple #[.int .i64 K.a, .int .i64 K.w]) ∧ Below w.heap.size w w') := fun w hx => by
    rw [hK]; exact weights_of c h x A cA n ls i w hx ln hn
  obtain ⟨a, ha⟩ : ∃ a, a = K.a := ⟨_, rfl⟩
  obtain ⟨b, hb⟩ : ∃ b, b = K.w := ⟨_, rfl⟩
  rw [← ha, ← hb] at HWt
  rw [← ha] at hsum
  obtain ⟨sm0, sm1⟩ := hsum
  have HTO : Hid (termsK K p = if K.l.k = 1 then seqT (a + (ch : Int) * K.i.c * K.l.s * K.l.s) (chanL K.i (cy : Int) (cx : Int) K.l.s.toNat K.i.c.toNat) else if K.l.k = 2 then [⟨p, -1⟩] else if K.l.k = 4 then seqT (a + (ch : Int) * K.i.n) (numL K.i.n.toNat) else []) := by
    show _ = _
    unfold termsK
    rw [hch, ← ha]
    by_cases k1 : K.l.k = 1
    · rw [if_pos k1, if_pos k1, ← (st2 k1).1, hcx, hcy]
    · rw [if_neg k1, if_neg k1]
      by_cases k4 : K.l.k = 4
      · rw [if_neg (show ¬ K.l.k = 2 by omega), if_pos k4, if_neg (show ¬ K.l.k = 2 by omega), if_pos k4, ← hch]
        have e1 : K.u = ⟨K.l.o, 1, 1⟩ := by rw [hat]; exact (out_dense _ (by have := k4; rw [hat] at this; exact this)).1
        have e2 := (of_yes hh).1
        rw [e1] at e2 ⊢
        rw [e2]; simp
      · rw [if_neg k4, if_neg k4]
  have hc8 : ch ≤ 8 := by omega
  have S4 : K.l.k = 4 → K.l.s = 0 := fun k4 => by
    have := hrest
    unfold lyB restB at this
    rw [if_neg (by omega), if_neg (by omega), if_pos k4] at this
    simp at this
    omega
  have HS4 := Lib.hid S4
  have X12 : K.l.k = 1 → 0 ≤ K.l.s ∧ K.l.s ≤ 12 ∧ cx ≤ 150 ∧ cy ≤ 150 := fun k1 => by
    obtain ⟨_, _, _, _, a5, a6, _⟩ := KOK.1 k1
    have z1 := mul_bd co0 (show colI K.u.c K.u.h K.u.x p ≤ 11 by omega) st0 (st2 k1).2
    have z2 := mul_bd ro0 (show rowI K.u.c K.u.h K.u.x p ≤ 11 by omega) st0 (st2 k1).2
    exact ⟨a5, a6, by omega, by omega⟩
  have HX12 := Lib.hid X12
  have LN := Lib.hid ln
  have RC : 0 ≤ K.i.c ∧ K.i.c ≤ 8 := ⟨by omega, r2⟩
  have HN : Hid (sizeI K.i.c K.i.h K.i.x = K.i.n) := rfl
  have SN := size_bd K.i
  clear X12 S4 hst hch hcx hcy m1 m2 st0 st1 st2 hrest hKa ha hb KOK hu hir u1 u2 u3 u4 u5 u6 u7 r1 r2 r3 r4 r5 r6 r7 ch0 ch1 ro0 ro1 co0 co1 hat hly hr hok hl hij hE hh2 hh hK
  have hcs : ∀ (a : Addr) (k : FloatKind) (re im : Nat) (m : Mode) (w : World), (store a (.complex k re im) m).run Try.prog w = stored Try.prog w a (.complex k re im) m := fun a k re im m w => run_store Try.prog w a _ m rfl
  have HX := Lib.hid hx
  clear hx ln
  go_enter Try.func70, Try.ntmps70
  go_wp2_with fail
  refine (HF.out _ (HX.out.below ((Below.refl _ w).alloc (Nat.le_refl _) _))).mono ?_
  rintro e w1 ⟨rfl, hb⟩
  have B1 := Lib.hid (chain ((Below.refl w.heap.size w).alloc (Nat.le_refl _) _) hb)
  have N1 := Lib.hid ((NB.new w c h x (.slice A n cA)).below hb)
  obtain ⟨c0, c1, c2, c3⟩ := N1.out.cells
  have lw1 := N1.out.lt
  clear hb
  go_wp2_with fail
  refine (HWt.out _ (HX.out.below (chain_alloc B1.out _))).mono ?_
  rintro e w2 ⟨rfl, hb⟩
  have B2 := Lib.hid (chain (chain_alloc B1.out _) hb)
  have hXB : w2.heap[w1.heap.size]? = some (.cells #[.int .i64 K.l.k, .int .i64 K.l.o, .int .i64 K.l.s, .int .i64 K.l.t, .int .i64 K.i.c, .int .i64 K.i.h, .int .i64 K.i.x, .int .i64 (ch : Int), .complex .f64 (fl cx) (fl cy)] 121 (0, 0)) := (hb.block w1.heap.size (by simp)).trans (heap_alloc_new w1 _)
  have y0 : w2.cell? ⟨w1.heap.size, 0, none⟩ = some (.int .i64 K.l.k) := by rw [Lib.cell_of_heap hXB]; rfl
  have y1 : w2.cell? ⟨w1.heap.size, 1, none⟩ = some (.int .i64 K.l.o) := by rw [Lib.cell_of_heap hXB]; rfl
  have y2 : w2.cell? ⟨w1.heap.size, 2, none⟩ = some (.int .i64 K.l.s) := by rw [Lib.cell_of_heap hXB]; rfl
  have y3 : w2.cell? ⟨w1.heap.size, 3, none⟩ = some (.int .i64 K.l.t) := by rw [Lib.cell_of_heap hXB]; rfl
  have y4 : w2.cell? ⟨w1.heap.size, 4, none⟩ = some (.int .i64 K.i.c) := by rw [Lib.cell_of_heap hXB]; rfl
  have y5 : w2.cell? ⟨w1.heap.size, 5, none⟩ = some (.int .i64 K.i.h) := by rw [Lib.cell_of_heap hXB]; rfl
  have y6 : w2.cell? ⟨w1.heap.size, 6, none⟩ = some (.int .i64 K.i.x) := by rw [Lib.cell_of_heap hXB]; rfl
  have y7 : w2.cell? ⟨w1.heap.size, 7, none⟩ = some (.int .i64 (ch : Int)) := by rw [Lib.cell_of_heap hXB]; rfl
  have y8 : w2.cell? ⟨w1.heap.size, 8, none⟩ = some (.complex .f64 (fl cx) (fl cy)) := by rw [Lib.cell_of_heap hXB]; rfl
  clear hb hXB c0 c1 c2 c3 lw1
  by_cases k1 : K.l.k = 1
  · have e1 : (K.l.k == 1) = true := by rw [k1]; rfl
    obtain ⟨x1, x2, x3, x4⟩ := HX12.out k1
    obtain ⟨m, hm⟩ : ∃ m : Nat, K.l.s = m := ⟨K.l.s.toNat, by omega⟩
    obtain ⟨cn, hcn⟩ : ∃ cn : Nat, K.i.c = cn := ⟨K.i.c.toNat, by omega⟩
    have hT := HTO.out
    rw [if_pos k1, hm, show (m : Int).toNat = m from rfl, show K.i.c.toNat = cn by rw [hcn]; rfl] at hT
    have HT := Lib.hid hT
    have HO : Hid (∀ w, Calls Try.prog 76 #[.agg #[.int .i64 K.l.k, .int .i64 K.l.o, .int .i64 K.l.s, .int .i64 K.l.t, .int .i64 K.i.c, .int .i64 K.i.h, .int .i64 K.i.x, .int .i64 (ch : Int), .complex .f64 (fl cx) (fl cy)], .int .i64 a] w (RowNew tcells (termsK K p) w)) := fun w => by
      have := ofWindows_new K.l.k K.l.o K.l.t (ch : Int) K.i m cx cy cn a w (by omega) x3 x4 hcn (by omega) (by omega) (by omega) sm0 sm1
      rw [HT.out, hm]
      exact this
    clear hT hm hcn k1 x1 x2 x3 x4
    go_wp2_with fail
    refine (HO.out _).mono ?_
    rintro e w3 ⟨A3, k3, n3, rfl, h1, h2, hb, h4, h5, h6⟩
    have H1 := Lib.hid h1; have H2 := Lib.hid h2; have HB := Lib.hid (chain B2.out hb); have H4 := Lib.hid h4; have H5 := Lib.hid h5
    have NEW : Hid (∀ a, A3 = some a → w.heap.size ≤ a.block) := fun a ha => Nat.le_trans B2.out.size (h6 a ha)
    clear h1 h2 hb h4 h5 h6
    go_wp2_with fail
    go_ret
    exact ⟨A3, k3, n3, rfl, H1.out, H2.out, HB.out, H4.out, H5.out, NEW.out⟩
  · have e1 : (K.l.k == 1) = false := by simpa using k1
    by_cases k2 : K.l.k = 2
    · have e2 : (K.l.k == 2) = true := by rw [k2]; rfl
      have hT := HTO.out
      rw [if_neg k1, if_pos k2] at hT
      have HT := Lib.hid hT
      clear hT k1 k2
      go_wp2_with fail
      go_ret
      refine ⟨some ⟨w2.heap.size, 0, none⟩, 1, 1, rfl, by rw [HT.out]; rfl, ?_, chain_alloc B2.out _, Nat.le_refl _, by decide, fun a ha => by cases ha; exact B2.out.size⟩
      rw [HT.out]
      exact rg_block (heap_alloc_new w2 _) rfl
    · have e2 : (K.l.k == 2) = false := by simpa using k2
      by_cases k4 : K.l.k = 4
      · have e4 : (K.l.k == 4) = true := by rw [k4]; rfl
        obtain ⟨m, hm⟩ : ∃ m : Nat, K.l.s = m := ⟨0, HS4.out k4⟩
        obtain ⟨q, hq⟩ : ∃ q : Nat, K.i.n = q := ⟨K.i.n.toNat, by omega⟩
        have hT := HTO.out
        rw [if_neg k1, if_neg k2, if_pos k4, hq, show (q : Int).toNat = q from rfl] at hT
        have HT := Lib.hid hT
        have HO : Hid (∀ w, Calls Try.prog 77 #[.agg #[.int .i64 K.l.k, .int .i64 K.l.o, .int .i64 K.l.s, .int .i64 K.l.t, .int .i64 K.i.c, .int .i64 K.i.h, .int .i64 K.i.x, .int .i64 (ch : Int), .complex .f64 (fl cx) (fl cy)], .int .i64 a] w (RowNew tcells (termsK K p) w)) := fun w => by
          have := ofAll_new K.l.k K.l.o K.l.t (ch : Int) K.i m cx cy q a w (by rw [HN.out, hq]) (by omega) (by omega) sm0 sm1
          rw [HT.out, hm]
          exact this
        clear hT hm hq k1 k2 k4
        go_wp2_with fail
        refine (HO.out _).mono ?_
        rintro e w3 ⟨A3, k3, n3, rfl, h1, h2, hb, h4, h5, h6⟩
        have H1 := Lib.hid h1; have H2 := Lib.hid h2; have HB := Lib.hid (chain B2.out hb); have H4 := Lib.hid h4; have H5 := Lib.hid h5
        have NEW : Hid (∀ a, A3 = some a → w.heap.size ≤ a.block) := fun a ha => Nat.le_trans B2.out.size (h6 a ha)
        clear h1 h2 hb h4 h5 h6
        go_wp2_with fail
        go_ret
        exact ⟨A3, k3, n3, rfl, H1.out, H2.out, HB.out, H4.out, H5.out, NEW.out⟩
      · have e4 : (K.l.k == 4) = false := by simpa using k4
        have hT := HTO.out
        rw [if_neg k1, if_neg k2, if_neg k4] at hT
        have HT := Lib.hid hT
        clear hT k1 k2 k4
        go_wp2_with fail
        go_ret
        exact ⟨none, 0, 0, rfl, by rw [HT.out]; rfl, by rw [HT.out]; exact Rg.nil _ _ _, B2.out, Nat.le_refl _, Nat.zero_le _, fun a ha => by cases ha⟩
theorem terms_some (c h x : Int) (A : Option Addr) (cA n : Nat) (ls : List Ly) (i p : Int) (K : Kn) (w : World) (hx : Rl w A ls) (ln : n = ls.length) (hn : n ≤ 1000) (hK : K = atN ⟨c, h, x, ls⟩ i) (hh : hasK K p = true) :
    Calls Try.prog 70 #[.agg #[.int .i64 c, .int .i64 h, .int .i64 x, .slice A n cA], .int .i64 i, .int .i64 p] w (RowTo tcells (termsK K p) w) := by
  exact (terms_snew c h x A cA n ls i p K w hx ln hn hK hh).mono fun _ _ h => h.row

set_option maxHeartbeats 2000000 in
set_option maxRecDepth 100000 in
theorem parts_some (c h x : Int) (A : Option Addr) (cA n : Nat) (ls : List Ly) (i p : Int) (K : Kn) (w : World) (hx : Rl w A ls) (ln : n = ls.length) (hn : n ≤ 1000) (hK : K = atN ⟨c, h, x, ls⟩ i) (hh : hasK K p = true) :
    Calls Try.prog 73 #[.agg #[.int .i64 c, .int .i64 h, .int .i64 x, .slice A n cA], .int .i64 i, .int .i64 p] w (RowTo icells (partsK K p) w) := by
  have hh2 := hh
  rw [hK] at hh2
  obtain ⟨hE, j, l, hij, hl, hat, hly, hr, hok⟩ := has_layer hh2
  rw [← hK] at hat
  have hu : K.u.r = true := by rw [hat]; exact out_right hr hly hok
  have hir : K.i.r = true := by rw [hat]; exact hr
  obtain ⟨u1, u2, u3, u4, u5, u6, u7⟩ := right_bd hu
  obtain ⟨r1, r2, r3, r4, r5, r6, r7⟩ := right_bd hir
  obtain ⟨⟨ch0, ch1⟩, ⟨ro0, ro1⟩, ⟨co0, co1⟩⟩ := of_bd (s := K.u) hh
  have hkind : K.l.k = 1 ∨ K.l.k = 2 ∨ K.l.k = 3 ∨ K.l.k = 4 := by rw [hat]; exact ly_kind hly
  have hrest : lyB K.l = true := by rw [hat]; exact hly
  have hok2 : okS K.i K.l = true := by rw [hat]; exact hok
  obtain ⟨st, hst⟩ : ∃ st, st = (if K.l.k = 3 then K.l.s else K.l.t) := ⟨_, rfl⟩
  have hst0 : 0 ≤ st ∧ st ≤ 999999 ∧ (K.l.k = 3 → st = K.l.s ∧ st ≤ 12) := by
    rcases hkind with k | k | k | k
    · rw [hst, if_neg (by omega)]
      have ho2 := hok2
      rw [(out_conv K.i k).2] at ho2
      obtain ⟨_, _, _, _, _, t1, t2, _⟩ := convB_out ho2
      exact ⟨by omega, by omega, fun h => absurd h (by omega)⟩
    · rw [hst, if_neg (by omega)]
      have := hrest
      unfold lyB restB at this
      rw [if_neg (by omega), if_neg (by omega), if_neg (by omega)] at this
      simp at this
      exact ⟨by omega, by omega, fun h => absurd h (by omega)⟩
    · rw [hst, if_pos k]
      have ho2 := hok2
      rw [(out_pool K.i k).2] at ho2
      obtain ⟨_, t1, t2, _⟩ := poolB_out ho2
      have h12 : K.l.s ≤ K.i.h := by
        by_cases hle : K.l.s ≤ K.i.h
        · exact hle
        · rw [Int.emod_eq_of_lt (by omega) (by omega)] at t2; omega
      exact ⟨by omega, by omega, fun _ => ⟨rfl, by omega⟩⟩
    · rw [hst, if_neg (by omega)]
      have := hrest
      unfold lyB restB at this
      rw [if_neg (by omega), if_neg (by omega), if_pos k] at this
      simp at this
      exact ⟨by omega, by omega, fun h => absurd h (by omega)⟩
  obtain ⟨st0, st1, st2⟩ := hst0
  have m1 := mul_bd co0 (show colI K.u.c K.u.h K.u.x p ≤ 12 by omega) st0 st1
  have m2 := mul_bd ro0 (show rowI K.u.c K.u.h K.u.x p ≤ 12 by omega) st0 st1
  obtain ⟨ch, hch⟩ : ∃ ch : Nat, chI K.u.c K.u.h K.u.x p = ch := ⟨(chI K.u.c K.u.h K.u.x p).toNat, by omega⟩
  obtain ⟨cx, hcx⟩ : ∃ cx : Nat, colI K.u.c K.u.h K.u.x p * st = cx := ⟨(colI K.u.c K.u.h K.u.x p * st).toNat, by omega⟩
  obtain ⟨cy, hcy⟩ : ∃ cy : Nat, rowI K.u.c K.u.h K.u.x p * st = cy := ⟨(rowI K.u.c K.u.h K.u.x p * st).toNat, by omega⟩
  have HF : Hid (∀ w, Rl w A ls → Calls Try.prog 74 #[.agg #[.int .i64 c, .int .i64 h, .int .i64 x, .slice A n cA], .int .i64 i, .int .i64 p] w fun e w' => e = .returned (.agg #[.int .i64 K.l.k, .int .i64 K.l.o, .int .i64 K.l.s, .int .i64 K.l.t, .int .i64 K.i.c, .int .i64 K.i.h, .int .i64 K.i.x, .int .i64 (ch : Int), .complex .f64 (fl cx) (fl cy)]) ∧ Below w.heap.size w w') := fun w hx =>
    find_some c h x A cA n ls i p K st ch cx cy w hx ln hn hK hh hst hch hcx hcy (by omega) (by omega)
  have HTO : Hid (partsK K p = if K.l.k = 3 then winL K.i (ch : Int) (cy : Int) (cx : Int) K.l.s.toNat else []) := by
    show _ = _
    unfold partsK
    by_cases k3 : K.l.k = 3
    · rw [if_pos k3, if_pos k3, hch, ← (st2 k3).1, hcx, hcy]
    · rw [if_neg k3, if_neg k3]
  have X12 : K.l.k = 3 → 0 ≤ K.l.s ∧ K.l.s ≤ 12 ∧ cx ≤ 150 ∧ cy ≤ 150 := fun k3 => by
    have z1 := mul_bd co0 (show colI K.u.c K.u.h K.u.x p ≤ 11 by omega) st0 (st2 k3).2
    have z2 := mul_bd ro0 (show rowI K.u.c K.u.h K.u.x p ≤ 11 by omega) st0 (st2 k3).2
    have := (st2 k3)
    exact ⟨by omega, by omega, by omega, by omega⟩
  have HX12 := Lib.hid X12
  clear X12 hst hch hcx hcy m1 m2 st0 st1 st2 hrest hu hir u1 u2 u3 u4 u5 u6 u7 r1 r2 r3 r4 r5 r6 r7 ch0 ch1 ro0 ro1 co0 co1 hat hly hr hok hl hij hE hh2 hh hK hkind hok2
  have hcs : ∀ (a : Addr) (k : FloatKind) (re im : Nat) (m : Mode) (w : World), (store a (.complex k re im) m).run Try.prog w = stored Try.prog w a (.complex k re im) m := fun a k re im m w => run_store Try.prog w a _ m rfl
  have hmf : ∀ (fn : Fn) (first cap : Array Value) (w : World), (Instr.makeFunc fn first cap).run Try.prog w = .ok (.func fn first cap) w := fun _ _ _ _ => rfl
  have HX := Lib.hid hx
  clear hx ln
  go_enter Try.func73, Try.ntmps73
  go_wp2_with fail
  refine (HF.out _ (HX.out.below ((Below.refl _ w).alloc (Nat.le_refl _) _))).mono ?_
  rintro e w1 ⟨rfl, hb⟩
  have B1 := Lib.hid (chain ((Below.refl w.heap.size w).alloc (Nat.le_refl _) _) hb)
  clear hb
  by_cases k3 : K.l.k = 3
  · have e3 : (K.l.k != 3) = false := by rw [k3]; rfl
    obtain ⟨x1, x2, x3, x4⟩ := HX12.out k3
    obtain ⟨m, hm⟩ : ∃ m : Nat, K.l.s = m := ⟨K.l.s.toNat, by omega⟩
    have hT := HTO.out
    rw [if_pos k3, hm, show (m : Int).toNat = m from rfl] at hT
    have HT := Lib.hid hT
    obtain ⟨pb, hpb⟩ : ∃ pb, pb = w1.heap.size + 1 := ⟨_, rfl⟩
    have hp : w.heap.size ≤ pb := by have := B1.out.size; omega
    have HO : Hid (∀ w', PJ w pb [] w' → Calls Try.prog 78 #[.agg #[.int .i64 K.l.k, .int .i64 K.l.o, .int .i64 K.l.s, .int .i64 K.l.t, .int .i64 K.i.c, .int .i64 K.i.h, .int .i64 K.i.x, .int .i64 (ch : Int), .complex .f64 (fl cx) (fl cy)], .int .i64 (ch : Int), .func (.func 79) #[] #[.pointer (some ⟨pb, 0, none⟩)]] w' fun e w'' => e = .returned (.tuple #[]) ∧ PJ w pb (partsK K p) w'') := fun w' hj => by
      have := window_any 79 #[.pointer (some ⟨pb, 0, none⟩)] (PJ w pb) (by intro args w; go_simp) (fun xs x w1 hl hj => parts1_any w pb hp xs x w1 hl hj) (fun xs w1 w2 h1 h2 => h1.below h2) K.l.k K.l.o K.l.t (ch : Int) K.i m cx cy (ch : Int) [] w' hj (by omega) x3 x4 (by simp)
      rw [hm, HT.out]
      exact this.mono fun e w2 hh => ⟨hh.1, hh.2.1⟩
    have J0 : Hid (PJ w pb [] ((w1.alloc (.cells #[.int .i64 K.l.k, .int .i64 K.l.o, .int .i64 K.l.s, .int .i64 K.l.t, .int .i64 K.i.c, .int .i64 K.i.h, .int .i64 K.i.x, .int .i64 (ch : Int), .complex .f64 (fl cx) (fl cy)] 121)).alloc (.cells #[.slice none 0 0] 33))) := by
      refine ⟨⟨.slice none 0 0, ?_, ⟨rfl, .inl ⟨rfl, rfl⟩⟩⟩, chain_alloc (chain_alloc B1.out _) _⟩
      have := heap_alloc_new (w1.alloc (.cells #[.int .i64 K.l.k, .int .i64 K.l.o, .int .i64 K.l.s, .int .i64 K.l.t, .int .i64 K.i.c, .int .i64 K.i.h, .int .i64 K.i.x, .int .i64 (ch : Int), .complex .f64 (fl cx) (fl cy)] 121)) (.cells #[.slice none 0 0] 33)
      rw [show (w1.alloc _).heap.size = w1.heap.size + 1 by simp, ← hpb] at this
      exact this
    clear hT hm k3 x1 x2 x3 x4
    go_wp2_with fail
    rw [← hpb]
    clear hpb
    refine (HO.out _ J0.out).mono ?_
    rintro e w3 ⟨rfl, ⟨v, hV, hO⟩, hB⟩
    obtain ⟨A3, c3, hv, hd1, hd2, hd3, hd4⟩ := own_cap icells_len (by decide) hO
    subst hv
    have D2 := Lib.hid hd2; have D3 := Lib.hid hd3; have D4 := Lib.hid hd4; have B := Lib.hid hB
    have cv := hV.cell
    clear hV hO hB hd1 hd2 hd3 hd4
    go_wp2_with fail
    go_ret
    exact ⟨A3, c3, _, rfl, rfl, D2.out, B.out, D3.out, D4.out⟩
  · have e3 : (K.l.k != 3) = true := by simpa using k3
    have hT := HTO.out
    rw [if_neg k3] at hT
    have HT := Lib.hid hT
    clear hT k3
    go_wp2_with fail
    go_ret
    exact ⟨none, 0, 0, rfl, by rw [HT.out]; rfl, by rw [HT.out]; exact Rg.nil _ _ _, chain_alloc B1.out _, Nat.le_refl _, Nat.zero_le _⟩

/-- Terms and Parts, of any network, layer and place. -/
theorem terms_any (c h x : Int) (A : Option Addr) (cA n : Nat) (ls : List Ly) (i p : Int) (ts : List Tm) (hts : termsN ⟨c, h, x, ls⟩ i p = ts) (w : World) (hx : Rl w A ls) (ln : n = ls.length) (hn : n ≤ 1000) :
    Calls Try.prog 70 #[.agg #[.int .i64 c, .int .i64 h, .int .i64 x, .slice A n cA], .int .i64 i, .int .i64 p] w (RowTo tcells ts w) := by
  subst hts
  cases hh : hasK (atN ⟨c, h, x, ls⟩ i) p
  · refine (terms_none c h x A cA n ls i p w hx ln hn hh).mono ?_
    rintro e w' ⟨rfl, hb⟩
    have e0 : termsN ⟨c, h, x, ls⟩ i p = [] := if_neg (by rw [hh]; decide)
    exact ⟨none, 0, 0, rfl, by rw [e0]; rfl, by rw [e0]; exact Rg.nil _ _ _, hb, Nat.le_refl _, Nat.zero_le _⟩
  · rw [show termsN ⟨c, h, x, ls⟩ i p = termsK (atN ⟨c, h, x, ls⟩ i) p from if_pos hh]
    exact terms_some c h x A cA n ls i p _ w hx ln hn rfl hh
theorem terms_new (c h x : Int) (A : Option Addr) (cA n : Nat) (ls : List Ly) (i p : Int) (ts : List Tm) (hts : termsN ⟨c, h, x, ls⟩ i p = ts) (w : World) (hx : Rl w A ls) (ln : n = ls.length) (hn : n ≤ 1000) :
    Calls Try.prog 70 #[.agg #[.int .i64 c, .int .i64 h, .int .i64 x, .slice A n cA], .int .i64 i, .int .i64 p] w (RowNew tcells ts w) := by
  subst hts
  cases hh : hasK (atN ⟨c, h, x, ls⟩ i) p
  · refine (terms_none c h x A cA n ls i p w hx ln hn hh).mono ?_
    rintro e w' ⟨rfl, hb⟩
    have e0 : termsN ⟨c, h, x, ls⟩ i p = [] := if_neg (by rw [hh]; decide)
    exact ⟨none, 0, 0, rfl, by rw [e0]; rfl, by rw [e0]; exact Rg.nil _ _ _, hb, Nat.le_refl _, Nat.zero_le _, fun a ha => by cases ha⟩
  · rw [show termsN ⟨c, h, x, ls⟩ i p = termsK (atN ⟨c, h, x, ls⟩ i) p from if_pos hh]
    exact terms_snew c h x A cA n ls i p _ w hx ln hn rfl hh
theorem parts_any (c h x : Int) (A : Option Addr) (cA n : Nat) (ls : List Ly) (i p : Int) (xs : List Int) (hxs : partsN ⟨c, h, x, ls⟩ i p = xs) (w : World) (hx : Rl w A ls) (ln : n = ls.length) (hn : n ≤ 1000) :
    Calls Try.prog 73 #[.agg #[.int .i64 c, .int .i64 h, .int .i64 x, .slice A n cA], .int .i64 i, .int .i64 p] w (RowTo icells xs w) := by
  subst hxs
  cases hh : hasK (atN ⟨c, h, x, ls⟩ i) p
  · refine (parts_none c h x A cA n ls i p w hx ln hn hh).mono ?_
    rintro e w' ⟨rfl, hb⟩
    have e0 : partsN ⟨c, h, x, ls⟩ i p = [] := if_neg (by rw [hh]; decide)
    exact ⟨none, 0, 0, rfl, by rw [e0]; rfl, by rw [e0]; exact Rg.nil _ _ _, hb, Nat.le_refl _, Nat.zero_le _⟩
  · rw [show partsN ⟨c, h, x, ls⟩ i p = partsK (atN ⟨c, h, x, ls⟩ i) p from if_pos hh]
    exact parts_some c h x A cA n ls i p _ w hx ln hn rfl hh

end Go.Proofs.Ytklgjhldebdegaa

namespace Go.Proofs.Ytklgjhldebdegaa
open Go.RowKit

/-- Is there such a layer of a right network? -/
def isB (N : Nt) (i : Int) : Bool := decide (errN N = 0 ∧ 0 ≤ i ∧ i < (N.ls.length : Int))
theorem isB_yes {N : Nt} {i : Int} (h : errN N = 0 ∧ 0 ≤ i ∧ i < (N.ls.length : Int)) : isB N i = true := decide_eq_true h
theorem isB_out {N : Nt} {i : Int} (h : isB N i = true) : errN N = 0 ∧ 0 ≤ i ∧ i < (N.ls.length : Int) := of_decide_eq_true h
end Go.Proofs.Ytklgjhldebdegaa

namespace Go.Proofs.Ytklgjhldebdegaa

/-- A layer of a right network. -/
def Good (K : Kn) : Prop := lyB K.l = true ∧ K.i.r = true ∧ okS K.i K.l = true ∧ K.u = outS K.i K.l ∧ 0 ≤ K.a ∧ K.a ≤ 512
theorem good_at {c h x : Int} {ls : List Ly} {i : Int} (e : isB ⟨c, h, x, ls⟩ i = true) : Good (atN ⟨c, h, x, ls⟩ i) := by
  obtain ⟨hE, h0, h1⟩ := isB_out e
  obtain ⟨j, rfl⟩ : ∃ j : Nat, i = j := ⟨i.toNat, by omega⟩
  have hl := get_ly (show j < ls.length by have : (j : Int) < (ls.length : Int) := h1; omega)
  obtain ⟨a, b, d⟩ := layer_facts hE hl
  rw [at_some hE hl]
  exact ⟨a, b, d, rfl, (sum_all hE j).1, (sum_all hE j).2⟩
theorem Good.kind {K : Kn} (g : Good K) : K.l.k = 1 ∨ K.l.k = 2 ∨ K.l.k = 3 ∨ K.l.k = 4 := ly_kind g.1
theorem Good.ur {K : Kn} (g : Good K) : K.u.r = true := by rw [g.2.2.2.1]; exact out_right g.2.1 g.1 g.2.2.1
theorem Good.conv {K : Kn} (g : Good K) (k : K.l.k = 1) :
    1 ≤ K.l.o ∧ K.l.o ≤ 8 ∧ 1 ≤ K.l.s ∧ K.l.s ≤ K.i.h ∧ K.l.s ≤ K.i.x ∧ 1 ≤ K.l.t ∧ K.l.t ≤ 12 ∧ K.u = ⟨K.l.o, (K.i.h - K.l.s) / K.l.t + 1, (K.i.x - K.l.s) / K.l.t + 1⟩ := by
  have ho := g.2.2.1
  obtain ⟨e1, e2⟩ := out_conv K.i k
  rw [e2] at ho
  obtain ⟨_, o1, o2, s1, s2, t1, t2, _⟩ := convB_out ho
  obtain ⟨c1, c2, c3⟩ := conv_is ho
  refine ⟨o1, o2, s1, by omega, by omega, t1, t2, ?_⟩
  rw [g.2.2.2.1, e1, c1, c2, c3]
theorem Good.square {K : Kn} (g : Good K) (k : K.l.k = 2) : K.u = K.i := by rw [g.2.2.2.1, (out_square K.i k).1]
theorem Good.pool {K : Kn} (g : Good K) (k : K.l.k = 3) :
    1 ≤ K.l.s ∧ K.i.h % K.l.s = 0 ∧ K.i.x % K.l.s = 0 ∧ K.u = ⟨K.i.c, K.i.h / K.l.s, K.i.x / K.l.s⟩ := by
  have ho := g.2.2.1
  obtain ⟨e1, e2⟩ := out_pool K.i k
  rw [e2] at ho
  obtain ⟨_, s1, d1, d2⟩ := poolB_out ho
  obtain ⟨c1, c2, c3⟩ := pool_is ho
  refine ⟨s1, d1, d2, ?_⟩
  rw [g.2.2.2.1, e1, c1, c2, c3]
theorem Good.dense {K : Kn} (g : Good K) (k : K.l.k = 4) : 1 ≤ K.l.o ∧ K.l.o ≤ 8 ∧ K.u = ⟨K.l.o, 1, 1⟩ := by
  have ho := g.2.2.1
  obtain ⟨e1, e2⟩ := out_dense K.i k
  rw [e2] at ho
  obtain ⟨b1, b2, _⟩ := rightB_out ho
  exact ⟨b1, b2, by rw [g.2.2.2.1, e1]⟩
theorem has_bd {K : Kn} {p : Int} (h : hasK K p = true) : 0 ≤ p ∧ p < K.u.n := hasB_out h
theorem has_yes {K : Kn} {p : Int} (h0 : 0 ≤ p) (h1 : p < K.u.n) : hasK K p = true := hasB_yes h0 h1
theorem Sh.n_eq {s : Sh} (h : s.r = true) : s.n = s.c * s.h * s.x := sizeI_yes h

/-! ### Windows -/
theorem win_bd {H s t y : Int} (t1 : 1 ≤ t) (y1 : y < (H - s) / t + 1) : y * t + s ≤ H := by
  have a : y * t ≤ (H - s) / t * t := Int.mul_le_mul_of_nonneg_right (by omega) (by omega)
  have b : (H - s) / t * t ≤ H - s := Int.ediv_mul_le _ (by omega)
  omega
theorem conv_in {K : Kn} (g : Good K) (k : K.l.k = 1) {p : Int} (hp : hasK K p = true) {ci r q : Nat} (hc : (ci : Int) < K.i.c) (hr : (r : Int) < K.l.s) (hq : (q : Int) < K.l.s) :
    insideB K.i.c K.i.h K.i.x ci (rowI K.u.c K.u.h K.u.x p * K.l.t + r) (colI K.u.c K.u.h K.u.x p * K.l.t + q) = true := by
  obtain ⟨o1, o2, s1, s2, s3, t1, t2, hu⟩ := g.conv k
  obtain ⟨_, ⟨r0, r1⟩, ⟨q0, q1⟩⟩ := of_bd (s := K.u) hp
  have hh : K.u.h = (K.i.h - K.l.s) / K.l.t + 1 := by rw [hu]
  have hx : K.u.x = (K.i.x - K.l.s) / K.l.t + 1 := by rw [hu]
  have a := win_bd (H := K.i.h) (s := K.l.s) t1 (Int.lt_of_lt_of_le r1 (Int.le_of_eq hh))
  have b := win_bd (H := K.i.x) (s := K.l.s) t1 (Int.lt_of_lt_of_le q1 (Int.le_of_eq hx))
  have c := Int.mul_nonneg r0 (show 0 ≤ K.l.t by omega)
  have d := Int.mul_nonneg q0 (show 0 ≤ K.l.t by omega)
  exact insideB_yes g.2.1 ⟨by omega, hc, by omega, by omega, by omega, by omega⟩
theorem win_mem {s : Sh} {c y x : Int} {m : Nat} {v : Int} : v ∈ winL s c y x m ↔ ∃ r q : Nat, r < m ∧ q < m ∧ v = atI s.c s.h s.x c (y + r) (x + q) := by
  unfold winL winR rowL
  simp only [List.mem_flatMap, List.mem_range, List.mem_map]
  constructor
  · rintro ⟨r, hr, q, hq, rfl⟩; exact ⟨r, q, hr, hq, rfl⟩
  · rintro ⟨r, q, hr, hq, rfl⟩; exact ⟨r, hr, q, hq, rfl⟩
theorem chan_mem {s : Sh} {y x : Int} {m cs : Nat} {v : Int} : v ∈ chanL s y x m cs ↔ ∃ c r q : Nat, c < cs ∧ r < m ∧ q < m ∧ v = atI s.c s.h s.x c (y + r) (x + q) := by
  unfold chanL
  simp only [List.mem_flatMap, List.mem_range, win_mem]
  constructor
  · rintro ⟨c, hc, r, q, hr, hq, rfl⟩; exact ⟨c, r, q, hc, hr, hq, rfl⟩
  · rintro ⟨c, r, q, hc, hr, hq, rfl⟩; exact ⟨c, hc, r, q, hr, hq, rfl⟩
theorem at_in_bd {c h x k y z : Int} (e : insideB c h x k y z = true) : 0 ≤ atI c h x k y z ∧ atI c h x k y z < sizeI c h x := by
  rw [atI_yes e]
  exact hasB_out (at_of e).1
theorem seq_mem : ∀ (xs : List Int) (b : Int) (t : Tm), t ∈ seqT b xs → ∃ (j : Nat) (x : Int), j < xs.length ∧ xs[j]? = some x ∧ t = ⟨x, b + j⟩
  | [], _, _, h => by simp [seqT] at h
  | y :: ys, b, t, h => by
    simp only [seqT, List.mem_cons] at h
    rcases h with rfl | h
    · exact ⟨0, y, by simp, rfl, by simp⟩
    · obtain ⟨j, x, h1, h2, h3⟩ := seq_mem ys (b + 1) t h
      exact ⟨j + 1, x, by simp; exact h1, by simpa using h2, by rw [h3, show b + 1 + (j : Int) = b + ((j + 1 : Nat) : Int) by omega]⟩

/-! ### How many -/
def perK (K : Kn) : Int := if K.l.k = 1 then K.i.c * (K.l.s * K.l.s) else if K.l.k = 2 then 1 else if K.l.k = 4 then K.i.n else 0
theorem terms_len {K : Kn} (g : Good K) (p : Int) : ((termsK K p).length : Int) = perK K := by
  obtain ⟨r1, _⟩ := right_bd g.2.1
  have nb := size_bd K.i
  unfold termsK perK
  by_cases k1 : K.l.k = 1
  · obtain ⟨_, _, s1, _⟩ := g.conv k1
    rw [if_pos k1, if_pos k1, seq_len, chan_len, Int.natCast_mul, Int.natCast_mul, Int.toNat_of_nonneg (by omega), Int.toNat_of_nonneg (by omega)]
  · rw [if_neg k1, if_neg k1]
    by_cases k2 : K.l.k = 2
    · rw [if_pos k2, if_pos k2]; rfl
    · rw [if_neg k2, if_neg k2]
      by_cases k4 : K.l.k = 4
      · rw [if_pos k4, if_pos k4, seq_len, num_len, Int.toNat_of_nonneg (by omega)]
      · rw [if_neg k4, if_neg k4]; rfl
theorem per_all {K : Kn} (g : Good K) : K.u.n * perK K = K.p := by
  unfold perK Kn.p
  by_cases k1 : K.l.k = 1
  · obtain ⟨_, _, _, _, _, _, _, hu⟩ := g.conv k1
    have hc : K.u.c = K.l.o := by rw [hu]
    rw [if_pos k1, p_conv _ _ k1, w_conv _ k1, Sh.n_eq g.ur, hc]
    ac_rfl
  · rw [if_neg k1]
    by_cases k2 : K.l.k = 2
    · rw [if_pos k2, p_square _ _ k2, g.square k2]; omega
    · rw [if_neg k2]
      by_cases k4 : K.l.k = 4
      · obtain ⟨_, _, hu⟩ := g.dense k4
        have e := Sh.n_eq g.ur
        rw [show K.u.c = K.l.o by rw [hu], show K.u.h = 1 by rw [hu], show K.u.x = 1 by rw [hu]] at e
        rw [if_pos k4, p_dense _ _ k4, w_dense _ k4, e]
        simp
      · rw [if_neg k4, p_none _ _ k1 k2 k4]; simp
theorem per_bd {K : Kn} (g : Good K) : 0 ≤ perK K ∧ perK K ≤ 1152 := by
  obtain ⟨r1, r2, r3, r4, r5, r6, _⟩ := right_bd g.2.1
  have nb := size_bd K.i
  unfold perK
  by_cases k1 : K.l.k = 1
  · obtain ⟨_, _, s1, s2, _⟩ := g.conv k1
    rw [if_pos k1]
    have a := mul_bd (show 0 ≤ K.l.s by omega) (show K.l.s ≤ 12 by omega) (show 0 ≤ K.l.s by omega) (show K.l.s ≤ 12 by omega)
    have b := mul_bd (show 0 ≤ K.i.c by omega) r2 a.1 a.2
    omega
  · rw [if_neg k1]
    by_cases k2 : K.l.k = 2
    · rw [if_pos k2]; omega
    · rw [if_neg k2]
      by_cases k4 : K.l.k = 4
      · rw [if_pos k4]; omega
      · rw [if_neg k4]; omega

/-! ### Of which places -/
theorem conv_w {K : Kn} (k : K.l.k = 1) : K.w = K.l.o * (K.i.c * (K.l.s * K.l.s)) := by
  unfold Kn.w; rw [w_conv _ k]; ac_rfl
theorem seg_lt {a L o c j : Int} (hL : 0 ≤ L) (hc : c < o) (hj : j < L) : a + c * L + j < a + o * L := by
  have : (c + 1) * L ≤ o * L := Int.mul_le_mul_of_nonneg_right (by omega) hL
  rw [Int.add_mul, Int.one_mul] at this
  omega
theorem terms_rng {K : Kn} (g : Good K) {p : Int} (hp : hasK K p = true) : ∀ t ∈ termsK K p, 0 ≤ t.x ∧ t.x < K.i.n ∧ (K.w = 0 → t.w = -1) ∧ (0 < K.w → K.a ≤ t.w ∧ t.w < K.a + K.w) := by
  obtain ⟨r1, _⟩ := right_bd g.2.1
  obtain ⟨p0, p1⟩ := has_bd hp
  intro t ht
  unfold termsK at ht
  by_cases k1 : K.l.k = 1
  · obtain ⟨o1, o2, s1, s2, s3, t1, t2, hu⟩ := g.conv k1
    obtain ⟨⟨c0, c1⟩, _, _⟩ := of_bd (s := K.u) hp
    rw [if_pos k1] at ht
    obtain ⟨j, v, hj, hv, rfl⟩ := seq_mem _ _ _ ht
    obtain ⟨ci, r, q, hc, hr, hq, e⟩ := chan_mem.1 (List.mem_of_getElem? hv)
    have hi := conv_in g k1 hp (ci := ci) (r := r) (q := q) (by omega) (by omega) (by omega)
    obtain ⟨v0, v1⟩ := at_in_bd hi
    rw [chan_len] at hj
    have hj2 : (j : Int) < K.i.c * (K.l.s * K.l.s) := by
      have : (j : Int) < ((K.i.c.toNat * (K.l.s.toNat * K.l.s.toNat) : Nat) : Int) := by omega
      rwa [Int.natCast_mul, Int.natCast_mul, Int.toNat_of_nonneg (by omega), Int.toNat_of_nonneg (by omega)] at this
    have hch : chI K.u.c K.u.h K.u.x p < K.l.o := Int.lt_of_lt_of_le c1 (Int.le_of_eq (by rw [hu]))
    have e2 : chI K.u.c K.u.h K.u.x p * K.i.c * K.l.s * K.l.s = chI K.u.c K.u.h K.u.x p * (K.i.c * (K.l.s * K.l.s)) := by ac_rfl
    have L0 : 0 ≤ K.i.c * (K.l.s * K.l.s) := Int.mul_nonneg (by omega) (Int.mul_nonneg (by omega) (by omega))
    have m0 := Int.mul_nonneg c0 L0
    refine ⟨by show 0 ≤ v; rw [e]; exact v0, by show v < _; rw [e]; exact v1, fun h0 => ?_, fun _ => ⟨?_, ?_⟩⟩
    · exfalso
      rw [conv_w k1] at h0
      have : 0 < K.l.o * (K.i.c * (K.l.s * K.l.s)) := Int.mul_pos (by omega) (Int.mul_pos (by omega) (Int.mul_pos (by omega) (by omega)))
      omega
    · show K.a ≤ K.a + _ + (j : Int)
      rw [e2]; omega
    · show K.a + _ + (j : Int) < K.a + K.w
      rw [e2, conv_w k1]
      exact seg_lt L0 hch hj2
  · rw [if_neg k1] at ht
    by_cases k2 : K.l.k = 2
    · rw [if_pos k2] at ht
      simp at ht
      subst ht
      have hw : K.w = 0 := w_none _ k1 (by omega)
      rw [g.square k2] at p1
      exact ⟨p0, p1, fun _ => rfl, fun h => absurd h (by omega)⟩
    · rw [if_neg k2] at ht
      by_cases k4 : K.l.k = 4
      · obtain ⟨o1, o2, hu⟩ := g.dense k4
        rw [if_pos k4] at ht
        obtain ⟨j, v, hj, hv, rfl⟩ := seq_mem _ _ _ ht
        have nb := size_bd K.i
        rw [num_len] at hj
        rw [num_get hj] at hv
        have hv := Option.some.inj hv
        have hw : K.w = K.l.o * K.i.n := w_dense _ k4
        have n1 := size_pos g.2.1
        have e := Sh.n_eq g.ur
        rw [show K.u.c = K.l.o by rw [hu], show K.u.h = 1 by rw [hu], show K.u.x = 1 by rw [hu]] at e
        rw [e] at p1
        have m0 := Int.mul_nonneg p0 (show 0 ≤ K.i.n by omega)
        refine ⟨by show 0 ≤ v; omega, by show v < _; omega, fun h0 => ?_, fun _ => ⟨?_, ?_⟩⟩
        · exfalso
          rw [hw] at h0
          have : 0 < K.l.o * K.i.n := Int.mul_pos (by omega) (by omega)
          omega
        · show K.a ≤ K.a + p * K.i.n + (j : Int)
          omega
        · show K.a + p * K.i.n + (j : Int) < K.a + K.w
          rw [hw]
          exact seg_lt (by omega) (by omega) (by omega)
      · rw [if_neg k4] at ht; simp at ht
theorem termsN_is {c h x : Int} {ls : List Ly} {i p : Int} (hp : hasK (atN ⟨c, h, x, ls⟩ i) p = true) : termsN ⟨c, h, x, ls⟩ i p = termsK (atN ⟨c, h, x, ls⟩ i) p := if_pos hp
end Go.Proofs.Ytklgjhldebdegaa

namespace Go.Proofs.Ytklgjhldebdegaa
open Go.RowKit

/-- The number at a place. -/
def ug (us : List UInt64) (j : Int) : UInt64 := us.getD j.toNat 0
theorem ug_get {us : List UInt64} {j : Nat} (h : j < us.length) : us[j]? = some (ug us (j : Int)) := by
  unfold ug; rw [List.getElem?_eq_getElem h]; simp [List.getD_eq_getElem?_getD, h]
theorem ug_at {w : World} {A : Option Addr} {us : List UInt64} (h : Rg ucells w A us) {j : Int} (j0 : 0 ≤ j) (j1 : j < (us.length : Int)) :
    ∃ b off, A = some ⟨b, off, none⟩ ∧ b < w.heap.size ∧ w.cell? ⟨b, off + j.toNat, none⟩ = some (.int .u64 (uz (ug us j))) := by
  obtain ⟨b, off, e, hlt, hc⟩ := h (by omega)
  refine ⟨b, off, e, hlt, ?_⟩
  have := Rg.at ucells_len hc (ug_get (us := us) (j := j.toNat) (by omega)) 0 _ rfl
  rw [Nat.mul_one, Nat.add_zero, show ((j.toNat : Nat) : Int) = j by omega] at this
  exact this

def sumU : List UInt64 → UInt64
  | [] => 0
  | u :: us => u + sumU us
theorem sumU_app : ∀ a b, sumU (a ++ b) = sumU a + sumU b
  | [], b => by simp [sumU]
  | u :: us, b => by simp only [List.cons_append, sumU, sumU_app us b, UInt64.add_assoc]
theorem sumU_snoc (a : List UInt64) (u : UInt64) : sumU (a ++ [u]) = sumU a + u := by rw [sumU_app]; simp [sumU]
theorem sum_add {α : Type} (f g : α → UInt64) : ∀ l : List α, sumU (l.map fun t => f t + g t) = sumU (l.map f) + sumU (l.map g)
  | [] => by simp [sumU]
  | x :: l => by simp only [List.map_cons, sumU, sum_add f g l]; grind
/-! ### Rows -/
def addU (a b : List UInt64) : List UInt64 := List.zipWith (· + ·) a b
def noughts (n : Nat) : List UInt64 := List.replicate n 0
theorem addU_map {α : Type} (f g : α → UInt64) : ∀ l : List α, addU (l.map f) (l.map g) = l.map fun p => f p + g p
  | [] => rfl
  | x :: l => by
    have := addU_map f g l
    unfold addU at this ⊢
    simp only [List.map_cons, List.zipWith_cons_cons, this]
theorem ug_add {a b : List UInt64} (h : a.length = b.length) (j : Int) : ug (addU a b) j = ug a j + ug b j := by
  unfold ug addU
  rw [List.getD_eq_getElem?_getD, List.getD_eq_getElem?_getD, List.getD_eq_getElem?_getD, List.getElem?_zipWith]
  by_cases hj : j.toNat < a.length
  · rw [List.getElem?_eq_getElem hj, List.getElem?_eq_getElem (by omega)]; rfl
  · rw [List.getElem?_eq_none (by omega), List.getElem?_eq_none (by omega)]; rfl
/-! ### A layer -/
def termU (xs ws : List UInt64) (t : Tm) : UInt64 := ug xs t.x * ug ws t.w
def numK (K : Kn) (xs ws : List UInt64) (p : Int) : UInt64 :=
  if K.l.k = 2 then ug xs p * ug xs p
  else if K.l.k = 3 then sumU ((partsK K p).map (ug xs))
  else sumU ((termsK K p).map (termU xs ws))
def layK (K : Kn) (xs ws : List UInt64) : List UInt64 := (List.range K.u.n.toNat).map fun p => numK K xs ws (p : Nat)
theorem lay_len (K : Kn) (xs ws : List UInt64) : (layK K xs ws).length = K.u.n.toNat := by simp [layK]
theorem lay_get {K : Kn} {xs ws : List UInt64} {p : Nat} (h : p < K.u.n.toNat) : (layK K xs ws)[p]? = some (numK K xs ws (p : Nat)) := by
  simp [layK, h]
theorem num_add {K : Kn} (k2 : K.l.k ≠ 2) {xs ys ws : List UInt64} (h : xs.length = ys.length) (p : Int) : numK K (addU xs ys) ws p = numK K xs ws p + numK K ys ws p := by
  unfold numK
  rw [if_neg k2, if_neg k2, if_neg k2]
  by_cases k3 : K.l.k = 3
  · rw [if_pos k3, if_pos k3, if_pos k3, ← sum_add]
    exact congrArg (fun f => sumU (List.map f _)) (funext fun t => ug_add h t)
  · rw [if_neg k3, if_neg k3, if_neg k3, ← sum_add]
    exact congrArg (fun f => sumU (List.map f _)) (funext fun t => by unfold termU; rw [ug_add h]; grind)
theorem lay_add {K : Kn} (k2 : K.l.k ≠ 2) {xs ys ws : List UInt64} (h : xs.length = ys.length) : layK K (addU xs ys) ws = addU (layK K xs ws) (layK K ys ws) := by
  unfold layK; rw [addU_map]; exact congrArg (fun f => List.map f _) (funext fun p => num_add k2 h _)
theorem lay_noW {K : Kn} (k : K.l.k = 2 ∨ K.l.k = 3) (xs ws vs : List UInt64) : layK K xs ws = layK K xs vs := by
  unfold layK
  refine congrArg (fun f => List.map f _) (funext fun p => ?_)
  unfold numK
  rcases k with k | k
  · rw [if_pos k, if_pos k]
  · rw [if_neg (show ¬ K.l.k = 2 by omega), if_neg (show ¬ K.l.k = 2 by omega), if_pos k, if_pos k]
/-! ### The document's number -/
def termR (xs ws : List UInt64) (t : Tm) : UInt64 := if t.w < 0 then ug xs t.x * ug xs t.x else ug xs t.x * ug ws t.w
def numR (K : Kn) (xs ws : List UInt64) (p : Int) : UInt64 := sumU ((termsK K p).map (termR xs ws)) + sumU ((partsK K p).map (ug xs))
theorem w_yes {K : Kn} (g : Good K) (k2 : K.l.k ≠ 2) (k3 : K.l.k ≠ 3) : 0 < K.w := by
  have := (w_pos g.2.1 g.1 g.2.2.1)
  unfold Kn.w
  have h1 := this.1
  have h2 := this.2.1
  by_cases e : wI K.i K.l = 0
  · rcases h1.1 e with k | k
    · exact absurd k k2
    · exact absurd k k3
  · omega
theorem num_ref {K : Kn} (g : Good K) {p : Int} (hp : hasK K p = true) (xs ws : List UInt64) : numR K xs ws p = numK K xs ws p := by
  unfold numR numK
  by_cases k2 : K.l.k = 2
  · rw [if_pos k2]
    unfold termsK partsK
    rw [if_neg (by omega), if_pos k2, if_neg (by omega)]
    simp [sumU, termR]
  · rw [if_neg k2]
    by_cases k3 : K.l.k = 3
    · rw [if_pos k3]
      unfold termsK
      rw [if_neg (by omega), if_neg k2, if_neg (by omega)]
      simp [sumU]
    · rw [if_neg k3]
      unfold partsK
      rw [if_neg k3]
      have : (termsK K p).map (termR xs ws) = (termsK K p).map (termU xs ws) := by
        refine List.map_congr_left fun t ht => ?_
        obtain ⟨_, _, _, h4⟩ := terms_rng g hp t ht
        have := h4 (w_yes g k2 k3)
        have := g.2.2.2.2.1
        unfold termR termU
        rw [if_neg (by omega)]
      rw [this]
      simp [sumU]

end Go.Proofs.Ytklgjhldebdegaa

namespace Go.Proofs.Ytklgjhldebdegaa
open Go.RowKit

def okL (N : Nt) (i : Int) (xs ws : List UInt64) : Bool := decide ((errN N = 0 ∧ 0 ≤ i ∧ i < (N.ls.length : Int)) ∧ (xs.length : Int) = (atN N i).i.n ∧ (ws.length : Int) = totW (knN N))
def layN (N : Nt) (i : Int) (xs ws : List UInt64) : List UInt64 := if okL N i xs ws = true then layK (atN N i) xs ws else []
def runN (N : Nt) (ws : List UInt64) : Nat → List UInt64 → List UInt64
  | 0, xs => xs
  | k + 1, xs => layK (atN N (k : Nat)) (runN N ws k xs) ws
def okF (N : Nt) (xs ws : List UInt64) : Bool := decide (errN N = 0 ∧ (xs.length : Int) = N.s.n ∧ (ws.length : Int) = totW (knN N))
def fN (N : Nt) (xs ws : List UInt64) : List UInt64 := if okF N xs ws = true then runN N ws N.ls.length xs else []
theorem lay_yes {N : Nt} {i : Int} {xs ws : List UInt64} (h : okL N i xs ws = true) : layN N i xs ws = layK (atN N i) xs ws := if_pos h
theorem lay_no {N : Nt} {i : Int} {xs ws : List UInt64} (h : okL N i xs ws = false) : layN N i xs ws = [] := if_neg (by rw [h]; decide)
theorem run_end (c h x : Int) (ls : List Ly) {k : Nat} {l : Ly} (hl : ls[k]? = some l) : endS ⟨c, h, x⟩ (ls.take (k + 1)) = outS (endS ⟨c, h, x⟩ (ls.take k)) l := by
  rw [List.take_add_one, hl, Option.toList, end_app]; rfl
/-! ### Cut into two -/
end Go.Proofs.Ytklgjhldebdegaa

namespace Go.Proofs.Ytklgjhldebdegaa
open Go.RowKit

/-- A gate: its layer, the place that comes out, the how many-th term there, and that term's places. -/
structure Gt where
  l : Int
  a : Int
  t : Int
  x : Int
  w : Int
def Gt.z : Gt := ⟨0, 0, 0, 0, 0⟩
/-- Gates of terms, numbered from k on. -/
def gatesT (i p : Int) : Nat → List Tm → List Gt
  | _, [] => []
  | k, t :: ts => ⟨i, p, (k : Nat), t.x, t.w⟩ :: gatesT i p (k + 1) ts
def gatesP (K : Kn) (i : Int) (p : Nat) : List Gt := gatesT i (p : Nat) 0 (termsK K (p : Nat))
def gatesL (K : Kn) (i : Int) (m : Nat) : List Gt := (List.range m).flatMap (gatesP K i)
/-- Gates of the first k layers. -/
def gatesK (N : Nt) (k : Nat) : List Gt := (List.range k).flatMap fun i => gatesL (atN N (i : Nat)) (i : Nat) (atN N (i : Nat)).u.n.toNat
def gatesN (N : Nt) : List Gt := if errN N = 0 then gatesK N N.ls.length else []
theorem gatesT_len (i p : Int) : ∀ (ts : List Tm) (k : Nat), (gatesT i p k ts).length = ts.length
  | [], _ => rfl
  | t :: ts, k => by simp only [gatesT, List.length_cons, gatesT_len i p ts]
theorem gatesT_get (i p : Int) : ∀ (ts : List Tm) (k j : Nat) (t : Tm), ts[j]? = some t → (gatesT i p k ts)[j]? = some ⟨i, p, ((k + j : Nat) : Int), t.x, t.w⟩
  | [], _, _, _, h => by simp at h
  | u :: ts, k, 0, t, h => by simp at h; simp [gatesT, h]
  | u :: ts, k, j + 1, t, h => by
    simp only [gatesT, List.getElem?_cons_succ] at h ⊢
    rw [gatesT_get i p ts (k + 1) j t h, show k + 1 + j = k + (j + 1) by omega]
/-! ### How many -/
theorem flat_range_len {α : Type} (f : Nat → List α) (m c : Nat) (h : ∀ p, p < m → (f p).length = c) : ((List.range m).flatMap f).length = m * c := by
  induction m with
  | zero => simp
  | succ m ih =>
    rw [List.range_succ, List.flatMap_append, List.length_append, ih fun p hp => h p (by omega)]
    simp [h m (Nat.lt_succ_self m), Nat.succ_mul]
theorem gatesL_len {K : Kn} (g : Good K) (i : Int) (m : Nat) : (gatesL K i m).length = m * (perK K).toNat := by
  unfold gatesL
  refine flat_range_len _ m _ fun p _ => ?_
  unfold gatesP
  rw [gatesT_len]
  have := terms_len g (p : Nat)
  omega
theorem gatesL_all {K : Kn} (g : Good K) (i : Int) : ((gatesL K i K.u.n.toNat).length : Int) = K.p := by
  rw [gatesL_len g, Int.natCast_mul, Int.toNat_of_nonneg (size_bd K.u).1, Int.toNat_of_nonneg (per_bd g).1]
  exact per_all g
theorem gatesK_next (N : Nt) (k : Nat) : gatesK N (k + 1) = gatesK N k ++ gatesL (atN N (k : Nat)) (k : Nat) (atN N (k : Nat)).u.n.toNat := by
  unfold gatesK
  rw [List.range_succ, List.flatMap_append]; simp
theorem gatesK_len {c h x : Int} {ls : List Ly} (e : errN ⟨c, h, x, ls⟩ = 0) : ∀ k : Nat, k ≤ ls.length → ((gatesK ⟨c, h, x, ls⟩ k).length : Int) = totP ((knN ⟨c, h, x, ls⟩).take k)
  | 0, _ => rfl
  | k + 1, hk => by
    have g : Good (atN ⟨c, h, x, ls⟩ (k : Nat)) := good_at (isB_yes ⟨e, by omega, by show (k : Int) < (ls.length : Int); omega⟩)
    have hl := get_ly (show k < ls.length by omega)
    have hK : (knN ⟨c, h, x, ls⟩)[k]? = some (atN ⟨c, h, x, ls⟩ (k : Nat)) := by
      rw [knN_ok e, at_some e hl]
      have := kn_get ls ⟨c, h, x⟩ 0 k _ hl
      rw [Int.zero_add] at this
      exact this
    have ht := tot_snoc ((knN ⟨c, h, x, ls⟩).take k) (atN ⟨c, h, x, ls⟩ (k : Nat))
    rw [← take_get hK] at ht
    rw [gatesK_next, List.length_append, Int.natCast_add, gatesK_len e k (by omega), gatesL_all g, ht.2]
theorem gates_total {c h x : Int} {ls : List Ly} : ((gatesN ⟨c, h, x, ls⟩).length : Int) = totP (knN ⟨c, h, x, ls⟩) := by
  by_cases e : errN ⟨c, h, x, ls⟩ = 0
  · have := gatesK_len e ls.length (Nat.le_refl _)
    rw [show gatesN ⟨c, h, x, ls⟩ = gatesK ⟨c, h, x, ls⟩ ls.length from if_pos e, this, List.take_of_length_le (by rw [knN_ok e, kn_len]; exact Nat.le_refl _)]
  · rw [show gatesN ⟨c, h, x, ls⟩ = [] from if_neg e, knN_no e]; rfl

/-! ### Where a gate stands -/
theorem flat_range_get {α : Type} (f : Nat → List α) (c : Nat) : ∀ (m p j : Nat), (∀ p, p < m → (f p).length = c) → p < m → j < c → ((List.range m).flatMap f)[p * c + j]? = (f p)[j]?
  | 0, p, j, _, hp, _ => absurd hp (by omega)
  | m + 1, p, j, h, hp, hj => by
    have hl := flat_range_len f m c fun p hp => h p (by omega)
    rw [List.range_succ, List.flatMap_append]
    by_cases e : p = m
    · subst e
      rw [List.getElem?_append_right (by rw [hl]; omega), hl, Nat.add_sub_cancel_left]; simp
    · have : p * c + j < m * c := by
        have : (p + 1) * c ≤ m * c := Nat.mul_le_mul_right c (by omega)
        rw [Nat.succ_mul] at this; omega
      rw [List.getElem?_append_left (by rw [hl]; exact this)]
      exact flat_range_get f c m p j (fun p hp => h p (by omega)) (by omega) hj
theorem gatesL_get {K : Kn} (g : Good K) (i : Int) {m p j : Nat} {t : Tm} (hp : p < m) (ht : (termsK K (p : Nat))[j]? = some t) :
    (gatesL K i m)[p * (perK K).toNat + j]? = some ⟨i, (p : Nat), (j : Nat), t.x, t.w⟩ := by
  have hlen : ∀ p : Nat, (gatesP K i p).length = (perK K).toNat := fun p => by
    unfold gatesP
    rw [gatesT_len]
    have := terms_len g (p : Nat)
    omega
  have hj : j < (perK K).toNat := by
    have := (List.getElem?_eq_some_iff.1 ht).1
    have := terms_len g (p : Nat)
    omega
  unfold gatesL
  rw [flat_range_get _ _ m p j (fun p _ => hlen p) hp hj]
  have := gatesT_get i (p : Nat) (termsK K (p : Nat)) 0 j t ht
  rw [Nat.zero_add] at this
  exact this
theorem gatesK_pre (N : Nt) : ∀ {k m : Nat}, k ≤ m → ∀ {q : Nat} {g : Gt}, (gatesK N k)[q]? = some g → (gatesK N m)[q]? = some g
  | k, 0, h, q, g, hq => by obtain rfl : k = 0 := by omega
                            exact hq
  | k, m + 1, h, q, g, hq => by
    by_cases e : k = m + 1
    · subst e; exact hq
    · rw [gatesK_next, List.getElem?_append_left (by
        have := (List.getElem?_eq_some_iff.1 (gatesK_pre N (show k ≤ m by omega) hq)).1; exact this)]
      exact gatesK_pre N (by omega) hq
/-- The gate of a layer's place and term. -/
theorem gate_at {c h x : Int} {ls : List Ly} (e : errN ⟨c, h, x, ls⟩ = 0) {i p j : Nat} {t : Tm} (hi : i < ls.length) (hp : (p : Int) < (atN ⟨c, h, x, ls⟩ (i : Nat)).u.n) (ht : (termsK (atN ⟨c, h, x, ls⟩ (i : Nat)) (p : Nat))[j]? = some t) :
    (gatesN ⟨c, h, x, ls⟩)[(gatesK ⟨c, h, x, ls⟩ i).length + (p * (perK (atN ⟨c, h, x, ls⟩ (i : Nat))).toNat + j)]? = some ⟨(i : Nat), (p : Nat), (j : Nat), t.x, t.w⟩ := by
  have g : Good (atN ⟨c, h, x, ls⟩ (i : Nat)) := good_at (isB_yes ⟨e, by omega, by show (i : Int) < (ls.length : Int); omega⟩)
  rw [show gatesN ⟨c, h, x, ls⟩ = gatesK ⟨c, h, x, ls⟩ ls.length from if_pos e]
  refine gatesK_pre _ (show i + 1 ≤ ls.length by omega) ?_
  rw [gatesK_next, List.getElem?_append_right (by omega), Nat.add_sub_cancel_left]
  exact gatesL_get g _ (by omega) ht

/-! ### Stages, ranges, lines; which gate -/
def stK (ls : List Ly) : Nat → List Int
  | 0 => []
  | k + 1 => stK ls k ++ (if (ls.getD k Ly.z).k = 3 then [] else [((k : Nat) : Int)])
def stagesN (N : Nt) : List Int := if errN N = 0 then stK N.ls N.ls.length else []
theorem stK_len (ls : List Ly) : ∀ k : Nat, (stK ls k).length ≤ k
  | 0 => Nat.le_refl _
  | k + 1 => by
    have := stK_len ls k
    simp only [stK, List.length_append]
    split <;> simp <;> omega
def rangeN (N : Nt) (s : Int) : Int × Int := if 0 ≤ s ∧ s < ((stagesN N).length : Int) then (totP (((stagesN N).take s.toNat).map (atN N)), (atN N ((stagesN N).getD s.toNat 0)).p) else (0, 0)
def lineN (N : Nt) (s : Int) : Int × Int := if errN N = 0 ∧ s = ((stagesN N).length : Int) then (2 * totP (knN N), (endS N.s N.ls).n) else (2 * (rangeN N s).1, 2 * (rangeN N s).2)
theorem range_yes {N : Nt} {s : Nat} (h : s < (stagesN N).length) : rangeN N (s : Nat) = (totP (((stagesN N).take s).map (atN N)), (atN N ((stagesN N).getD s 0)).p) := if_pos ⟨by omega, by omega⟩
theorem range_no {N : Nt} {s : Int} (h : ¬ (0 ≤ s ∧ s < ((stagesN N).length : Int))) : rangeN N s = (0, 0) := if_neg h
theorem st_get {l : List Int} {k : Nat} (h : k < l.length) : l[k]? = some (l.getD k 0) := by
  rw [List.getElem?_eq_getElem h]; simp [List.getD_eq_getElem?_getD, h]
theorem gt_get {l : List Gt} {k : Nat} (h : k < l.length) : l[k]? = some (l.getD k Gt.z) := by
  rw [List.getElem?_eq_getElem h]; simp [List.getD_eq_getElem?_getD, h]
theorem gates_bd {c h x : Int} {ls : List Ly} : (gatesN ⟨c, h, x, ls⟩).length ≤ 512 := by
  have := gates_total (c := c) (h := h) (x := x) (ls := ls)
  by_cases e : errN ⟨c, h, x, ls⟩ = 0
  · rw [(tots e).2] at this
    have := (ok_all e).2.2.2.2.1
    omega
  · rw [show gatesN ⟨c, h, x, ls⟩ = [] from if_neg e]; simp
theorem in_cell {w : World} {b off : Nat} {xs : List Int} (h : ∀ j u, (xs.flatMap icells)[j]? = some u → w.cell? ⟨b, off + j, none⟩ = some u) {k : Nat} {x : Int} (hx : xs[k]? = some x) :
    w.cell? ⟨b, off + k, none⟩ = some (.int .i64 x) := by
  have q := Rg.at icells_len h hx
  have := q 0 _ rfl
  rw [Nat.mul_one, Nat.add_zero] at this
  exact this

end Go.Proofs.Ytklgjhldebdegaa

namespace Go.Proofs.Ytklgjhldebdegaa
open Go.RowKit
/-! ### Cut -/
theorem stK_pre (ls : List Ly) : ∀ {k m : Nat}, k ≤ m → ∃ r, stK ls m = stK ls k ++ r
  | k, 0, h => ⟨[], by obtain rfl : k = 0 := by omega
                       rfl⟩
  | k, m + 1, h => by
    by_cases e : k = m + 1
    · subst e; exact ⟨[], by simp⟩
    · obtain ⟨r, hr⟩ := stK_pre ls (show k ≤ m by omega)
      exact ⟨r ++ (if (ls.getD m Ly.z).k = 3 then [] else [((m : Nat) : Int)]), by simp only [stK]; rw [hr, List.append_assoc]⟩
/-! ### Stages and their ranges -/
theorem stK_mem (ls : List Ly) : ∀ (k : Nat) (y : Int), y ∈ stK ls k → ∃ i : Nat, i < k ∧ y = (i : Nat) ∧ (ls.getD i Ly.z).k ≠ 3
  | 0, y, h => by simp [stK] at h
  | k + 1, y, h => by
    simp only [stK, List.mem_append] at h
    rcases h with h | h
    · obtain ⟨i, h1, h2⟩ := stK_mem ls k y h
      exact ⟨i, by omega, h2⟩
    · split at h
      · simp at h
      · rename_i h3
        simp at h
        exact ⟨k, by omega, h, h3⟩
theorem stK_sorted (ls : List Ly) : ∀ k : Nat, (stK ls k).Pairwise (· < ·)
  | 0 => List.Pairwise.nil
  | k + 1 => by
    simp only [stK]
    rw [List.pairwise_append]
    refine ⟨stK_sorted ls k, ?_, fun a ha b hb => ?_⟩
    · split
      · exact List.Pairwise.nil
      · simp
    · obtain ⟨i, h1, h2, _⟩ := stK_mem ls k a ha
      split at hb
      · simp at hb
      · simp at hb
        rw [h2, hb]; omega
/-- The products of all stages ahead are those of all layers ahead. -/
theorem st_sum {c h x : Int} {ls : List Ly} (e : errN ⟨c, h, x, ls⟩ = 0) : ∀ k : Nat, k ≤ ls.length → totP ((stK ls k).map (atN ⟨c, h, x, ls⟩)) = ((gatesK ⟨c, h, x, ls⟩ k).length : Int)
  | 0, _ => rfl
  | k + 1, hk => by
    have hl := get_ly (show k < ls.length by omega)
    have g : Good (atN ⟨c, h, x, ls⟩ (k : Nat)) := good_at (isB_yes ⟨e, by omega, by show (k : Int) < (ls.length : Int); omega⟩)
    rw [gatesK_next, List.length_append, Int.natCast_add, ← st_sum e k (by omega), gatesL_all g]
    simp only [stK]
    split
    · rename_i h3
      have : (atN ⟨c, h, x, ls⟩ (k : Nat)).p = 0 := by
        rw [at_some e hl]
        show pI (endS ⟨c, h, x⟩ (ls.take k)) (outS (endS ⟨c, h, x⟩ (ls.take k)) (ls.getD k Ly.z)) (ls.getD k Ly.z) = 0
        exact p_none _ _ (by omega) (by omega) (by omega)
      rw [List.append_nil, this]; omega
    · rw [List.map_append]
      exact (tot_snoc _ _).2

end Go.Proofs.Ytklgjhldebdegaa

namespace Go.Proofs.Ytklgjhldebdegaa
open Go.RowKit

theorem per_pos {K : Kn} (g : Good K) (k : K.l.k ≠ 3) : 1 ≤ perK K := by
  obtain ⟨r1, _⟩ := right_bd g.2.1
  have nb := size_pos g.2.1
  unfold perK
  rcases g.kind with k1 | k2 | k3 | k4
  · obtain ⟨_, _, s1, _⟩ := g.conv k1
    rw [if_pos k1]
    have a := Int.mul_pos (show 0 < K.l.s by omega) (show 0 < K.l.s by omega)
    have b := Int.mul_pos (show 0 < K.i.c by omega) a
    omega
  · rw [if_neg (by omega), if_pos k2]; omega
  · exact absurd k3 k
  · rw [if_neg (by omega), if_neg (by omega), if_pos k4]; exact nb
theorem p_zero {K : Kn} (g : Good K) : K.p = 0 ↔ K.l.k = 3 := by
  have e := per_all g
  have u := size_pos g.ur
  constructor
  · intro h
    by_cases k : K.l.k = 3
    · exact k
    · have := Int.mul_pos (show 0 < K.u.n by omega) (show 0 < perK K by have := per_pos g k; omega)
      omega
  · intro k
    exact p_none _ _ (by omega) (by omega) (by omega)

/-- A layer that has products. -/
abbrev isS (N : Nt) (i : Nat) : Prop := i < N.ls.length ∧ (atN N (i : Nat)).p ≠ 0
abbrev St (N : Nt) : Type := { i : Nat // isS N i }
def stI (N : Nt) : Nat → List (St N)
  | 0 => []
  | k + 1 => stI N k ++ (if h : isS N k then [⟨k, h⟩] else [])
def stL (N : Nt) : List (St N) := stI N N.ls.length
def numS (N : Nt) (i : Nat) : Int := ((stI N i).length : Nat)
def firstS (N : Nt) (i : Nat) : Int := ((gatesK N i).length : Nat)
def manyS (N : Nt) (i : Nat) : Int := (atN N (i : Nat)).p
def eachS (N : Nt) (i : Nat) : Int := perK (atN N (i : Nat))
theorem isS_err {c h x : Int} {ls : List Ly} {i : Nat} (hs : isS ⟨c, h, x, ls⟩ i) : errN ⟨c, h, x, ls⟩ = 0 := by
  by_cases e : errN ⟨c, h, x, ls⟩ = 0
  · exact e
  · have : atN ⟨c, h, x, ls⟩ (i : Nat) = Kn.z := at_out (by rw [knN_no e]; simp)
    exact absurd (by rw [this]; exact kz_p) hs.2
theorem good_i {c h x : Int} {ls : List Ly} (e : errN ⟨c, h, x, ls⟩ = 0) {i : Nat} (hi : i < ls.length) : Good (atN ⟨c, h, x, ls⟩ (i : Nat)) :=
  good_at (isB_yes ⟨e, by omega, by show (i : Int) < (ls.length : Int); omega⟩)
theorem isS_good {c h x : Int} {ls : List Ly} {i : Nat} (hs : isS ⟨c, h, x, ls⟩ i) : Good (atN ⟨c, h, x, ls⟩ (i : Nat)) := good_i (isS_err hs) hs.1
theorem at_kind {c h x : Int} {ls : List Ly} (e : errN ⟨c, h, x, ls⟩ = 0) {i : Nat} (hi : i < ls.length) : (atN ⟨c, h, x, ls⟩ (i : Nat)).l = ls.getD i Ly.z := by
  rw [at_some e (get_ly hi)]
theorem isS_kind {c h x : Int} {ls : List Ly} (e : errN ⟨c, h, x, ls⟩ = 0) {i : Nat} (hi : i < ls.length) : isS ⟨c, h, x, ls⟩ i ↔ ¬ (ls.getD i Ly.z).k = 3 := by
  have g := good_i e hi
  have z := p_zero g
  rw [at_kind e hi] at z
  exact ⟨fun hs k => hs.2 (z.2 k), fun k => ⟨hi, fun p => k (z.1 p)⟩⟩
theorem stI_st {c h x : Int} {ls : List Ly} (e : errN ⟨c, h, x, ls⟩ = 0) : ∀ k : Nat, k ≤ ls.length → (stI ⟨c, h, x, ls⟩ k).map (fun y => ((y.1 : Nat) : Int)) = stK ls k
  | 0, _ => rfl
  | k + 1, hk => by
    have z := isS_kind e (show k < ls.length by omega)
    simp only [stI, stK, List.map_append]
    rw [stI_st e k (by omega)]
    by_cases h : isS ⟨c, h, x, ls⟩ k
    · rw [dif_pos h, if_neg (z.1 h)]; rfl
    · rw [dif_neg h, if_pos (by by_cases q : (ls.getD k Ly.z).k = 3; exact q; exact absurd (z.2 q) h)]; rfl
theorem stI_none {c h x : Int} {ls : List Ly} (e : ¬ errN ⟨c, h, x, ls⟩ = 0) : ∀ k : Nat, stI ⟨c, h, x, ls⟩ k = []
  | 0 => rfl
  | k + 1 => by
    simp only [stI]
    rw [stI_none e k, dif_neg fun h => e (isS_err h)]; rfl
theorem stL_st {c h x : Int} {ls : List Ly} : (stL ⟨c, h, x, ls⟩).map (fun y => ((y.1 : Nat) : Int)) = stagesN ⟨c, h, x, ls⟩ := by
  by_cases e : errN ⟨c, h, x, ls⟩ = 0
  · rw [show stagesN ⟨c, h, x, ls⟩ = stK ls ls.length from if_pos e]
    exact stI_st e _ (Nat.le_refl _)
  · rw [show stagesN ⟨c, h, x, ls⟩ = [] from if_neg e]
    unfold stL
    rw [stI_none e]; rfl
theorem stI_len {N : Nt} : ∀ k : Nat, (stI N k).length ≤ k
  | 0 => Nat.le_refl _
  | k + 1 => by
    have := stI_len (N := N) k
    simp only [stI, List.length_append]
    split <;> simp <;> omega
theorem stI_yes {N : Nt} {k : Nat} (h : isS N k) : stI N (k + 1) = stI N k ++ [⟨k, h⟩] := by simp only [stI]; rw [dif_pos h]
theorem stI_no {N : Nt} {k : Nat} (h : ¬ isS N k) : stI N (k + 1) = stI N k := by simp only [stI]; rw [dif_neg h, List.append_nil]
theorem stI_pre {N : Nt} : ∀ {k m : Nat}, k ≤ m → stI N k <+: stI N m
  | k, 0, h => by obtain rfl : k = 0 := by omega
                  exact List.prefix_refl _
  | k, m + 1, h => by
    by_cases e : k = m + 1
    · subst e; exact List.prefix_refl _
    · exact (stI_pre (show k ≤ m by omega)).trans (List.prefix_append _ _)
theorem stI_mem {N : Nt} {i m : Nat} (h : isS N i) (him : i < m) : (⟨i, h⟩ : St N) ∈ stI N m :=
  (stI_pre (show i + 1 ≤ m by omega)).subset (by rw [stI_yes h]; simp)
theorem stL_mem {N : Nt} (x : St N) : x ∈ stL N := stI_mem x.2 x.2.1

/-- What is known of a stage. -/
theorem st_facts {c h x : Int} {ls : List Ly} (hn : ls.length ≤ 60) (y : St ⟨c, h, x, ls⟩) :
    (0 ≤ numS ⟨c, h, x, ls⟩ y.1 ∧ numS ⟨c, h, x, ls⟩ y.1 ≤ 60) ∧ (0 ≤ firstS ⟨c, h, x, ls⟩ y.1) ∧ 1 ≤ manyS ⟨c, h, x, ls⟩ y.1 ∧ firstS ⟨c, h, x, ls⟩ y.1 + manyS ⟨c, h, x, ls⟩ y.1 ≤ ((gatesN ⟨c, h, x, ls⟩).length : Int) ∧ 1 ≤ eachS ⟨c, h, x, ls⟩ y.1 ∧ (atN ⟨c, h, x, ls⟩ (y.1 : Nat)).u.n * eachS ⟨c, h, x, ls⟩ y.1 = manyS ⟨c, h, x, ls⟩ y.1 ∧ 1 ≤ (atN ⟨c, h, x, ls⟩ (y.1 : Nat)).u.n := by
  have g := isS_good y.2
  have e := isS_err y.2
  have l := stI_len (N := ⟨c, h, x, ls⟩) y.1
  have hy : y.1 < ls.length := y.2.1
  have u := size_pos g.ur
  have pa := per_all g
  have k3 : (atN ⟨c, h, x, ls⟩ (y.1 : Nat)).l.k ≠ 3 := fun k => y.2.2 ((p_zero g).2 k)
  have pp := per_pos g k3
  have p1 := Int.mul_pos (show 0 < (atN ⟨c, h, x, ls⟩ (y.1 : Nat)).u.n by omega) (show 0 < perK (atN ⟨c, h, x, ls⟩ (y.1 : Nat)) by omega)
  have hl : ((gatesK ⟨c, h, x, ls⟩ (y.1 + 1)).length : Int) = firstS ⟨c, h, x, ls⟩ y.1 + manyS ⟨c, h, x, ls⟩ y.1 := by
    rw [gatesK_next, List.length_append, Int.natCast_add, gatesL_all g]; rfl
  have hm : (gatesK ⟨c, h, x, ls⟩ (y.1 + 1)).length ≤ (gatesN ⟨c, h, x, ls⟩).length := by
    rw [show gatesN ⟨c, h, x, ls⟩ = gatesK ⟨c, h, x, ls⟩ ls.length from if_pos e]
    by_cases z : (gatesK ⟨c, h, x, ls⟩ (y.1 + 1)).length = 0
    · omega
    · have := gatesK_pre ⟨c, h, x, ls⟩ (show y.1 + 1 ≤ ls.length by omega) (gt_get (show (gatesK ⟨c, h, x, ls⟩ (y.1 + 1)).length - 1 < (gatesK ⟨c, h, x, ls⟩ (y.1 + 1)).length by omega))
      have := (List.getElem?_eq_some_iff.1 this).1
      omega
  refine ⟨⟨?_, ?_⟩, ?_, ?_, ?_, pp, pa, u⟩
  · unfold numS; omega
  · unfold numS; omega
  · unfold firstS; omega
  · unfold manyS; omega
  · rw [← hl]; omega

/-! ### Ranges -/
theorem range_of {c h x : Int} {ls : List Ly} (y : St ⟨c, h, x, ls⟩) : rangeN ⟨c, h, x, ls⟩ (numS ⟨c, h, x, ls⟩ y.1) = (firstS ⟨c, h, x, ls⟩ y.1, manyS ⟨c, h, x, ls⟩ y.1) := by
  have e := isS_err y.2
  have hy : y.1 < ls.length := y.2.1
  obtain ⟨r, hr⟩ := stI_pre (N := ⟨c, h, x, ls⟩) (show y.1 + 1 ≤ ls.length by omega)
  rw [stI_yes y.2] at hr
  have hs : stagesN ⟨c, h, x, ls⟩ = stK ls y.1 ++ (((y.1 : Nat) : Int) :: r.map (fun y => ((y.1 : Nat) : Int))) := by
    rw [← stL_st, show stL ⟨c, h, x, ls⟩ = stI ⟨c, h, x, ls⟩ ls.length from rfl, ← hr, List.map_append, List.map_append, stI_st e _ (by omega), List.append_assoc]; rfl
  have hl : (stK ls y.1).length = (stI ⟨c, h, x, ls⟩ y.1).length := by rw [← stI_st e y.1 (by omega), List.length_map]
  unfold numS
  rw [range_yes (by rw [hs, List.length_append, hl]; simp), hs, ← hl, List.take_left']
  · rw [st_sum e _ (by omega), List.getD_eq_getElem?_getD, List.getElem?_append_right (Nat.le_refl _), Nat.sub_self]; rfl
  · rfl
theorem num_at {c h x : Int} {ls : List Ly} (e : errN ⟨c, h, x, ls⟩ = 0) : ∀ (k s : Nat) (v : Int), k ≤ ls.length → (stK ls k)[s]? = some v → ∃ y : St ⟨c, h, x, ls⟩, v = (y.1 : Nat) ∧ numS ⟨c, h, x, ls⟩ y.1 = (s : Nat)
  | 0, s, v, _, hv => by simp [stK] at hv
  | k + 1, s, v, hk, hv => by
    have hl : (stK ls k).length = (stI ⟨c, h, x, ls⟩ k).length := by rw [← stI_st e k (by omega), List.length_map]
    simp only [stK] at hv
    by_cases hs : s < (stK ls k).length
    · rw [List.getElem?_append_left hs] at hv
      exact num_at e k s v (by omega) hv
    · rw [List.getElem?_append_right (by omega)] at hv
      split at hv
      · simp at hv
      · rename_i h3
        have hS := (isS_kind e (show k < ls.length by omega)).2 h3
        obtain ⟨z, z2⟩ := List.getElem?_eq_some_iff.1 hv
        simp at z
        have z0 : s - (stK ls k).length = 0 := by omega
        rw [z0] at hv
        refine ⟨⟨k, hS⟩, ?_, ?_⟩
        · simpa using hv.symm
        · unfold numS; rw [← hl]; show ((stK ls k).length : Int) = s; omega
theorem range_miss {c h x : Int} {ls : List Ly} {s : Int} (hh : ∀ y ∈ stL ⟨c, h, x, ls⟩, ¬ numS ⟨c, h, x, ls⟩ y.1 = s) : rangeN ⟨c, h, x, ls⟩ s = (0, 0) := by
  refine range_no fun ⟨h0, h1⟩ => ?_
  by_cases e : errN ⟨c, h, x, ls⟩ = 0
  · rw [show stagesN ⟨c, h, x, ls⟩ = stK ls ls.length from if_pos e] at h1
    obtain ⟨k, rfl⟩ : ∃ k : Nat, s = k := ⟨s.toNat, by omega⟩
    obtain ⟨y, _, hy⟩ := num_at e ls.length k _ (Nat.le_refl _) (st_get (show k < (stK ls ls.length).length by omega))
    exact hh y (stL_mem y) hy
  · rw [show stagesN ⟨c, h, x, ls⟩ = [] from if_neg e] at h1
    simp at h1; omega

/-! ### Gates -/
end Go.Proofs.Ytklgjhldebdegaa

namespace Go.Proofs.Ytklgjhldebdegaa
open Go.RowKit

def ustep (x y : UInt64) : UInt64 := y * (2 - x * y)
def uinv (x : UInt64) : UInt64 := ustep x (ustep x (ustep x (ustep x (ustep x x))))
theorem ustep_err (x y : UInt64) : 1 - x * ustep x y = (1 - x * y) * (1 - x * y) := by
  unfold ustep; grind
theorem odd_square (x : UInt64) (h : x % 2 = 1) : ∃ t : UInt64, 1 - x * x = 8 * t := by
  have h1 : x.toNat % 2 = 1 := by
    have := congrArg UInt64.toNat h
    simpa using this
  obtain ⟨m, hm⟩ : ∃ m, x.toNat = 2 * m + 1 := ⟨x.toNat / 2, by omega⟩
  obtain ⟨s, hs⟩ : ∃ s, m * (m + 1) = 2 * s := by
    rcases Nat.mod_two_eq_zero_or_one m with h0 | h0
    · exact ⟨(m / 2) * (m + 1), by
        have : m = 2 * (m / 2) := by omega
        rw [← Nat.mul_assoc, ← this]⟩
    · exact ⟨m * ((m + 1) / 2), by
        have : m + 1 = 2 * ((m + 1) / 2) := by omega
        rw [Nat.mul_left_comm, ← this]⟩
  refine ⟨0 - UInt64.ofNat s, ?_⟩
  have hx : x = UInt64.ofNat (2 * m + 1) := by rw [← hm]; simp
  have hx2 : x * x = 8 * UInt64.ofNat s + 1 := by
    rw [hx, ← UInt64.ofNat_mul]
    have : (2 * m + 1) * (2 * m + 1) = 8 * s + 1 := by
      have : (2 * m + 1) * (2 * m + 1) = 4 * (m * (m + 1)) + 1 := by grind
      omega
    rw [this, UInt64.ofNat_add, UInt64.ofNat_mul]
    rfl
  rw [hx2]
  grind
theorem uinv_mul (x : UInt64) (h : x % 2 = 1) : x * uinv x = 1 := by
  obtain ⟨t, ht⟩ := odd_square x h
  have h1 := ustep_err x x
  have h2 := ustep_err x (ustep x x)
  have h3 := ustep_err x (ustep x (ustep x x))
  have h4 := ustep_err x (ustep x (ustep x (ustep x x)))
  have h5 := ustep_err x (ustep x (ustep x (ustep x (ustep x x))))
  rw [ht] at h1
  rw [h1] at h2
  rw [h2] at h3
  rw [h3] at h4
  rw [h4] at h5
  have : 1 - x * uinv x = 0 := by
    unfold uinv; rw [h5]; grind
  grind
end Go.Proofs.Ytklgjhldebdegaa

namespace Go.Proofs.Ytklgjhldebdegaa
open Go.RowKit

/-- Down by so many bits. -/
def shr (k : Nat) (z : UInt64) : UInt64 := ⟨z.toBitVec >>> k⟩
/-- z, with itself so many bits down laid upon it. -/
def mixU (k : Nat) (z : UInt64) : UInt64 := z ^^^ shr k z
/-- Its way back, where three times as many bits are all. -/
def bakU (k : Nat) (z : UInt64) : UInt64 := z ^^^ shr k z ^^^ shr (2 * k) z
theorem shr_xor (k : Nat) (x y : UInt64) : shr k (x ^^^ y) = shr k x ^^^ shr k y := by
  apply UInt64.toBitVec_inj.1
  show (x.toBitVec ^^^ y.toBitVec) >>> k = (x.toBitVec >>> k) ^^^ (y.toBitVec >>> k)
  exact BitVec.ushiftRight_xor_distrib _ _ _
theorem shr_add (k l : Nat) (x : UInt64) : shr k (shr l x) = shr (k + l) x := by
  apply UInt64.toBitVec_inj.1
  show (x.toBitVec >>> l) >>> k = x.toBitVec >>> (k + l)
  rw [Nat.add_comm k l, BitVec.shiftRight_add]
theorem shr_all {k : Nat} (h : 64 ≤ k) (x : UInt64) : shr k x = 0 := by
  apply UInt64.toBitVec_inj.1
  show x.toBitVec >>> k = 0#64
  apply BitVec.eq_of_getLsbD_eq
  intro i hi
  rw [BitVec.getLsbD_ushiftRight]
  simp [BitVec.getLsbD_of_ge _ _ (show 64 ≤ k + i by omega)]
theorem bak_mix {k : Nat} (h : 64 ≤ 3 * k) (y : UInt64) : bakU k (mixU k y) = y := by
  unfold bakU mixU
  rw [shr_xor, shr_xor, shr_add, shr_add, show k + k = 2 * k by omega, show 2 * k + k = 3 * k by omega, shr_all h]
  generalize shr k y = a
  generalize shr (2 * k) y = b
  have e1 : ∀ p q r : UInt64, p ^^^ q ^^^ r = p ^^^ (q ^^^ r) := UInt64.xor_assoc
  have e2 : ∀ p : UInt64, p ^^^ p = 0 := fun p => UInt64.xor_self
  have e3 : ∀ p : UInt64, p ^^^ 0 = p := fun p => UInt64.xor_zero
  have e4 : ∀ p : UInt64, 0 ^^^ p = p := fun p => UInt64.zero_xor
  rw [e3, e1 y a, ← e1 a a b, e2, e4, e1, e2, e3]
/-! ### What the machine's words make of them -/
theorem uz_xor (x y : UInt64) : bits .xor .u64 (uz x) (uz y) = uz (x ^^^ y) :=
  (bits_xor_u64_nat _ _ x.toNat_lt y.toNat_lt).trans (by unfold uz; rw [UInt64.toNat_xor])
theorem uz_shr {k : Nat} (x : UInt64) : uz x / 2 ^ k = uz (shr k x) := by
  unfold uz shr
  show (x.toNat : Int) / 2 ^ k = ((x.toBitVec >>> k).toNat : Int)
  rw [BitVec.toNat_ushiftRight, Nat.shiftRight_eq_div_pow]
  simp
theorem uz_mix {k : Nat} (x : UInt64) : bits .xor .u64 (uz x) (uz x / 2 ^ k) = uz (mixU k x) := by
  rw [uz_shr, uz_xor]; rfl

/-! ### Bit by bit from above -/
/-! ### Numbers of a seed -/
def gU : UInt64 := 0x9e3779b97f4a7c15
def aU : UInt64 := 0xbf58476d1ce4e5b9
def bU : UInt64 := 0x94d049bb133111eb
def stepU (z : UInt64) : UInt64 := mixU 31 (mixU 27 (mixU 30 z * aU) * bU)
def unU (n : UInt64) : UInt64 := bakU 30 (bakU 27 (bakU 31 n * uinv bU) * uinv aU)
def numU (s i : UInt64) : UInt64 := stepU (s + (i + 1) * gU)
theorem a_inv : aU * uinv aU = 1 := uinv_mul _ (by decide)
theorem b_inv : bU * uinv bU = 1 := uinv_mul _ (by decide)
theorem times_back {x y : UInt64} (h : x * y = 1) (z : UInt64) : z * x * y = z := by
  rw [UInt64.mul_assoc, h, UInt64.mul_one]
theorem un_step (z : UInt64) : unU (stepU z) = z := by
  unfold unU stepU
  rw [bak_mix (by decide), times_back b_inv, bak_mix (by decide), times_back a_inv, bak_mix (by decide)]
theorem num_seed {s t i : UInt64} (h : numU s i = numU t i) : s = t := by
  unfold numU at h
  have := congrArg unU h
  rw [un_step, un_step] at this
  grind
end Go.Proofs.Ytklgjhldebdegaa

namespace Go.Proofs.Ytklgjhldebdegaa
open Go.RowKit

/-- One party's part of three numbers. -/
structure Tp where
  a : UInt64
  b : UInt64
  c : UInt64
def Tp.z : Tp := ⟨0, 0, 0⟩
def tpcells (t : Tp) : List Value := [.int .u64 (uz t.a), .int .u64 (uz t.b), .int .u64 (uz t.c)]
def tpv (t : Tp) : Value := .agg #[.int .u64 (uz t.a), .int .u64 (uz t.b), .int .u64 (uz t.c)]
theorem tpcells_len (t : Tp) : (tpcells t).length = 3 := rfl
/-- A dealer's triple, one party's part. -/
def halfU (s : UInt64) (who : Int) (i : UInt64) : Tp :=
  if who = 0 then ⟨numU s (5 * i), numU s (5 * i + 1), numU s (5 * i + 2)⟩
  else ⟨numU s (5 * i + 3), numU s (5 * i + 4), (numU s (5 * i) + numU s (5 * i + 3)) * (numU s (5 * i + 1) + numU s (5 * i + 4)) - numU s (5 * i + 2)⟩
theorem half_zero (s i : UInt64) : halfU s 0 i = ⟨numU s (5 * i), numU s (5 * i + 1), numU s (5 * i + 2)⟩ := if_pos rfl
theorem half_one {who : Int} (h : who ≠ 0) (s i : UInt64) : halfU s who i = ⟨numU s (5 * i + 3), numU s (5 * i + 4), (numU s (5 * i) + numU s (5 * i + 3)) * (numU s (5 * i + 1) + numU s (5 * i + 4)) - numU s (5 * i + 2)⟩ := if_neg h
theorem half_product (s i : UInt64) : (halfU s 0 i).c + (halfU s 1 i).c = ((halfU s 0 i).a + (halfU s 1 i).a) * ((halfU s 0 i).b + (halfU s 1 i).b) := by
  rw [half_zero, half_one (by decide)]
  dsimp only
  generalize numU s (5 * i) = p
  generalize numU s (5 * i + 1) = q
  generalize numU s (5 * i + 2) = r
  generalize numU s (5 * i + 3) = u
  generalize numU s (5 * i + 4) = v
  grind
/-- A block that holds a triple. -/
def TC (w : World) (b : Nat) (t : Tp) : Prop := w.heap[b]? = some (.cells #[.int .u64 (uz t.a), .int .u64 (uz t.b), .int .u64 (uz t.c)] 152 (0, 0))
theorem TC.lt {w : World} {b : Nat} {t : Tp} (H : TC w b t) : b < w.heap.size := (Array.getElem?_eq_some_iff.1 H).1
theorem TC.below {w w' : World} {b : Nat} {t : Tp} (H : TC w b t) (hb : Below w.heap.size w w') : TC w' b t := (hb.block b H.lt).trans H
theorem TC.cells {w : World} {b : Nat} {t : Tp} (H : TC w b t) : w.cell? ⟨b, 0, none⟩ = some (.int .u64 (uz t.a)) ∧ w.cell? ⟨b, 1, none⟩ = some (.int .u64 (uz t.b)) ∧ w.cell? ⟨b, 2, none⟩ = some (.int .u64 (uz t.c)) := by
  refine ⟨?_, ?_, ?_⟩ <;> (rw [Lib.cell_of_heap H]; rfl)
theorem TC.frozen {w : World} {b : Nat} {t : Tp} (H : TC w b t) (j : Nat) : w.frozen? ⟨b, j, none⟩ = false := Lib.frozen_of_heap H j
theorem TC.new (w : World) (t : Tp) : TC (w.alloc (.cells #[.int .u64 (uz t.a), .int .u64 (uz t.b), .int .u64 (uz t.c)] 152)) w.heap.size t := heap_alloc_new w _
end Go.Proofs.Ytklgjhldebdegaa

namespace Go.Proofs.Ytklgjhldebdegaa
open Go.RowKit

/-- What is said of a product's numbers. -/
structure On where
  d : UInt64
  e : UInt64
def On.z : On := ⟨0, 0⟩
def oncells (o : On) : List Value := [.int .u64 (uz o.d), .int .u64 (uz o.e)]
def onv (o : On) : Value := .agg #[.int .u64 (uz o.d), .int .u64 (uz o.e)]
theorem oncells_len (o : On) : (oncells o).length = 2 := rfl
def openU (x y : UInt64) (t : Tp) : On := ⟨x - t.a, y - t.b⟩
def sumO (a b : On) : On := ⟨a.d + b.d, a.e + b.e⟩
def closeU (who : Int) (o : On) (t : Tp) : UInt64 := if who = 0 then t.c + o.d * t.b + o.e * t.a + o.d * o.e else t.c + o.d * t.b + o.e * t.a
theorem close_zero (o : On) (t : Tp) : closeU 0 o t = t.c + o.d * t.b + o.e * t.a + o.d * o.e := if_pos rfl
theorem close_one {who : Int} (h : who ≠ 0) (o : On) (t : Tp) : closeU who o t = t.c + o.d * t.b + o.e * t.a := if_neg h
theorem close_any (x u y v : UInt64) (s t : Tp) : closeU 0 (sumO (openU x y s) (openU u v t)) s + closeU 1 (sumO (openU x y s) (openU u v t)) t = (x + u) * (y + v) + (s.c + t.c - (s.a + t.a) * (s.b + t.b)) := by
  rw [close_zero, close_one (by decide)]
  unfold sumO openU
  dsimp only
  grind
theorem close_exact (x u y v z i : UInt64) : closeU 0 (sumO (openU x y (halfU z 0 i)) (openU u v (halfU z 1 i))) (halfU z 0 i) + closeU 1 (sumO (openU x y (halfU z 0 i)) (openU u v (halfU z 1 i))) (halfU z 1 i) = (x + u) * (y + v) := by
  rw [close_any, half_product]
  grind
/-- A block that holds an opening. -/
def OC (w : World) (b : Nat) (o : On) : Prop := w.heap[b]? = some (.cells #[.int .u64 (uz o.d), .int .u64 (uz o.e)] 156 (0, 0))
theorem OC.lt {w : World} {b : Nat} {o : On} (H : OC w b o) : b < w.heap.size := (Array.getElem?_eq_some_iff.1 H).1
theorem OC.below {w w' : World} {b : Nat} {o : On} (H : OC w b o) (hb : Below w.heap.size w w') : OC w' b o := (hb.block b H.lt).trans H
theorem OC.cells {w : World} {b : Nat} {o : On} (H : OC w b o) : w.cell? ⟨b, 0, none⟩ = some (.int .u64 (uz o.d)) ∧ w.cell? ⟨b, 1, none⟩ = some (.int .u64 (uz o.e)) := by
  refine ⟨?_, ?_⟩ <;> (rw [Lib.cell_of_heap H]; rfl)
theorem OC.frozen {w : World} {b : Nat} {o : On} (H : OC w b o) (j : Nat) : w.frozen? ⟨b, j, none⟩ = false := Lib.frozen_of_heap H j
theorem OC.new (w : World) (o : On) : OC (w.alloc (.cells #[.int .u64 (uz o.d), .int .u64 (uz o.e)] 156)) w.heap.size o := heap_alloc_new w _
theorem OC.set {w : World} {b : Nat} {o : On} (H : OC w b o) (p : On) : OC ((w.setCell ⟨b, 0, none⟩ (.int .u64 (uz p.d))).setCell ⟨b, 1, none⟩ (.int .u64 (uz p.e))) b p :=
  Lib.heap_setCell_same (i := 1) (Lib.heap_setCell_same (i := 0) H (.int .u64 (uz p.d))) (.int .u64 (uz p.e))
theorem OC.other {w : World} {b : Nat} {o : On} (H : OC w b o) (a : Addr) (v : Value) (h : b ≠ a.block) : OC (w.setCell a v) b o := (Below.heap_setCell w a v b h).trans H
theorem TC.other {w : World} {b : Nat} {t : Tp} (H : TC w b t) (a : Addr) (v : Value) (h : b ≠ a.block) : TC (w.setCell a v) b t := (Below.heap_setCell w a v b h).trans H
theorem below_set2 {w0 w : World} {B b : Nat} (H : Below B w0 w) (hb : B ≤ b) (v0 v1 : Value) :
    Below B w0 ((w.setCell ⟨b, 0, none⟩ v0).setCell ⟨b, 1, none⟩ v1) :=
  (H.setCell (p := ⟨b, 0, none⟩) hb _).setCell (p := ⟨b, 1, none⟩) hb _
end Go.Proofs.Ytklgjhldebdegaa

namespace Go.Proofs.Ytklgjhldebdegaa
open Go.RowKit

/-! ### Through pools -/
def skipL (ls : List Ly) : Nat → Nat → Nat
  | 0, i => i
  | f + 1, i => if (ls.getD i Ly.z).k = 3 then skipL ls f (i + 1) else i
/-- The first layer from i on that is no Pool. -/
def skipN (ls : List Ly) (i : Nat) : Nat := skipL ls (ls.length - i) i
def poolK (N : Nt) : Nat → Nat → List UInt64 → List UInt64
  | 0, _, xs => xs
  | f + 1, i, xs => if (N.ls.getD i Ly.z).k = 3 then poolK N f (i + 1) (layK (atN N (i : Nat)) xs []) else xs
def poolsU (N : Nt) (i : Nat) (xs : List UInt64) : List UInt64 := poolK N (N.ls.length - i) i xs
theorem skip_end {ls : List Ly} {i : Nat} (h : ls.length ≤ i) : skipN ls i = i := by
  unfold skipN; rw [show ls.length - i = 0 by omega]; rfl
theorem skip_pool {ls : List Ly} {i : Nat} (h : i < ls.length) (k : (ls.getD i Ly.z).k = 3) : skipN ls i = skipN ls (i + 1) := by
  unfold skipN
  rw [show ls.length - i = (ls.length - (i + 1)) + 1 by omega, skipL, if_pos k]
theorem skip_here {ls : List Ly} {i : Nat} (h : i < ls.length) (k : ¬ (ls.getD i Ly.z).k = 3) : skipN ls i = i := by
  unfold skipN
  rw [show ls.length - i = (ls.length - (i + 1)) + 1 by omega, skipL, if_neg k]
theorem pools_end {N : Nt} {i : Nat} (h : N.ls.length ≤ i) (xs : List UInt64) : poolsU N i xs = xs := by
  unfold poolsU; rw [show N.ls.length - i = 0 by omega]; rfl
theorem pools_pool {N : Nt} {i : Nat} (h : i < N.ls.length) (k : (N.ls.getD i Ly.z).k = 3) (xs : List UInt64) : poolsU N i xs = poolsU N (i + 1) (layK (atN N (i : Nat)) xs []) := by
  unfold poolsU
  rw [show N.ls.length - i = (N.ls.length - (i + 1)) + 1 by omega, poolK, if_pos k]
theorem pools_here {N : Nt} {i : Nat} (h : i < N.ls.length) (k : ¬ (N.ls.getD i Ly.z).k = 3) (xs : List UInt64) : poolsU N i xs = xs := by
  unfold poolsU
  rw [show N.ls.length - i = (N.ls.length - (i + 1)) + 1 by omega, poolK, if_neg k]
theorem skip_hi (ls : List Ly) : ∀ (f i : Nat), skipL ls f i ≤ i + f
  | 0, _ => by rw [skipL]; omega
  | f + 1, i => by
    rw [skipL]
    split
    · have := skip_hi ls f (i + 1); omega
    · omega
theorem skip_top {ls : List Ly} {i : Nat} (h : i ≤ ls.length) : skipN ls i ≤ ls.length := by
  have := skip_hi ls (ls.length - i) i
  unfold skipN; omega
/-- Pools go over sums. -/
theorem pools_add {c h x : Int} {ls : List Ly} (e : errN ⟨c, h, x, ls⟩ = 0) : ∀ (d i : Nat) (a b : List UInt64), d = ls.length - i → i ≤ ls.length → a.length = b.length →
    poolsU ⟨c, h, x, ls⟩ i (addU a b) = addU (poolsU ⟨c, h, x, ls⟩ i a) (poolsU ⟨c, h, x, ls⟩ i b) ∧ (poolsU ⟨c, h, x, ls⟩ i a).length = (poolsU ⟨c, h, x, ls⟩ i b).length
  | 0, i, a, b, hd, hi, hab => by
    rw [pools_end (by show ls.length ≤ i; omega), pools_end (by show ls.length ≤ i; omega), pools_end (by show ls.length ≤ i; omega)]
    exact ⟨rfl, hab⟩
  | d + 1, i, a, b, hd, hi, hab => by
    have hl : i < ls.length := by omega
    by_cases k : (ls.getD i Ly.z).k = 3
    · rw [pools_pool (N := ⟨c, h, x, ls⟩) hl k, pools_pool (N := ⟨c, h, x, ls⟩) hl k, pools_pool (N := ⟨c, h, x, ls⟩) hl k, lay_add (by rw [at_kind e hl]; omega) hab]
      exact pools_add e d (i + 1) _ _ (by omega) (by omega) (by rw [lay_len, lay_len])
    · rw [pools_here (N := ⟨c, h, x, ls⟩) hl k, pools_here (N := ⟨c, h, x, ls⟩) hl k, pools_here (N := ⟨c, h, x, ls⟩) hl k]
      exact ⟨rfl, hab⟩
/-- As many numbers as go into the next stage. -/
theorem pools_len {c h x : Int} {ls : List Ly} (e : errN ⟨c, h, x, ls⟩ = 0) : ∀ (d i : Nat) (a : List UInt64), d = ls.length - i → i ≤ ls.length → (a.length : Int) = (endS ⟨c, h, x⟩ (ls.take i)).n →
    ((poolsU ⟨c, h, x, ls⟩ i a).length : Int) = (endS ⟨c, h, x⟩ (ls.take (skipN ls i))).n
  | 0, i, a, hd, hi, ha => by
    rw [pools_end (by show ls.length ≤ i; omega), skip_end (by omega)]; exact ha
  | d + 1, i, a, hd, hi, ha => by
    have hl : i < ls.length := by omega
    by_cases k : (ls.getD i Ly.z).k = 3
    · rw [pools_pool (N := ⟨c, h, x, ls⟩) hl k, skip_pool hl k]
      refine pools_len e d (i + 1) _ (by omega) (by omega) ?_
      rw [lay_len, run_end c h x ls (get_ly hl), at_some e (get_ly hl)]
      have := size_bd (outS (endS ⟨c, h, x⟩ (ls.take i)) (ls.getD i Ly.z))
      show ((outS _ _).n.toNat : Int) = _
      omega
    · rw [pools_here (N := ⟨c, h, x, ls⟩) hl k, skip_here hl k]; exact ha

/-! ### Stages -/
/-- The layer of a stage; behind the last one the end. -/
def stgN (N : Nt) (s : Nat) : Nat := ((stagesN N).getD s (N.ls.length : Int)).toNat
theorem stg_skip {c h x : Int} {ls : List Ly} (e : errN ⟨c, h, x, ls⟩ = 0) : ∀ (d i : Nat), d = ls.length - i → i ≤ ls.length → stgN ⟨c, h, x, ls⟩ (stK ls i).length = skipN ls i
  | 0, i, hd, hi => by
    obtain rfl : i = ls.length := by omega
    unfold stgN
    rw [show stagesN ⟨c, h, x, ls⟩ = stK ls ls.length from if_pos e, skip_end (Nat.le_refl _), List.getD_eq_getElem?_getD, List.getElem?_eq_none (Nat.le_refl _)]
    simp
  | d + 1, i, hd, hi => by
    have hl : i < ls.length := by omega
    have ih := stg_skip e d (i + 1) (by omega) (by omega)
    by_cases k : (ls.getD i Ly.z).k = 3
    · rw [skip_pool hl k, ← ih]
      simp only [stK]
      rw [if_pos k, List.append_nil]
    · rw [skip_here hl k]
      obtain ⟨r, hr⟩ := stK_pre ls (show i + 1 ≤ ls.length by omega)
      unfold stgN
      rw [show stagesN ⟨c, h, x, ls⟩ = stK ls ls.length from if_pos e, hr]
      simp only [stK]
      rw [if_neg k, List.getD_eq_getElem?_getD, List.append_assoc, List.getElem?_append_right (Nat.le_refl _), Nat.sub_self]
      simp
theorem stg_end {c h x : Int} {ls : List Ly} : stgN ⟨c, h, x, ls⟩ (stagesN ⟨c, h, x, ls⟩).length = ls.length := by
  unfold stgN
  rw [List.getD_eq_getElem?_getD, List.getElem?_eq_none (Nat.le_refl _)]
  simp
/-- A stage's layer, and how many stages are ahead of it. -/
theorem stg_at {c h x : Int} {ls : List Ly} (e : errN ⟨c, h, x, ls⟩ = 0) {s : Nat} (hs : s < (stagesN ⟨c, h, x, ls⟩).length) :
    stgN ⟨c, h, x, ls⟩ s < ls.length ∧ ¬ (ls.getD (stgN ⟨c, h, x, ls⟩ s) Ly.z).k = 3 ∧ (stK ls (stgN ⟨c, h, x, ls⟩ s)).length = s ∧ (stagesN ⟨c, h, x, ls⟩)[s]? = some ((stgN ⟨c, h, x, ls⟩ s : Nat) : Int) := by
  have hS : stagesN ⟨c, h, x, ls⟩ = stK ls ls.length := if_pos e
  have hg : (stagesN ⟨c, h, x, ls⟩)[s]? = some ((stagesN ⟨c, h, x, ls⟩).getD s (ls.length : Int)) := by
    rw [List.getElem?_eq_getElem hs]; simp [List.getD_eq_getElem?_getD, hs]
  obtain ⟨i, h1, h2, h3⟩ := stK_mem ls ls.length _ (by rw [← hS]; exact List.mem_of_getElem? hg)
  have hi : stgN ⟨c, h, x, ls⟩ s = i := by
    unfold stgN
    show ((stagesN _).getD s (ls.length : Int)).toNat = i
    rw [h2]; omega
  rw [hi]
  refine ⟨h1, h3, ?_, by rw [hg, h2]⟩
  have hk := stg_skip e (ls.length - i) i rfl (by omega)
  rw [skip_here h1 h3] at hk
  obtain ⟨r, hr⟩ := stK_pre ls (show i + 1 ≤ ls.length by omega)
  have hq : (stK ls ls.length)[(stK ls i).length]? = some ((i : Nat) : Int) := by
    rw [hr]
    simp only [stK]
    rw [if_neg h3, List.append_assoc, List.getElem?_append_right (Nat.le_refl _), Nat.sub_self]
    simp
  rw [h2, hS] at hg
  have hp := List.pairwise_iff_getElem.1 (stK_sorted ls ls.length)
  obtain ⟨l1, e1⟩ := List.getElem?_eq_some_iff.1 hq
  obtain ⟨l2, e2⟩ := List.getElem?_eq_some_iff.1 hg
  rcases Nat.lt_trichotomy (stK ls i).length s with q | q | q
  · have := hp _ _ l1 l2 q; rw [e1, e2] at this; omega
  · exact q
  · have := hp _ _ l2 l1 q; rw [e1, e2] at this; omega
theorem stg_next {c h x : Int} {ls : List Ly} (e : errN ⟨c, h, x, ls⟩ = 0) {s : Nat} (hs : s < (stagesN ⟨c, h, x, ls⟩).length) : stgN ⟨c, h, x, ls⟩ (s + 1) = skipN ls (stgN ⟨c, h, x, ls⟩ s + 1) := by
  obtain ⟨h1, h2, h3, _⟩ := stg_at e hs
  rw [← stg_skip e (ls.length - (stgN ⟨c, h, x, ls⟩ s + 1)) (stgN ⟨c, h, x, ls⟩ s + 1) rfl (by omega)]
  congr 1
  simp only [stK]
  rw [if_neg h2, List.length_append, h3]; rfl

end Go.Proofs.Ytklgjhldebdegaa
