/-
  What Terms and Parts of package terms answer.
-/
import Derived.Test.YtnfmpladdfgadaaTFind
namespace Go.Proofs.Ytnfmpladdfgadaa
open Go.RowKit

/-- A layer that has a place which comes out. -/
theorem has_layer {c h x : Int} {ls : List Ly} {i p : Int} (hh : hasK (atN ⟨c, h, x, ls⟩ i) p = true) :
    errN ⟨c, h, x, ls⟩ = 0 ∧ ∃ (j : Nat) (l : Ly), i = j ∧ ls[j]? = some l ∧ atN ⟨c, h, x, ls⟩ i = ⟨l, endS ⟨c, h, x⟩ (ls.take j), outS (endS ⟨c, h, x⟩ (ls.take j)) l, sumW ⟨c, h, x⟩ (ls.take j)⟩ ∧ lyB l = true ∧ (endS ⟨c, h, x⟩ (ls.take j)).r = true ∧ okS (endS ⟨c, h, x⟩ (ls.take j)) l = true := by
  have hE : errN ⟨c, h, x, ls⟩ = 0 := by
    by_cases e : errN ⟨c, h, x, ls⟩ = 0
    · exact e
    · rw [at_none e, hasK_z] at hh; cases hh
  have hI : 0 ≤ i ∧ i < (ls.length : Int) := by
    by_cases e : 0 ≤ i ∧ i < (ls.length : Int)
    · exact e
    · rw [at_far e, hasK_z] at hh; cases hh
  obtain ⟨j, rfl⟩ : ∃ j : Nat, i = j := ⟨i.toNat, by omega⟩
  have hl := get_ly (show j < ls.length by omega)
  obtain ⟨a, b, d⟩ := layer_facts hE hl
  exact ⟨hE, j, _, rfl, hl, at_some hE hl, a, b, d⟩
theorem sum_all {c h x : Int} {ls : List Ly} (e : errN ⟨c, h, x, ls⟩ = 0) (j : Nat) : 0 ≤ sumW ⟨c, h, x⟩ (ls.take j) ∧ sumW ⟨c, h, x⟩ (ls.take j) ≤ 512 := by
  obtain ⟨r, f3, t, a, b, l8⟩ := ok_all e
  have h1 := sum_bd (s := ⟨c, h, x⟩) r (all_take f3 j) (fit_take t j) (by rw [List.length_take]; omega)
  refine ⟨h1.1, ?_⟩
  have h2 := w_app (ls.take j) (ls.drop j) ⟨c, h, x⟩
  rw [List.take_append_drop] at h2
  have h3 : fitL (endS ⟨c, h, x⟩ (ls.take j)) (ls.drop j) = true := by
    have := t
    rw [← List.take_append_drop j ls, fit_app, Bool.and_eq_true] at this
    exact this.2
  have h4 := sum_bd (s := endS ⟨c, h, x⟩ (ls.take j)) (end_right _ _ r (all_take f3 j) (fit_take t j)) (by rw [List.all_eq_true] at f3 ⊢; exact fun y hy => f3 y (List.mem_of_mem_drop hy)) h3 (by rw [List.length_drop]; omega)
  omega
/-- Channel, row and column of a place that comes out. -/
theorem of_bd {s : Sh} {p : Int} (hh : hasB s.c s.h s.x p = true) :
    (0 ≤ chI s.c s.h s.x p ∧ chI s.c s.h s.x p < s.c) ∧ (0 ≤ rowI s.c s.h s.x p ∧ rowI s.c s.h s.x p < s.h) ∧ (0 ≤ colI s.c s.h s.x p ∧ colI s.c s.h s.x p < s.x) := by
  obtain ⟨e1, e2, e3⟩ := of_yes hh
  obtain ⟨_, k0, k1, y0, y1, x0, x1⟩ := insideB_out (of_at hh).1
  rw [e1, e2, e3]
  exact ⟨⟨k0, k1⟩, ⟨y0, y1⟩, ⟨x0, x1⟩⟩

set_option maxHeartbeats 1000000 in
set_option maxRecDepth 100000 in
theorem terms_none (c h x : Int) (A : Option Addr) (cA n : Nat) (ls : List Ly) (i p : Int) (w : World) (hx : Rl w A ls) (ln : n = ls.length) (hn : n ≤ 1000) (hh : hasK (atN ⟨c, h, x, ls⟩ i) p = false) :
    Calls Try.prog 27 #[.agg #[.int .i64 c, .int .i64 h, .int .i64 x, .slice A n cA], .int .i64 i, .int .i64 p] w fun e w' => e = .returned (.slice none 0 0) ∧ Below w.heap.size w w' := by
  have HH := Lib.hid hh
  clear hh
  have hcs : ∀ (a : Addr) (k : FloatKind) (re im : Nat) (m : Mode) (w : World), (store a (.complex k re im) m).run Try.prog w = stored Try.prog w a (.complex k re im) m := fun a k re im m w => run_store Try.prog w a _ m rfl
  have HX := Lib.hid hx; have LX := Lib.hid ln
  clear hx ln
  go_enter Try.func27, Try.ntmps27
  go_wp2_with fail
  refine (find_none c h x A cA n ls i p _ (HX.out.below ((Below.refl _ w).alloc (Nat.le_refl _) _)) LX.out hn HH.out).mono ?_
  rintro e w1 ⟨rfl, hb⟩
  have B1 := Lib.hid (chain ((Below.refl w.heap.size w).alloc (Nat.le_refl _) _) hb)
  have N1 := Lib.hid ((NB.new w c h x (.slice A n cA)).below hb)
  obtain ⟨c0, c1, c2, c3⟩ := N1.out.cells
  have lw1 := N1.out.lt
  clear hb
  go_wp2_with fail
  refine (weights_of c h x A cA n ls i _ (HX.out.below (chain_alloc B1.out _)) LX.out hn).mono ?_
  rintro e w2 ⟨rfl, hb⟩
  have B2 := Lib.hid (chain (chain_alloc B1.out _) hb)
  have c0 := (hb.cell (p := ⟨w1.heap.size, 0, none⟩) (by show w1.heap.size < _; simp))
  rw [show (w1.alloc (.cells #[.int .i64 0, .int .i64 0, .int .i64 0, .int .i64 0, .int .i64 0, .int .i64 0, .int .i64 0, .int .i64 0, .complex .f64 0 0] 87)).cell? ⟨w1.heap.size, 0, none⟩ = some (.int .i64 0) by go_simp] at c0
  clear hb
  go_wp2_with fail
  go_ret
  exact ⟨rfl, B2.out⟩
set_option maxHeartbeats 1000000 in
set_option maxRecDepth 100000 in
theorem parts_none (c h x : Int) (A : Option Addr) (cA n : Nat) (ls : List Ly) (i p : Int) (w : World) (hx : Rl w A ls) (ln : n = ls.length) (hn : n ≤ 1000) (hh : hasK (atN ⟨c, h, x, ls⟩ i) p = false) :
    Calls Try.prog 30 #[.agg #[.int .i64 c, .int .i64 h, .int .i64 x, .slice A n cA], .int .i64 i, .int .i64 p] w fun e w' => e = .returned (.slice none 0 0) ∧ Below w.heap.size w w' := by
  have HH := Lib.hid hh
  clear hh
  have hcs : ∀ (a : Addr) (k : FloatKind) (re im : Nat) (m : Mode) (w : World), (store a (.complex k re im) m).run Try.prog w = stored Try.prog w a (.complex k re im) m := fun a k re im m w => run_store Try.prog w a _ m rfl
  have HX := Lib.hid hx; have LX := Lib.hid ln
  clear hx ln
  go_enter Try.func30, Try.ntmps30
  go_wp2_with fail
  refine (find_none c h x A cA n ls i p _ (HX.out.below ((Below.refl _ w).alloc (Nat.le_refl _) _)) LX.out hn HH.out).mono ?_
  rintro e w1 ⟨rfl, hb⟩
  have B1 := Lib.hid (chain ((Below.refl w.heap.size w).alloc (Nat.le_refl _) _) hb)
  clear hb
  go_wp2_with fail
  go_ret
  exact ⟨rfl, chain_alloc B1.out _⟩

set_option maxHeartbeats 2000000 in
set_option maxRecDepth 100000 in
theorem terms_snew (c h x : Int) (A : Option Addr) (cA n : Nat) (ls : List Ly) (i p : Int) (K : Kn) (w : World) (hx : Rl w A ls) (ln : n = ls.length) (hn : n ≤ 1000) (hK : K = atN ⟨c, h, x, ls⟩ i) (hh : hasK K p = true) :
    Calls Try.prog 27 #[.agg #[.int .i64 c, .int .i64 h, .int .i64 x, .slice A n cA], .int .i64 i, .int .i64 p] w (RowNew tcells (termsK K p) w) := by
  have hh2 := hh
  rw [hK] at hh2
  obtain ⟨hE, j, l, hij, hl, hat, hly, hr, hok⟩ := has_layer hh2
  rw [← hK] at hat
  have hsum := sum_all hE j
  have KOK : KnOk K := by rw [hK]; exact at_ok _ _
  have hu : K.u.r = true := by rw [hat]; exact out_right hr hly hok
  have hir : K.i.r = true := by rw [hat]; exact hr
  obtain ⟨u1, u2, u3, u4, u5, u6, u7⟩ := right_bd hu
  obtain ⟨r1, r2, r3, r4, r5, r6, r7⟩ := right_bd hir
  obtain ⟨⟨ch0, ch1⟩, ⟨ro0, ro1⟩, ⟨co0, co1⟩⟩ := of_bd (s := K.u) hh
  have hKa : K.a = sumW ⟨c, h, x⟩ (ls.take j) := by rw [hat]
  rw [← hKa] at hsum
  have hkind : K.l.k = 1 ∨ K.l.k = 2 ∨ K.l.k = 3 ∨ K.l.k = 4 := by rw [hat]; exact ly_kind hly
  have hrest : lyB K.l = true := by rw [hat]; exact hly
  -- the step
  obtain ⟨st, hst⟩ : ∃ st, st = (if K.l.k = 3 then K.l.s else K.l.t) := ⟨_, rfl⟩
  have hst0 : 0 ≤ st ∧ st ≤ 999999 ∧ (K.l.k = 1 → st = K.l.t ∧ st ≤ 12) := by
    rcases hkind with k | k | k | k
    · rw [hst, if_neg (by omega)]
      have ho2 : okS K.i K.l = true := by rw [hat]; exact hok
      rw [(out_conv K.i k).2] at ho2
      obtain ⟨_, _, _, _, _, t1, t2, _⟩ := convB_out ho2
      exact ⟨by omega, by omega, fun _ => ⟨rfl, t2⟩⟩
    · rw [hst, if_neg (by omega)]
      have := hrest
      unfold lyB restB at this
      rw [if_neg (by omega), if_neg (by omega), if_neg (by omega)] at this
      simp at this
      exact ⟨by omega, by omega, fun h => absurd h (by omega)⟩
    · rw [hst, if_pos k]
      have := hrest
      unfold lyB nums at this
      rw [if_neg (by omega), if_pos k] at this
      simp [winB] at this
      exact ⟨by omega, by omega, fun h => absurd h (by omega)⟩
    · rw [hst, if_neg (by omega)]
      have := hrest
      unfold lyB restB at this
      rw [if_neg (by omega), if_neg (by omega), if_pos k] at this
      simp at this
      exact ⟨by omega, by omega, fun h => absurd h (by omega)⟩
  obtain ⟨st0, st1, st2⟩ := hst0
  have m1 := mul_bd co0 (show colI K.u.c K.u.h K.u.x p ≤ 12 by omega) st0 st1
  have m2 := mul_bd ro0 (show rowI K.u.c K.u.h K.u.x p ≤ 12 by omega) st0 st1
  obtain ⟨ch, hch⟩ : ∃ ch : Nat, chI K.u.c K.u.h K.u.x p = ch := ⟨(chI K.u.c K.u.h K.u.x p).toNat, by omega⟩
  obtain ⟨cx, hcx⟩ : ∃ cx : Nat, colI K.u.c K.u.h K.u.x p * st = cx := ⟨(colI K.u.c K.u.h K.u.x p * st).toNat, by omega⟩
  obtain ⟨cy, hcy⟩ : ∃ cy : Nat, rowI K.u.c K.u.h K.u.x p * st = cy := ⟨(rowI K.u.c K.u.h K.u.x p * st).toNat, by omega⟩
  have HF : Hid (∀ w, Rl w A ls → Calls Try.prog 64 #[.agg #[.int .i64 c, .int .i64 h, .int .i64 x, .slice A n cA], .int .i64 i, .int .i64 p] w fun e w' => e = .returned (.agg #[.int .i64 K.l.k, .int .i64 K.l.o, .int .i64 K.l.s, .int .i64 K.l.t, .int .i64 K.i.c, .int .i64 K.i.h, .int .i64 K.i.x, .int .i64 (ch : Int), .complex .f64 (fl cx) (fl cy)]) ∧ Below w.heap.size w w') := fun w hx =>
    find_some c h x A cA n ls i p K st ch cx cy w hx ln hn hK hh hst hch hcx hcy (by omega) (by omega)
  have HWt : Hid (∀ w, Rl w A ls → Calls Try.prog 16 #[.agg #[.int .i64 c, .int .i64 h, .int .i64 x, .slice A n cA], .int .i64 i] w fun e w' => e = .returned (.tuple #[.int .i64 K.a, .int .i64 K.w]) ∧ Below w.heap.size w w') := fun w hx => by
    rw [hK]; exact weights_of c h x A cA n ls i w hx ln hn
  obtain ⟨a, ha⟩ : ∃ a, a = K.a := ⟨_, rfl⟩
  obtain ⟨b, hb⟩ : ∃ b, b = K.w := ⟨_, rfl⟩
  rw [← ha, ← hb] at HWt
  rw [← ha] at hsum
  obtain ⟨sm0, sm1⟩ := hsum
  have HTO : Hid (termsK K p = if K.l.k = 1 then seqT (a + (ch : Int) * K.i.c * K.l.s * K.l.s) (chanL K.i (cy : Int) (cx : Int) K.l.s.toNat K.i.c.toNat) else if K.l.k = 2 then [⟨p, -1⟩] else if K.l.k = 4 then seqT (a + (ch : Int) * K.i.n) (numL K.i.n.toNat) else []) := by
    show _ = _
    unfold termsK
    rw [hch, ← ha]
    by_cases k1 : K.l.k = 1
    · rw [if_pos k1, if_pos k1, ← (st2 k1).1, hcx, hcy]
    · rw [if_neg k1, if_neg k1]
      by_cases k4 : K.l.k = 4
      · rw [if_neg (show ¬ K.l.k = 2 by omega), if_pos k4, if_neg (show ¬ K.l.k = 2 by omega), if_pos k4, ← hch]
        have e1 : K.u = ⟨K.l.o, 1, 1⟩ := by rw [hat]; exact (out_dense _ (by have := k4; rw [hat] at this; exact this)).1
        have e2 := (of_yes hh).1
        rw [e1] at e2 ⊢
        rw [e2]; simp
      · rw [if_neg k4, if_neg k4]
  have hc8 : ch ≤ 8 := by omega
  have S4 : K.l.k = 4 → K.l.s = 0 := fun k4 => by
    have := hrest
    unfold lyB restB at this
    rw [if_neg (by omega), if_neg (by omega), if_pos k4] at this
    simp at this
    omega
  have HS4 := Lib.hid S4
  have X12 : K.l.k = 1 → 0 ≤ K.l.s ∧ K.l.s ≤ 12 ∧ cx ≤ 150 ∧ cy ≤ 150 := fun k1 => by
    obtain ⟨_, _, _, _, a5, a6, _⟩ := KOK.1 k1
    have z1 := mul_bd co0 (show colI K.u.c K.u.h K.u.x p ≤ 11 by omega) st0 (st2 k1).2
    have z2 := mul_bd ro0 (show rowI K.u.c K.u.h K.u.x p ≤ 11 by omega) st0 (st2 k1).2
    exact ⟨a5, a6, by omega, by omega⟩
  have HX12 := Lib.hid X12
  have LN := Lib.hid ln
  have RC : 0 ≤ K.i.c ∧ K.i.c ≤ 8 := ⟨by omega, r2⟩
  have HN : Hid (sizeI K.i.c K.i.h K.i.x = K.i.n) := rfl
  have SN := size_bd K.i
  clear X12 S4 hst hch hcx hcy m1 m2 st0 st1 st2 hrest hKa ha hb KOK hu hir u1 u2 u3 u4 u5 u6 u7 r1 r2 r3 r4 r5 r6 r7 ch0 ch1 ro0 ro1 co0 co1 hat hly hr hok hl hij hE hh2 hh hK
  have hcs : ∀ (a : Addr) (k : FloatKind) (re im : Nat) (m : Mode) (w : World), (store a (.complex k re im) m).run Try.prog w = stored Try.prog w a (.complex k re im) m := fun a k re im m w => run_store Try.prog w a _ m rfl
  have HX := Lib.hid hx
  clear hx ln
  go_enter Try.func27, Try.ntmps27
  go_wp2_with fail
  refine (HF.out _ (HX.out.below ((Below.refl _ w).alloc (Nat.le_refl _) _))).mono ?_
  rintro e w1 ⟨rfl, hb⟩
  have B1 := Lib.hid (chain ((Below.refl w.heap.size w).alloc (Nat.le_refl _) _) hb)
  have N1 := Lib.hid ((NB.new w c h x (.slice A n cA)).below hb)
  obtain ⟨c0, c1, c2, c3⟩ := N1.out.cells
  have lw1 := N1.out.lt
  clear hb
  go_wp2_with fail
  refine (HWt.out _ (HX.out.below (chain_alloc B1.out _))).mono ?_
  rintro e w2 ⟨rfl, hb⟩
  have B2 := Lib.hid (chain (chain_alloc B1.out _) hb)
  have hXB : w2.heap[w1.heap.size]? = some (.cells #[.int .i64 K.l.k, .int .i64 K.l.o, .int .i64 K.l.s, .int .i64 K.l.t, .int .i64 K.i.c, .int .i64 K.i.h, .int .i64 K.i.x, .int .i64 (ch : Int), .complex .f64 (fl cx) (fl cy)] 87 (0, 0)) := (hb.block w1.heap.size (by simp)).trans (heap_alloc_new w1 _)
  have y0 : w2.cell? ⟨w1.heap.size, 0, none⟩ = some (.int .i64 K.l.k) := by rw [Lib.cell_of_heap hXB]; rfl
  have y1 : w2.cell? ⟨w1.heap.size, 1, none⟩ = some (.int .i64 K.l.o) := by rw [Lib.cell_of_heap hXB]; rfl
  have y2 : w2.cell? ⟨w1.heap.size, 2, none⟩ = some (.int .i64 K.l.s) := by rw [Lib.cell_of_heap hXB]; rfl
  have y3 : w2.cell? ⟨w1.heap.size, 3, none⟩ = some (.int .i64 K.l.t) := by rw [Lib.cell_of_heap hXB]; rfl
  have y4 : w2.cell? ⟨w1.heap.size, 4, none⟩ = some (.int .i64 K.i.c) := by rw [Lib.cell_of_heap hXB]; rfl
  have y5 : w2.cell? ⟨w1.heap.size, 5, none⟩ = some (.int .i64 K.i.h) := by rw [Lib.cell_of_heap hXB]; rfl
  have y6 : w2.cell? ⟨w1.heap.size, 6, none⟩ = some (.int .i64 K.i.x) := by rw [Lib.cell_of_heap hXB]; rfl
  have y7 : w2.cell? ⟨w1.heap.size, 7, none⟩ = some (.int .i64 (ch : Int)) := by rw [Lib.cell_of_heap hXB]; rfl
  have y8 : w2.cell? ⟨w1.heap.size, 8, none⟩ = some (.complex .f64 (fl cx) (fl cy)) := by rw [Lib.cell_of_heap hXB]; rfl
  clear hb hXB c0 c1 c2 c3 lw1
  by_cases k1 : K.l.k = 1
  · have e1 : (K.l.k == 1) = true := by rw [k1]; rfl
    obtain ⟨x1, x2, x3, x4⟩ := HX12.out k1
    obtain ⟨m, hm⟩ : ∃ m : Nat, K.l.s = m := ⟨K.l.s.toNat, by omega⟩
    obtain ⟨cn, hcn⟩ : ∃ cn : Nat, K.i.c = cn := ⟨K.i.c.toNat, by omega⟩
    have hT := HTO.out
    rw [if_pos k1, hm, show (m : Int).toNat = m from rfl, show K.i.c.toNat = cn by rw [hcn]; rfl] at hT
    have HT := Lib.hid hT
    have HO : Hid (∀ w, Calls Try.prog 65 #[.agg #[.int .i64 K.l.k, .int .i64 K.l.o, .int .i64 K.l.s, .int .i64 K.l.t, .int .i64 K.i.c, .int .i64 K.i.h, .int .i64 K.i.x, .int .i64 (ch : Int), .complex .f64 (fl cx) (fl cy)], .int .i64 a] w (RowNew tcells (termsK K p) w)) := fun w => by
      have := ofWindows_new K.l.k K.l.o K.l.t (ch : Int) K.i m cx cy cn a w (by omega) x3 x4 hcn (by omega) (by omega) (by omega) sm0 sm1
      rw [HT.out, hm]
      exact this
    clear hT hm hcn k1 x1 x2 x3 x4
    go_wp2_with fail
    refine (HO.out _).mono ?_
    rintro e w3 ⟨A3, k3, n3, rfl, h1, h2, hb, h4, h5, h6⟩
    have H1 := Lib.hid h1; have H2 := Lib.hid h2; have HB := Lib.hid (chain B2.out hb); have H4 := Lib.hid h4; have H5 := Lib.hid h5
    have NEW : Hid (∀ a, A3 = some a → w.heap.size ≤ a.block) := fun a ha => Nat.le_trans B2.out.size (h6 a ha)
    clear h1 h2 hb h4 h5 h6
    go_wp2_with fail
    go_ret
    exact ⟨A3, k3, n3, rfl, H1.out, H2.out, HB.out, H4.out, H5.out, NEW.out⟩
  · have e1 : (K.l.k == 1) = false := by simpa using k1
    by_cases k2 : K.l.k = 2
    · have e2 : (K.l.k == 2) = true := by rw [k2]; rfl
      have hT := HTO.out
      rw [if_neg k1, if_pos k2] at hT
      have HT := Lib.hid hT
      clear hT k1 k2
      go_wp2_with fail
      go_ret
      refine ⟨some ⟨w2.heap.size, 0, none⟩, 1, 1, rfl, by rw [HT.out]; rfl, ?_, chain_alloc B2.out _, Nat.le_refl _, by decide, fun a ha => by cases ha; exact B2.out.size⟩
      rw [HT.out]
      exact rg_block (heap_alloc_new w2 _) rfl
    · have e2 : (K.l.k == 2) = false := by simpa using k2
      by_cases k4 : K.l.k = 4
      · have e4 : (K.l.k == 4) = true := by rw [k4]; rfl
        obtain ⟨m, hm⟩ : ∃ m : Nat, K.l.s = m := ⟨0, HS4.out k4⟩
        obtain ⟨q, hq⟩ : ∃ q : Nat, K.i.n = q := ⟨K.i.n.toNat, by omega⟩
        have hT := HTO.out
        rw [if_neg k1, if_neg k2, if_pos k4, hq, show (q : Int).toNat = q from rfl] at hT
        have HT := Lib.hid hT
        have HO : Hid (∀ w, Calls Try.prog 66 #[.agg #[.int .i64 K.l.k, .int .i64 K.l.o, .int .i64 K.l.s, .int .i64 K.l.t, .int .i64 K.i.c, .int .i64 K.i.h, .int .i64 K.i.x, .int .i64 (ch : Int), .complex .f64 (fl cx) (fl cy)], .int .i64 a] w (RowNew tcells (termsK K p) w)) := fun w => by
          have := ofAll_new K.l.k K.l.o K.l.t (ch : Int) K.i m cx cy q a w (by rw [HN.out, hq]) (by omega) (by omega) sm0 sm1
          rw [HT.out, hm]
          exact this
        clear hT hm hq k1 k2 k4
        go_wp2_with fail
        refine (HO.out _).mono ?_
        rintro e w3 ⟨A3, k3, n3, rfl, h1, h2, hb, h4, h5, h6⟩
        have H1 := Lib.hid h1; have H2 := Lib.hid h2; have HB := Lib.hid (chain B2.out hb); have H4 := Lib.hid h4; have H5 := Lib.hid h5
        have NEW : Hid (∀ a, A3 = some a → w.heap.size ≤ a.block) := fun a ha => Nat.le_trans B2.out.size (h6 a ha)
        clear h1 h2 hb h4 h5 h6
        go_wp2_with fail
        go_ret
        exact ⟨A3, k3, n3, rfl, H1.out, H2.out, HB.out, H4.out, H5.out, NEW.out⟩
      · have e4 : (K.l.k == 4) = false := by simpa using k4
        have hT := HTO.out
        rw [if_neg k1, if_neg k2, if_neg k4] at hT
        have HT := Lib.hid hT
        clear hT k1 k2 k4
        go_wp2_with fail
        go_ret
        exact ⟨none, 0, 0, rfl, by rw [HT.out]; rfl, by rw [HT.out]; exact Rg.nil _ _ _, B2.out, Nat.le_refl _, Nat.zero_le _, fun a ha => by cases ha⟩
theorem terms_some (c h x : Int) (A : Option Addr) (cA n : Nat) (ls : List Ly) (i p : Int) (K : Kn) (w : World) (hx : Rl w A ls) (ln : n = ls.length) (hn : n ≤ 1000) (hK : K = atN ⟨c, h, x, ls⟩ i) (hh : hasK K p = true) :
    Calls Try.prog 27 #[.agg #[.int .i64 c, .int .i64 h, .int .i64 x, .slice A n cA], .int .i64 i, .int .i64 p] w (RowTo tcells (termsK K p) w) := by
  exact (terms_snew c h x A cA n ls i p K w hx ln hn hK hh).mono fun _ _ h => h.row

set_option maxHeartbeats 2000000 in
set_option maxRecDepth 100000 in
theorem parts_some (c h x : Int) (A : Option Addr) (cA n : Nat) (ls : List Ly) (i p : Int) (K : Kn) (w : World) (hx : Rl w A ls) (ln : n = ls.length) (hn : n ≤ 1000) (hK : K = atN ⟨c, h, x, ls⟩ i) (hh : hasK K p = true) :
    Calls Try.prog 30 #[.agg #[.int .i64 c, .int .i64 h, .int .i64 x, .slice A n cA], .int .i64 i, .int .i64 p] w (RowTo icells (partsK K p) w) := by
  have hh2 := hh
  rw [hK] at hh2
  obtain ⟨hE, j, l, hij, hl, hat, hly, hr, hok⟩ := has_layer hh2
  rw [← hK] at hat
  have hu : K.u.r = true := by rw [hat]; exact out_right hr hly hok
  have hir : K.i.r = true := by rw [hat]; exact hr
  obtain ⟨u1, u2, u3, u4, u5, u6, u7⟩ := right_bd hu
  obtain ⟨r1, r2, r3, r4, r5, r6, r7⟩ := right_bd hir
  obtain ⟨⟨ch0, ch1⟩, ⟨ro0, ro1⟩, ⟨co0, co1⟩⟩ := of_bd (s := K.u) hh
  have hkind : K.l.k = 1 ∨ K.l.k = 2 ∨ K.l.k = 3 ∨ K.l.k = 4 := by rw [hat]; exact ly_kind hly
  have hrest : lyB K.l = true := by rw [hat]; exact hly
  have hok2 : okS K.i K.l = true := by rw [hat]; exact hok
  obtain ⟨st, hst⟩ : ∃ st, st = (if K.l.k = 3 then K.l.s else K.l.t) := ⟨_, rfl⟩
  have hst0 : 0 ≤ st ∧ st ≤ 999999 ∧ (K.l.k = 3 → st = K.l.s ∧ st ≤ 12) := by
    rcases hkind with k | k | k | k
    · rw [hst, if_neg (by omega)]
      have ho2 := hok2
      rw [(out_conv K.i k).2] at ho2
      obtain ⟨_, _, _, _, _, t1, t2, _⟩ := convB_out ho2
      exact ⟨by omega, by omega, fun h => absurd h (by omega)⟩
    · rw [hst, if_neg (by omega)]
      have := hrest
      unfold lyB restB at this
      rw [if_neg (by omega), if_neg (by omega), if_neg (by omega)] at this
      simp at this
      exact ⟨by omega, by omega, fun h => absurd h (by omega)⟩
    · rw [hst, if_pos k]
      have ho2 := hok2
      rw [(out_pool K.i k).2] at ho2
      obtain ⟨_, t1, t2, _⟩ := poolB_out ho2
      have h12 : K.l.s ≤ K.i.h := by
        by_cases hle : K.l.s ≤ K.i.h
        · exact hle
        · rw [Int.emod_eq_of_lt (by omega) (by omega)] at t2; omega
      exact ⟨by omega, by omega, fun _ => ⟨rfl, by omega⟩⟩
    · rw [hst, if_neg (by omega)]
      have := hrest
      unfold lyB restB at this
      rw [if_neg (by omega), if_neg (by omega), if_pos k] at this
      simp at this
      exact ⟨by omega, by omega, fun h => absurd h (by omega)⟩
  obtain ⟨st0, st1, st2⟩ := hst0
  have m1 := mul_bd co0 (show colI K.u.c K.u.h K.u.x p ≤ 12 by omega) st0 st1
  have m2 := mul_bd ro0 (show rowI K.u.c K.u.h K.u.x p ≤ 12 by omega) st0 st1
  obtain ⟨ch, hch⟩ : ∃ ch : Nat, chI K.u.c K.u.h K.u.x p = ch := ⟨(chI K.u.c K.u.h K.u.x p).toNat, by omega⟩
  obtain ⟨cx, hcx⟩ : ∃ cx : Nat, colI K.u.c K.u.h K.u.x p * st = cx := ⟨(colI K.u.c K.u.h K.u.x p * st).toNat, by omega⟩
  obtain ⟨cy, hcy⟩ : ∃ cy : Nat, rowI K.u.c K.u.h K.u.x p * st = cy := ⟨(rowI K.u.c K.u.h K.u.x p * st).toNat, by omega⟩
  have HF : Hid (∀ w, Rl w A ls → Calls Try.prog 64 #[.agg #[.int .i64 c, .int .i64 h, .int .i64 x, .slice A n cA], .int .i64 i, .int .i64 p] w fun e w' => e = .returned (.agg #[.int .i64 K.l.k, .int .i64 K.l.o, .int .i64 K.l.s, .int .i64 K.l.t, .int .i64 K.i.c, .int .i64 K.i.h, .int .i64 K.i.x, .int .i64 (ch : Int), .complex .f64 (fl cx) (fl cy)]) ∧ Below w.heap.size w w') := fun w hx =>
    find_some c h x A cA n ls i p K st ch cx cy w hx ln hn hK hh hst hch hcx hcy (by omega) (by omega)
  have HTO : Hid (partsK K p = if K.l.k = 3 then winL K.i (ch : Int) (cy : Int) (cx : Int) K.l.s.toNat else []) := by
    show _ = _
    unfold partsK
    by_cases k3 : K.l.k = 3
    · rw [if_pos k3, if_pos k3, hch, ← (st2 k3).1, hcx, hcy]
    · rw [if_neg k3, if_neg k3]
  have X12 : K.l.k = 3 → 0 ≤ K.l.s ∧ K.l.s ≤ 12 ∧ cx ≤ 150 ∧ cy ≤ 150 := fun k3 => by
    have z1 := mul_bd co0 (show colI K.u.c K.u.h K.u.x p ≤ 11 by omega) st0 (st2 k3).2
    have z2 := mul_bd ro0 (show rowI K.u.c K.u.h K.u.x p ≤ 11 by omega) st0 (st2 k3).2
    have := (st2 k3)
    exact ⟨by omega, by omega, by omega, by omega⟩
  have HX12 := Lib.hid X12
  clear X12 hst hch hcx hcy m1 m2 st0 st1 st2 hrest hu hir u1 u2 u3 u4 u5 u6 u7 r1 r2 r3 r4 r5 r6 r7 ch0 ch1 ro0 ro1 co0 co1 hat hly hr hok hl hij hE hh2 hh hK hkind hok2
  have hcs : ∀ (a : Addr) (k : FloatKind) (re im : Nat) (m : Mode) (w : World), (store a (.complex k re im) m).run Try.prog w = stored Try.prog w a (.complex k re im) m := fun a k re im m w => run_store Try.prog w a _ m rfl
  have hmf : ∀ (fn : Fn) (first cap : Array Value) (w : World), (Instr.makeFunc fn first cap).run Try.prog w = .ok (.func fn first cap) w := fun _ _ _ _ => rfl
  have HX := Lib.hid hx
  clear hx ln
  go_enter Try.func30, Try.ntmps30
  go_wp2_with fail
  refine (HF.out _ (HX.out.below ((Below.refl _ w).alloc (Nat.le_refl _) _))).mono ?_
  rintro e w1 ⟨rfl, hb⟩
  have B1 := Lib.hid (chain ((Below.refl w.heap.size w).alloc (Nat.le_refl _) _) hb)
  clear hb
  by_cases k3 : K.l.k = 3
  · have e3 : (K.l.k != 3) = false := by rw [k3]; rfl
    obtain ⟨x1, x2, x3, x4⟩ := HX12.out k3
    obtain ⟨m, hm⟩ : ∃ m : Nat, K.l.s = m := ⟨K.l.s.toNat, by omega⟩
    have hT := HTO.out
    rw [if_pos k3, hm, show (m : Int).toNat = m from rfl] at hT
    have HT := Lib.hid hT
    obtain ⟨pb, hpb⟩ : ∃ pb, pb = w1.heap.size + 1 := ⟨_, rfl⟩
    have hp : w.heap.size ≤ pb := by have := B1.out.size; omega
    have HO : Hid (∀ w', PJ w pb [] w' → Calls Try.prog 68 #[.agg #[.int .i64 K.l.k, .int .i64 K.l.o, .int .i64 K.l.s, .int .i64 K.l.t, .int .i64 K.i.c, .int .i64 K.i.h, .int .i64 K.i.x, .int .i64 (ch : Int), .complex .f64 (fl cx) (fl cy)], .int .i64 (ch : Int), .func (.func 69) #[] #[.pointer (some ⟨pb, 0, none⟩)]] w' fun e w'' => e = .returned (.tuple #[]) ∧ PJ w pb (partsK K p) w'') := fun w' hj => by
      have := window_any 69 #[.pointer (some ⟨pb, 0, none⟩)] (PJ w pb) (by intro args w; go_simp) (fun xs x w1 hl hj => parts1_any w pb hp xs x w1 hl hj) (fun xs w1 w2 h1 h2 => h1.below h2) K.l.k K.l.o K.l.t (ch : Int) K.i m cx cy (ch : Int) [] w' hj (by omega) x3 x4 (by simp)
      rw [hm, HT.out]
      exact this.mono fun e w2 hh => ⟨hh.1, hh.2.1⟩
    have J0 : Hid (PJ w pb [] ((w1.alloc (.cells #[.int .i64 K.l.k, .int .i64 K.l.o, .int .i64 K.l.s, .int .i64 K.l.t, .int .i64 K.i.c, .int .i64 K.i.h, .int .i64 K.i.x, .int .i64 (ch : Int), .complex .f64 (fl cx) (fl cy)] 87)).alloc (.cells #[.slice none 0 0] 43))) := by
      refine ⟨⟨.slice none 0 0, ?_, ⟨rfl, .inl ⟨rfl, rfl⟩⟩⟩, chain_alloc (chain_alloc B1.out _) _⟩
      have := heap_alloc_new (w1.alloc (.cells #[.int .i64 K.l.k, .int .i64 K.l.o, .int .i64 K.l.s, .int .i64 K.l.t, .int .i64 K.i.c, .int .i64 K.i.h, .int .i64 K.i.x, .int .i64 (ch : Int), .complex .f64 (fl cx) (fl cy)] 87)) (.cells #[.slice none 0 0] 43)
      rw [show (w1.alloc _).heap.size = w1.heap.size + 1 by simp, ← hpb] at this
      exact this
    clear hT hm k3 x1 x2 x3 x4
    go_wp2_with fail
    rw [← hpb]
    clear hpb
    refine (HO.out _ J0.out).mono ?_
    rintro e w3 ⟨rfl, ⟨v, hV, hO⟩, hB⟩
    obtain ⟨A3, c3, hv, hd1, hd2, hd3, hd4⟩ := own_cap icells_len (by decide) hO
    subst hv
    have D2 := Lib.hid hd2; have D3 := Lib.hid hd3; have D4 := Lib.hid hd4; have B := Lib.hid hB
    have cv := hV.cell
    clear hV hO hB hd1 hd2 hd3 hd4
    go_wp2_with fail
    go_ret
    exact ⟨A3, c3, _, rfl, rfl, D2.out, B.out, D3.out, D4.out⟩
  · have e3 : (K.l.k != 3) = true := by simpa using k3
    have hT := HTO.out
    rw [if_neg k3] at hT
    have HT := Lib.hid hT
    clear hT k3
    go_wp2_with fail
    go_ret
    exact ⟨none, 0, 0, rfl, by rw [HT.out]; rfl, by rw [HT.out]; exact Rg.nil _ _ _, chain_alloc B1.out _, Nat.le_refl _, Nat.zero_le _⟩

/-- Terms and Parts, of any network, layer and place. -/
theorem terms_any (c h x : Int) (A : Option Addr) (cA n : Nat) (ls : List Ly) (i p : Int) (ts : List Tm) (hts : termsN ⟨c, h, x, ls⟩ i p = ts) (w : World) (hx : Rl w A ls) (ln : n = ls.length) (hn : n ≤ 1000) :
    Calls Try.prog 27 #[.agg #[.int .i64 c, .int .i64 h, .int .i64 x, .slice A n cA], .int .i64 i, .int .i64 p] w (RowTo tcells ts w) := by
  subst hts
  cases hh : hasK (atN ⟨c, h, x, ls⟩ i) p
  · refine (terms_none c h x A cA n ls i p w hx ln hn hh).mono ?_
    rintro e w' ⟨rfl, hb⟩
    have e0 : termsN ⟨c, h, x, ls⟩ i p = [] := if_neg (by rw [hh]; decide)
    exact ⟨none, 0, 0, rfl, by rw [e0]; rfl, by rw [e0]; exact Rg.nil _ _ _, hb, Nat.le_refl _, Nat.zero_le _⟩
  · rw [show termsN ⟨c, h, x, ls⟩ i p = termsK (atN ⟨c, h, x, ls⟩ i) p from if_pos hh]
    exact terms_some c h x A cA n ls i p _ w hx ln hn rfl hh
theorem terms_new (c h x : Int) (A : Option Addr) (cA n : Nat) (ls : List Ly) (i p : Int) (ts : List Tm) (hts : termsN ⟨c, h, x, ls⟩ i p = ts) (w : World) (hx : Rl w A ls) (ln : n = ls.length) (hn : n ≤ 1000) :
    Calls Try.prog 27 #[.agg #[.int .i64 c, .int .i64 h, .int .i64 x, .slice A n cA], .int .i64 i, .int .i64 p] w (RowNew tcells ts w) := by
  subst hts
  cases hh : hasK (atN ⟨c, h, x, ls⟩ i) p
  · refine (terms_none c h x A cA n ls i p w hx ln hn hh).mono ?_
    rintro e w' ⟨rfl, hb⟩
    have e0 : termsN ⟨c, h, x, ls⟩ i p = [] := if_neg (by rw [hh]; decide)
    exact ⟨none, 0, 0, rfl, by rw [e0]; rfl, by rw [e0]; exact Rg.nil _ _ _, hb, Nat.le_refl _, Nat.zero_le _, fun a ha => by cases ha⟩
  · rw [show termsN ⟨c, h, x, ls⟩ i p = termsK (atN ⟨c, h, x, ls⟩ i) p from if_pos hh]
    exact terms_snew c h x A cA n ls i p _ w hx ln hn rfl hh
theorem parts_any (c h x : Int) (A : Option Addr) (cA n : Nat) (ls : List Ly) (i p : Int) (xs : List Int) (hxs : partsN ⟨c, h, x, ls⟩ i p = xs) (w : World) (hx : Rl w A ls) (ln : n = ls.length) (hn : n ≤ 1000) :
    Calls Try.prog 30 #[.agg #[.int .i64 c, .int .i64 h, .int .i64 x, .slice A n cA], .int .i64 i, .int .i64 p] w (RowTo icells xs w) := by
  subst hxs
  cases hh : hasK (atN ⟨c, h, x, ls⟩ i) p
  · refine (parts_none c h x A cA n ls i p w hx ln hn hh).mono ?_
    rintro e w' ⟨rfl, hb⟩
    have e0 : partsN ⟨c, h, x, ls⟩ i p = [] := if_neg (by rw [hh]; decide)
    exact ⟨none, 0, 0, rfl, by rw [e0]; rfl, by rw [e0]; exact Rg.nil _ _ _, hb, Nat.le_refl _, Nat.zero_le _⟩
  · rw [show partsN ⟨c, h, x, ls⟩ i p = partsK (atN ⟨c, h, x, ls⟩ i) p from if_pos hh]
    exact parts_some c h x A cA n ls i p _ w hx ln hn rfl hh

end Go.Proofs.Ytnfmpladdfgadaa
