/-
  What place answers of a layer: what is known of it, or a panic.
-/
import Derived.Test.YtnfmpladdfgadaaRow
import Derived.Lib.BufferMore
namespace Go.Proofs.Ytnfmpladdfgadaa
open Go.RowKit

def shapeWrong : List PanicEntry := [{ v := .iface 30 (.int .i64 21), recovered := false }]

theorem KB.frozen {w : World} {b : Nat} {k : Kn} (H : KB w b k) : ∀ i, w.frozen? ⟨b, i, none⟩ = false := fun i => Lib.frozen_of_heap H i
theorem KB.out {w : World} {b : Nat} {k : Kn} (H : KB w b k) (p q r : Int) :
    KB (((w.setCell ⟨b, 7, none⟩ (.int .i64 p)).setCell ⟨b, 8, none⟩ (.int .i64 q)).setCell ⟨b, 9, none⟩ (.int .i64 r)) b ⟨k.l, k.i, ⟨p, q, r⟩, k.a⟩ := by
  have h1 := Lib.heap_setCell_same (i := 7) H (.int .i64 p)
  have h2 := Lib.heap_setCell_same (i := 8) h1 (.int .i64 q)
  exact Lib.heap_setCell_same (i := 9) h2 (.int .i64 r)
theorem KB.other {w : World} {b g : Nat} {k : Kn} (H : KB w b k) (hg : b ≠ g) (p q r : Int) :
    KB (((w.setCell ⟨g, 7, none⟩ (.int .i64 p)).setCell ⟨g, 8, none⟩ (.int .i64 q)).setCell ⟨g, 9, none⟩ (.int .i64 r)) b k := by
  unfold KB
  rw [Below.heap_setCell _ _ _ _ hg, Below.heap_setCell _ _ _ _ hg, Below.heap_setCell _ _ _ _ hg]
  exact H
theorem below_out {w0 w : World} {B g : Nat} (H : Below B w0 w) (hg : B ≤ g) (p q r : Int) : Below B w0 (((w.setCell ⟨g, 7, none⟩ (.int .i64 p)).setCell ⟨g, 8, none⟩ (.int .i64 q)).setCell ⟨g, 9, none⟩ (.int .i64 r)) :=
  ((H.setCell (p := ⟨g, 7, none⟩) hg _).setCell (p := ⟨g, 8, none⟩) hg _).setCell (p := ⟨g, 9, none⟩) hg _
theorem kb_four (w : World) (a b : Obj) (z k : Kn) (o1 o2 : Obj) (h1 : o1 = .cells #[.int .i64 z.l.k, .int .i64 z.l.o, .int .i64 z.l.s, .int .i64 z.l.t, .int .i64 z.i.c, .int .i64 z.i.h, .int .i64 z.i.x, .int .i64 z.u.c, .int .i64 z.u.h, .int .i64 z.u.x, .int .i64 z.a] 76)
    (h2 : o2 = .cells #[.int .i64 k.l.k, .int .i64 k.l.o, .int .i64 k.l.s, .int .i64 k.l.t, .int .i64 k.i.c, .int .i64 k.i.h, .int .i64 k.i.x, .int .i64 k.u.c, .int .i64 k.u.h, .int .i64 k.u.x, .int .i64 k.a] 76) :
    KB ((((w.alloc a).alloc b).alloc o1).alloc o2) (w.heap.size + 1 + 1) z ∧ KB ((((w.alloc a).alloc b).alloc o1).alloc o2) (w.heap.size + 1 + 1 + 1) k := by
  subst h1 h2
  have e2 : ((w.alloc a).alloc b).heap.size = w.heap.size + 1 + 1 := by simp
  constructor
  · have := (KB.new ((w.alloc a).alloc b) z).alloc (.cells #[.int .i64 k.l.k, .int .i64 k.l.o, .int .i64 k.l.s, .int .i64 k.l.t, .int .i64 k.i.c, .int .i64 k.i.h, .int .i64 k.i.x, .int .i64 k.u.c, .int .i64 k.u.h, .int .i64 k.u.x, .int .i64 k.a] 76)
    rwa [e2] at this
  · have := KB.new (((w.alloc a).alloc b).alloc (.cells #[.int .i64 z.l.k, .int .i64 z.l.o, .int .i64 z.l.s, .int .i64 z.l.t, .int .i64 z.i.c, .int .i64 z.i.h, .int .i64 z.i.x, .int .i64 z.u.c, .int .i64 z.u.h, .int .i64 z.u.x, .int .i64 z.a] 76)) k
    rwa [show (((w.alloc a).alloc b).alloc _).heap.size = w.heap.size + 1 + 1 + 1 by simp] at this
def Kn.z : Kn := ⟨⟨0, 0, 0, 0⟩, ⟨0, 0, 0⟩, ⟨0, 0, 0⟩, 0⟩
theorem below_four (w : World) (a b c d : Obj) : Below w.heap.size w ((((w.alloc a).alloc b).alloc c).alloc d) := by
  repeat first | exact Below.refl _ _ | refine chain_alloc ?_ _

set_option maxHeartbeats 4000000 in
theorem place_conv_true (o s t c h x a p q r : Int) (w : World) (hq : ∀ w, Calls Try.prog 105 #[.agg #[.int .i64 c, .int .i64 h, .int .i64 x], .int .i64 o, .int .i64 s, .int .i64 t] w (Out p q r true w)) :
    Calls Try.prog 85 #[.agg #[.int .i64 1, .int .i64 o, .int .i64 s, .int .i64 t], .agg #[.int .i64 c, .int .i64 h, .int .i64 x], .int .i64 a] w fun e w' => e = .returned (.agg #[.int .i64 1, .int .i64 o, .int .i64 s, .int .i64 t, .int .i64 c, .int .i64 h, .int .i64 x, .int .i64 p, .int .i64 q, .int .i64 r, .int .i64 a]) ∧ Below w.heap.size w w' := by
  have HQ := Lib.hid hq
  clear hq
  go_enter Try.func85, Try.ntmps85
  go_wp2_with fail
  refine (HQ.out _).mono ?_
  rintro e w1 ⟨rfl, hb⟩
  have HB := Lib.hid (chain (below_four w _ _ _ _) hb)
  obtain ⟨hR, hK⟩ := kb_four w (.cells #[.int .i64 1, .int .i64 o, .int .i64 s, .int .i64 t] 71) (.cells #[.int .i64 c, .int .i64 h, .int .i64 x] 23) Kn.z ⟨⟨1, o, s, t⟩, ⟨c, h, x⟩, ⟨0, 0, 0⟩, a⟩ _ _ rfl rfl
  have hR1 := hR.below hb
  have hK1 := hK.below hb
  have HR1 := Lib.hid hR1; have HK1 := Lib.hid hK1
  obtain ⟨k0, k1, k2, k3, k4, k5, k6, k7, k8, k9, k10⟩ := hK1.cells
  have g7 := hK1.frozen 7
  have g8 := hK1.frozen 8
  have g9 := hK1.frozen 9
  clear hb hR hK hR1 hK1
  go_wp2_with fail
  have HK2 := Lib.hid (HK1.out.out p q r)
  have HR2 := Lib.hid (HR1.out.other (g := w.heap.size + 1 + 1 + 1) (by omega) p q r)
  have HB2 := Lib.hid (below_out (g := w.heap.size + 1 + 1 + 1) HB.out (by omega) p q r)
  clear HR1 HK1 HB k0 k1 k2 k3 k4 k5 k6 k7 k8 k9 k10 g7 g8 g9
  generalize ((w1.setCell ⟨w.heap.size + 1 + 1 + 1, 7, none⟩ (.int .i64 p)).setCell ⟨w.heap.size + 1 + 1 + 1, 8, none⟩ (.int .i64 q)).setCell ⟨w.heap.size + 1 + 1 + 1, 9, none⟩ (.int .i64 r) = W2 at HK2 HR2 HB2 ⊢
  refine (must_yes 21 _).mono ?_
  rintro e w' ⟨rfl, rfl⟩
  have R2 := HR2.out
  obtain ⟨r0, r1, r2, r3, r4, r5, r6, r7, r8, r9, r10⟩ := HK2.out.cells
  obtain ⟨y0, y1, y2, y3, y4, y5, y6, y7, y8, y9, y10⟩ := R2.cells
  have f0 := R2.frozen 0
  have f1 := R2.frozen 1
  have f2 := R2.frozen 2
  have f3 := R2.frozen 3
  have f4 := R2.frozen 4
  have f5 := R2.frozen 5
  have f6 := R2.frozen 6
  have f7 := R2.frozen 7
  have f8 := R2.frozen 8
  have f9 := R2.frozen 9
  have f10 := R2.frozen 10
  clear R2
  go_wp2_with fail
  exact bodyPost_ret (v := .agg #[.int .i64 1, .int .i64 o, .int .i64 s, .int .i64 t, .int .i64 c, .int .i64 h, .int .i64 x, .int .i64 p, .int .i64 q, .int .i64 r, .int .i64 a]) (by simp [results, Try.results85, go_sem, y0, y1, y2, y3, y4, y5, y6, y7, y8, y9, y10]) rfl ⟨rfl, (((((((((((HB2.out.setCell (p := ⟨w.heap.size + 1 + 1, 0, none⟩) (by show w.heap.size ≤ w.heap.size + 1 + 1; omega) _).setCell (p := ⟨w.heap.size + 1 + 1, 1, none⟩) (by show w.heap.size ≤ w.heap.size + 1 + 1; omega) _).setCell (p := ⟨w.heap.size + 1 + 1, 2, none⟩) (by show w.heap.size ≤ w.heap.size + 1 + 1; omega) _).setCell (p := ⟨w.heap.size + 1 + 1, 3, none⟩) (by show w.heap.size ≤ w.heap.size + 1 + 1; omega) _).setCell (p := ⟨w.heap.size + 1 + 1, 4, none⟩) (by show w.heap.size ≤ w.heap.size + 1 + 1; omega) _).setCell (p := ⟨w.heap.size + 1 + 1, 5, none⟩) (by show w.heap.size ≤ w.heap.size + 1 + 1; omega) _).setCell (p := ⟨w.heap.size + 1 + 1, 6, none⟩) (by show w.heap.size ≤ w.heap.size + 1 + 1; omega) _).setCell (p := ⟨w.heap.size + 1 + 1, 7, none⟩) (by show w.heap.size ≤ w.heap.size + 1 + 1; omega) _).setCell (p := ⟨w.heap.size + 1 + 1, 8, none⟩) (by show w.heap.size ≤ w.heap.size + 1 + 1; omega) _).setCell (p := ⟨w.heap.size + 1 + 1, 9, none⟩) (by show w.heap.size ≤ w.heap.size + 1 + 1; omega) _).setCell (p := ⟨w.heap.size + 1 + 1, 10, none⟩) (by show w.heap.size ≤ w.heap.size + 1 + 1; omega) _)⟩

set_option maxHeartbeats 4000000 in
theorem place_conv_false (o s t c h x a p q r : Int) (w : World) (hq : ∀ w, Calls Try.prog 105 #[.agg #[.int .i64 c, .int .i64 h, .int .i64 x], .int .i64 o, .int .i64 s, .int .i64 t] w (Out p q r false w)) :
    Calls Try.prog 85 #[.agg #[.int .i64 1, .int .i64 o, .int .i64 s, .int .i64 t], .agg #[.int .i64 c, .int .i64 h, .int .i64 x], .int .i64 a] w fun e w' => e = .panicked shapeWrong ∧ Below w.heap.size w w' := by
  have HQ := Lib.hid hq
  clear hq
  go_enter Try.func85, Try.ntmps85
  go_wp2_with fail
  refine (HQ.out _).mono ?_
  rintro e w1 ⟨rfl, hb⟩
  have HB := Lib.hid (chain (below_four w _ _ _ _) hb)
  obtain ⟨hR, hK⟩ := kb_four w (.cells #[.int .i64 1, .int .i64 o, .int .i64 s, .int .i64 t] 71) (.cells #[.int .i64 c, .int .i64 h, .int .i64 x] 23) Kn.z ⟨⟨1, o, s, t⟩, ⟨c, h, x⟩, ⟨0, 0, 0⟩, a⟩ _ _ rfl rfl
  have hR1 := hR.below hb
  have hK1 := hK.below hb
  have HR1 := Lib.hid hR1; have HK1 := Lib.hid hK1
  obtain ⟨k0, k1, k2, k3, k4, k5, k6, k7, k8, k9, k10⟩ := hK1.cells
  have g7 := hK1.frozen 7
  have g8 := hK1.frozen 8
  have g9 := hK1.frozen 9
  clear hb hR hK hR1 hK1
  go_wp2_with fail
  have HK2 := Lib.hid (HK1.out.out p q r)
  have HR2 := Lib.hid (HR1.out.other (g := w.heap.size + 1 + 1 + 1) (by omega) p q r)
  have HB2 := Lib.hid (below_out (g := w.heap.size + 1 + 1 + 1) HB.out (by omega) p q r)
  clear HR1 HK1 HB k0 k1 k2 k3 k4 k5 k6 k7 k8 k9 k10 g7 g8 g9
  generalize ((w1.setCell ⟨w.heap.size + 1 + 1 + 1, 7, none⟩ (.int .i64 p)).setCell ⟨w.heap.size + 1 + 1 + 1, 8, none⟩ (.int .i64 q)).setCell ⟨w.heap.size + 1 + 1 + 1, 9, none⟩ (.int .i64 r) = W2 at HK2 HR2 HB2 ⊢
  refine (must_no 21 _).mono ?_
  rintro e w' ⟨rfl, rfl⟩
  go_wp2_with fail
  exact ⟨rfl, rfl, HB2.out⟩

set_option maxHeartbeats 4000000 in
theorem place_pool_true (o s t c h x a p q r : Int) (w : World) (hq : ∀ w, Calls Try.prog 106 #[.agg #[.int .i64 c, .int .i64 h, .int .i64 x], .int .i64 s] w (Out p q r true w)) :
    Calls Try.prog 85 #[.agg #[.int .i64 3, .int .i64 o, .int .i64 s, .int .i64 t], .agg #[.int .i64 c, .int .i64 h, .int .i64 x], .int .i64 a] w fun e w' => e = .returned (.agg #[.int .i64 3, .int .i64 o, .int .i64 s, .int .i64 t, .int .i64 c, .int .i64 h, .int .i64 x, .int .i64 p, .int .i64 q, .int .i64 r, .int .i64 a]) ∧ Below w.heap.size w w' := by
  have HQ := Lib.hid hq
  clear hq
  go_enter Try.func85, Try.ntmps85
  go_wp2_with fail
  refine (HQ.out _).mono ?_
  rintro e w1 ⟨rfl, hb⟩
  have HB := Lib.hid (chain (below_four w _ _ _ _) hb)
  obtain ⟨hR, hK⟩ := kb_four w (.cells #[.int .i64 3, .int .i64 o, .int .i64 s, .int .i64 t] 71) (.cells #[.int .i64 c, .int .i64 h, .int .i64 x] 23) Kn.z ⟨⟨3, o, s, t⟩, ⟨c, h, x⟩, ⟨0, 0, 0⟩, a⟩ _ _ rfl rfl
  have hR1 := hR.below hb
  have hK1 := hK.below hb
  have HR1 := Lib.hid hR1; have HK1 := Lib.hid hK1
  obtain ⟨k0, k1, k2, k3, k4, k5, k6, k7, k8, k9, k10⟩ := hK1.cells
  have g7 := hK1.frozen 7
  have g8 := hK1.frozen 8
  have g9 := hK1.frozen 9
  clear hb hR hK hR1 hK1
  go_wp2_with fail
  have HK2 := Lib.hid (HK1.out.out p q r)
  have HR2 := Lib.hid (HR1.out.other (g := w.heap.size + 1 + 1 + 1) (by omega) p q r)
  have HB2 := Lib.hid (below_out (g := w.heap.size + 1 + 1 + 1) HB.out (by omega) p q r)
  clear HR1 HK1 HB k0 k1 k2 k3 k4 k5 k6 k7 k8 k9 k10 g7 g8 g9
  generalize ((w1.setCell ⟨w.heap.size + 1 + 1 + 1, 7, none⟩ (.int .i64 p)).setCell ⟨w.heap.size + 1 + 1 + 1, 8, none⟩ (.int .i64 q)).setCell ⟨w.heap.size + 1 + 1 + 1, 9, none⟩ (.int .i64 r) = W2 at HK2 HR2 HB2 ⊢
  refine (must_yes 21 _).mono ?_
  rintro e w' ⟨rfl, rfl⟩
  have R2 := HR2.out
  obtain ⟨r0, r1, r2, r3, r4, r5, r6, r7, r8, r9, r10⟩ := HK2.out.cells
  obtain ⟨y0, y1, y2, y3, y4, y5, y6, y7, y8, y9, y10⟩ := R2.cells
  have f0 := R2.frozen 0
  have f1 := R2.frozen 1
  have f2 := R2.frozen 2
  have f3 := R2.frozen 3
  have f4 := R2.frozen 4
  have f5 := R2.frozen 5
  have f6 := R2.frozen 6
  have f7 := R2.frozen 7
  have f8 := R2.frozen 8
  have f9 := R2.frozen 9
  have f10 := R2.frozen 10
  clear R2
  go_wp2_with fail
  exact bodyPost_ret (v := .agg #[.int .i64 3, .int .i64 o, .int .i64 s, .int .i64 t, .int .i64 c, .int .i64 h, .int .i64 x, .int .i64 p, .int .i64 q, .int .i64 r, .int .i64 a]) (by simp [results, Try.results85, go_sem, y0, y1, y2, y3, y4, y5, y6, y7, y8, y9, y10]) rfl ⟨rfl, (((((((((((HB2.out.setCell (p := ⟨w.heap.size + 1 + 1, 0, none⟩) (by show w.heap.size ≤ w.heap.size + 1 + 1; omega) _).setCell (p := ⟨w.heap.size + 1 + 1, 1, none⟩) (by show w.heap.size ≤ w.heap.size + 1 + 1; omega) _).setCell (p := ⟨w.heap.size + 1 + 1, 2, none⟩) (by show w.heap.size ≤ w.heap.size + 1 + 1; omega) _).setCell (p := ⟨w.heap.size + 1 + 1, 3, none⟩) (by show w.heap.size ≤ w.heap.size + 1 + 1; omega) _).setCell (p := ⟨w.heap.size + 1 + 1, 4, none⟩) (by show w.heap.size ≤ w.heap.size + 1 + 1; omega) _).setCell (p := ⟨w.heap.size + 1 + 1, 5, none⟩) (by show w.heap.size ≤ w.heap.size + 1 + 1; omega) _).setCell (p := ⟨w.heap.size + 1 + 1, 6, none⟩) (by show w.heap.size ≤ w.heap.size + 1 + 1; omega) _).setCell (p := ⟨w.heap.size + 1 + 1, 7, none⟩) (by show w.heap.size ≤ w.heap.size + 1 + 1; omega) _).setCell (p := ⟨w.heap.size + 1 + 1, 8, none⟩) (by show w.heap.size ≤ w.heap.size + 1 + 1; omega) _).setCell (p := ⟨w.heap.size + 1 + 1, 9, none⟩) (by show w.heap.size ≤ w.heap.size + 1 + 1; omega) _).setCell (p := ⟨w.heap.size + 1 + 1, 10, none⟩) (by show w.heap.size ≤ w.heap.size + 1 + 1; omega) _)⟩

set_option maxHeartbeats 4000000 in
theorem place_pool_false (o s t c h x a p q r : Int) (w : World) (hq : ∀ w, Calls Try.prog 106 #[.agg #[.int .i64 c, .int .i64 h, .int .i64 x], .int .i64 s] w (Out p q r false w)) :
    Calls Try.prog 85 #[.agg #[.int .i64 3, .int .i64 o, .int .i64 s, .int .i64 t], .agg #[.int .i64 c, .int .i64 h, .int .i64 x], .int .i64 a] w fun e w' => e = .panicked shapeWrong ∧ Below w.heap.size w w' := by
  have HQ := Lib.hid hq
  clear hq
  go_enter Try.func85, Try.ntmps85
  go_wp2_with fail
  refine (HQ.out _).mono ?_
  rintro e w1 ⟨rfl, hb⟩
  have HB := Lib.hid (chain (below_four w _ _ _ _) hb)
  obtain ⟨hR, hK⟩ := kb_four w (.cells #[.int .i64 3, .int .i64 o, .int .i64 s, .int .i64 t] 71) (.cells #[.int .i64 c, .int .i64 h, .int .i64 x] 23) Kn.z ⟨⟨3, o, s, t⟩, ⟨c, h, x⟩, ⟨0, 0, 0⟩, a⟩ _ _ rfl rfl
  have hR1 := hR.below hb
  have hK1 := hK.below hb
  have HR1 := Lib.hid hR1; have HK1 := Lib.hid hK1
  obtain ⟨k0, k1, k2, k3, k4, k5, k6, k7, k8, k9, k10⟩ := hK1.cells
  have g7 := hK1.frozen 7
  have g8 := hK1.frozen 8
  have g9 := hK1.frozen 9
  clear hb hR hK hR1 hK1
  go_wp2_with fail
  have HK2 := Lib.hid (HK1.out.out p q r)
  have HR2 := Lib.hid (HR1.out.other (g := w.heap.size + 1 + 1 + 1) (by omega) p q r)
  have HB2 := Lib.hid (below_out (g := w.heap.size + 1 + 1 + 1) HB.out (by omega) p q r)
  clear HR1 HK1 HB k0 k1 k2 k3 k4 k5 k6 k7 k8 k9 k10 g7 g8 g9
  generalize ((w1.setCell ⟨w.heap.size + 1 + 1 + 1, 7, none⟩ (.int .i64 p)).setCell ⟨w.heap.size + 1 + 1 + 1, 8, none⟩ (.int .i64 q)).setCell ⟨w.heap.size + 1 + 1 + 1, 9, none⟩ (.int .i64 r) = W2 at HK2 HR2 HB2 ⊢
  refine (must_no 21 _).mono ?_
  rintro e w' ⟨rfl, rfl⟩
  go_wp2_with fail
  exact ⟨rfl, rfl, HB2.out⟩

end Go.Proofs.Ytnfmpladdfgadaa
