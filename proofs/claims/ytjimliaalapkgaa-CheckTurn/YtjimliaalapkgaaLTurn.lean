/-
  CheckTurn: what comes out of each layer is what its kind makes of what goes in, and goes into the next one.
-/
import Derived.Test.YtjimliaalapkgaaLWeights
import Derived.Test.YtjimliaalapkgaaRefC
namespace Go.Proofs.Ytjimliaalapkgaa
open Go.RowKit

theorem sh_at {w : World} {b off : Nat} {ss : List Sh} (h : ∀ j u, (ss.flatMap scells)[j]? = some u → w.cell? ⟨b, off + j, none⟩ = some u) {k : Nat} {S : Sh} (hS : ss[k]? = some S) :
    w.cell? ⟨b, off + k * 3, none⟩ = some (.int .i64 S.c) ∧ w.cell? ⟨b, off + k * 3 + 1, none⟩ = some (.int .i64 S.h) ∧ w.cell? ⟨b, off + k * 3 + 2, none⟩ = some (.int .i64 S.x) := by
  have q := Rg.at scells_len h hS
  exact ⟨q 0 _ rfl, q 1 _ rfl, q 2 _ rfl⟩
/-- A layer in a variable. -/
def LB (w : World) (b : Nat) (l : Ly) : Prop := w.heap[b]? = some (.cells #[.int .i64 l.k, .int .i64 l.o, .int .i64 l.s, .int .i64 l.t] 40 (0, 0))
theorem LB.lt {w : World} {b : Nat} {l : Ly} (H : LB w b l) : b < w.heap.size := (Array.getElem?_eq_some_iff.1 H).1
theorem LB.below {w w' : World} {b : Nat} {l : Ly} (H : LB w b l) (hb : Below w.heap.size w w') : LB w' b l := (hb.block b H.lt).trans H
theorem LB.cells {w : World} {b : Nat} {l : Ly} (H : LB w b l) : w.cell? ⟨b, 0, none⟩ = some (.int .i64 l.k) ∧ w.cell? ⟨b, 1, none⟩ = some (.int .i64 l.o) ∧ w.cell? ⟨b, 2, none⟩ = some (.int .i64 l.s) ∧ w.cell? ⟨b, 3, none⟩ = some (.int .i64 l.t) := by
  refine ⟨?_, ?_, ?_, ?_⟩ <;> (rw [Lib.cell_of_heap H]; rfl)
theorem ls_two (w : World) (l : Ly) (S : Sh) : LB ((w.alloc (.cells #[.int .i64 l.k, .int .i64 l.o, .int .i64 l.s, .int .i64 l.t] 40)).alloc (.cells #[.int .i64 S.c, .int .i64 S.h, .int .i64 S.x] 23)) w.heap.size l ∧ SB ((w.alloc (.cells #[.int .i64 l.k, .int .i64 l.o, .int .i64 l.s, .int .i64 l.t] 40)).alloc (.cells #[.int .i64 S.c, .int .i64 S.h, .int .i64 S.x] 23)) (w.heap.size + 1) S := by
  constructor
  · exact (Lib.alloc_old _ _ _ (by simp)).trans (heap_alloc_new w _)
  · have := SB.new (w.alloc (.cells #[.int .i64 l.k, .int .i64 l.o, .int .i64 l.s, .int .i64 l.t] 40)) S
    rwa [show (w.alloc _).heap.size = w.heap.size + 1 by simp] at this
theorem next_i64 {k j n : Nat} (hj : j = k + 1) (h : k < n) (hn : n ≤ 60) : IntKind.i64.wrap ((k : Int) + 1) = (j : Int) := by rw [IntWalk.i64_in _ (by omega)]; omega
theorem next_wrap {k j n : Nat} (hj : j = k + 1) (h : k < n) (hn : n ≤ 60) : wrap64 ((k : Int) + 1) = (j : Int) := by rw [IntWalk.wrap64_in _ (by omega)]; omega
theorem rconv_to (S : Sh) (l : Ly) (T : Sh) (hk : l.k = 1) (ho : okS S l = true) (hT : T = outS S l) (w : World) :
    Calls Try.prog 22 #[.agg #[.int .i64 S.c, .int .i64 S.h, .int .i64 S.x], .int .i64 l.o, .int .i64 l.s, .int .i64 l.t] w fun e w' => e = .returned (.tuple #[.agg #[.int .i64 T.c, .int .i64 T.h, .int .i64 T.x], .bool true]) ∧ Below w.heap.size w w' := by
  obtain ⟨e1, e2⟩ := out_conv S hk
  rw [e2] at ho
  subst hT
  rw [e1]
  have := rconv_any S.c S.h S.x l.o l.s l.t w
  rw [ho] at this
  exact this
theorem rpool_to (S : Sh) (l : Ly) (T : Sh) (hk : l.k = 3) (ho : okS S l = true) (hT : T = outS S l) (w : World) :
    Calls Try.prog 23 #[.agg #[.int .i64 S.c, .int .i64 S.h, .int .i64 S.x], .int .i64 l.s] w fun e w' => e = .returned (.tuple #[.agg #[.int .i64 T.c, .int .i64 T.h, .int .i64 T.x], .bool true]) ∧ Below w.heap.size w w' := by
  obtain ⟨e1, e2⟩ := out_pool S hk
  rw [e2] at ho
  subst hT
  rw [e1]
  have := rpool_any S.c S.h S.x l.s w
  rw [ho] at this
  exact this
theorem rright_to (T : Sh) (hr : T.r = true) (w : World) : Calls Try.prog 24 #[.agg #[.int .i64 T.c, .int .i64 T.h, .int .i64 T.x]] w fun e w' => e = .returned (.bool true) ∧ Below w.heap.size w w' := rright_yes T.c T.h T.x w hr

set_option maxHeartbeats 8000000 in
set_option maxRecDepth 100000 in
theorem law_turn (c h x : Int) (A : Option Addr) (cA n : Nat) (ls : List Ly) (w : World) (hx : Rl w A ls) (ln : n = ls.length) :
    Calls Try.prog 4 #[.agg #[.int .i64 c, .int .i64 h, .int .i64 x, .slice A n cA]] w fun e w' => e = .returned (.bool true) ∧ Below w.heap.size w w' := by
  have HX := Lib.hid hx; have LX := Lib.hid ln
  clear hx ln
  go_enter Try.func4, Try.ntmps4
  go_wp2_with fail
  refine (head_any _).mono ?_
  rintro e w1 ⟨rfl, hb⟩
  have B1 := Lib.hid (chain ((Below.refl w.heap.size w).alloc (Nat.le_refl _) _) hb)
  have hN := (NB.new w c h x (.slice A n cA)).below hb
  have N1 := Lib.hid hN
  obtain ⟨c0, c1, c2, c3⟩ := hN.cells
  clear hb hN
  by_cases hg : 60 < n
  · have d : decide (60 < (n : Int)) = true := by simp; omega
    go_wp2_with fail
    refine (great_any c h x A cA n _ true d).mono ?_
    rintro e w2 ⟨rfl, hb⟩
    have B2 := Lib.hid (chain B1.out hb)
    clear hb
    go_wp2_with fail
    go_ret
    exact ⟨rfl, B2.out⟩
  have d : decide (60 < (n : Int)) = false := by simp; omega
  have hn : n ≤ 60 := by omega
  have hn1 : n ≤ 1000 := by omega
  go_wp2_with fail
  refine (great_any c h x A cA n _ false d).mono ?_
  rintro e w2 ⟨rfl, hb⟩
  have B2 := Lib.hid (chain B1.out hb)
  have N2 := Lib.hid (N1.out.below hb)
  clear hb B1 N1 c0 c1 c2 c3 hg d
  obtain ⟨c0, c1, c2, c3⟩ := N2.out.cells
  go_wp2_with fail
  refine (shapes_any c h x A cA n ls _ (HX.out.below B2.out) LX.out hn1).mono ?_
  rintro e w3 ⟨A1, k1, n1, rfl, hn2, hR, hb, hd1, hd2⟩
  have B3 := Lib.hid (chain B2.out hb)
  have N3 := Lib.hid (N2.out.below hb)
  clear hb hd1 hd2 B2 N2 c0 c1 c2 c3
  obtain ⟨c0, c1, c2, c3⟩ := N3.out.cells
  by_cases he : errN ⟨c, h, x, ls⟩ = 0
  · have HE := Lib.hid he
    rw [shN_ok he] at hR hn2
    rw [he]
    rw [sh_len, ← LX.out] at hn2
    have HR := Lib.hid hR
    have v1 : IntKind.i64.wrap ((n : Int) + 1) = (n : Int) + 1 := IntWalk.i64_in _ (by omega)
    have v2 : ((n1 : Int) != (n : Int) + 1) = false := by rw [hn2]; simp
    have h01 : 0 < n1 := by omega
    have HN1 := Lib.hid hn2
    have hlen : (shL ⟨c, h, x⟩ ls).length = ls.length + 1 := sh_len _ _
    obtain ⟨b1, o1, rfl, l1, q⟩ := hR (by omega)
    obtain ⟨p0, p1, p2⟩ := sh_at q (sh_get ls ⟨c, h, x⟩ 0 (Nat.zero_le _))
    simp only [List.take_zero, endS, Nat.zero_mul, Nat.add_zero] at p0 p1 p2
    have hne := shape_ne c h x
    clear he hR hn2 hlen q
    have HC0 : Hid (Below w3.heap.size w3 w3.drew) := below_drew w3
    have tok1 : True := trivial
    have lw := N3.out.lt
    have OK1 : Hid ((errN ⟨c, h, x, ls⟩ == 0) = true) := by rw [HE.out]; exact rfl
    have RD : Hid (Rl w3.drew A ls) := HX.out.below (chain B3.out HC0.out)
    go_wp2_with fail
    go_region_held3 (fun w' => w'.cell? ⟨w.heap.size, 0, none⟩ = some (.int .i64 c) ∧ w'.cell? ⟨w.heap.size, 1, none⟩ = some (.int .i64 h) ∧ w'.cell? ⟨w.heap.size, 2, none⟩ = some (.int .i64 x) ∧ w'.cell? ⟨w.heap.size, 3, none⟩ = some (.slice A n cA) ∧ w'.cell? ⟨b1, o1, none⟩ = some (.int .i64 c) ∧ w'.cell? ⟨b1, o1 + 1, none⟩ = some (.int .i64 h) ∧ w'.cell? ⟨b1, o1 + 2, none⟩ = some (.int .i64 x))
      (first | exact ⟨q0, q1, q2, q3, q4, q5, q6⟩ | go_keep)
      (first
        | ((have _t := tok1; clear tok1; go_at_call 18; (with_reducible refine (okay_to c h x A cA n ls true OK1.out _ RD.out LX.out hn1).mono ?_); rintro e w4 ⟨rfl, hb4⟩
            have HC1 := Lib.hid (HC0.out.trans (hb4.mono HC0.out.size))
            have q0 := (HC1.out.cell (p := ⟨w.heap.size, 0, none⟩) lw).trans c0
            have q1 := (HC1.out.cell (p := ⟨w.heap.size, 1, none⟩) lw).trans c1
            have q2 := (HC1.out.cell (p := ⟨w.heap.size, 2, none⟩) lw).trans c2
            have q3 := (HC1.out.cell (p := ⟨w.heap.size, 3, none⟩) lw).trans c3
            have q4 := (HC1.out.cell (p := ⟨b1, o1, none⟩) l1).trans p0
            have q5 := (HC1.out.cell (p := ⟨b1, o1 + 1, none⟩) l1).trans p1
            have q6 := (HC1.out.cell (p := ⟨b1, o1 + 2, none⟩) l1).trans p2
            clear hb4))
        | fail)
    have B4 := Lib.hid (chain B3.out HC1.out)
    have N4 := Lib.hid (N3.out.below HC1.out)
    have R4 := Lib.hid (HR.out.below HC1.out)
    clear HC0 HC1 B3 N3 HR c0 c1 c2 c3 q0 q1 q2 q3 q4 q5 q6 p0 p1 p2 hne v1 v2 lw l1
    go_wp2_with fail
    go_loopw [6] (fun i wr => ∃ k : Nat, k ≤ n ∧ i = .int .i64 k ∧ Hid (Below w.heap.size w wr) ∧ Hid (NB wr w.heap.size c h x (.slice A n cA)) ∧ Hid (Rs wr (some ⟨b1, o1, none⟩) (shL ⟨c, h, x⟩ ls))) (fun i _ => n - (intOf i).toNat)
    case atStart => exact ⟨0, Nat.zero_le _, rfl, B4, N4, R4⟩
    case round =>
      obtain ⟨k, hk, rfl, B5, N5, R5⟩ := hrel
      obtain ⟨c0, c1, c2, c3⟩ := N5.out.cells
      by_cases hlt : k < n
      · have hkl : k < ls.length := by rw [← LX.out]; exact hlt
        obtain ⟨b2, o2, rfl, l2, ql⟩ := HX.out (by omega)
        obtain ⟨l, hle⟩ : ∃ l, l = ls.getD k Ly.z := ⟨_, rfl⟩
        have HL : Hid (ls[k]? = some l) := by show _ = _; rw [hle]; exact get_ly hkl
        have q5 := (ql k hkl).below B5.out l2
        rw [← hle] at q5
        obtain ⟨p0, p1, p2, p3⟩ := q5
        obtain ⟨g1, g2, g3⟩ := layer_facts HE.out HL.out
        obtain ⟨S, hS⟩ : ∃ S, S = endS ⟨c, h, x⟩ (ls.take k) := ⟨_, rfl⟩
        obtain ⟨T, hT⟩ : ∃ T, T = outS S l := ⟨_, rfl⟩
        rw [← hS] at g2 g3
        have TR : Hid (T.r = true) := by rw [hT]; exact out_right g2 g1 g3
        have HT := Lib.hid hT
        have G3 := Lib.hid g3
        obtain ⟨bb, oo, hbo, l1, q⟩ := R5.out (by rw [sh_len]; omega)
        injection hbo with hbo
        injection hbo with e1 e2 e3
        subst e1 e2
        have s5 := sh_at q (sh_get ls ⟨c, h, x⟩ k (by omega))
        rw [← hS] at s5
        obtain ⟨s0, s1, s2⟩ := s5
        obtain ⟨j, hj⟩ : ∃ j, j = k + 1 := ⟨_, rfl⟩
        have t5 := sh_at q (sh_get ls ⟨c, h, x⟩ j (by omega))
        rw [hj, end_next HL.out, ← hj, ← hS, ← hT] at t5
        obtain ⟨t0, t1, t2⟩ := t5
        have hnn := HN1.out
        have hk1 : k < n1 := by omega
        have hj1 : j < n1 := by omega
        have v1 := next_i64 hj hlt hn
        have v3 := next_wrap hj hlt hn
        clear hnn
        have hne := shape_ne T.c T.h T.x
        have hkind := ly_kind g1
        have HJ := Lib.hid hj
        have lw := N5.out.lt
        clear hS hT g1 g2 g3 hle ql q e3 hj
        obtain ⟨WX, hWX⟩ : ∃ WX, WX = (wr.alloc (.cells #[.int .i64 l.k, .int .i64 l.o, .int .i64 l.s, .int .i64 l.t] 40)).alloc (.cells #[.int .i64 S.c, .int .i64 S.h, .int .i64 S.x] 23) := ⟨_, rfl⟩
        have BX : Hid (Below wr.heap.size wr WX) := by rw [hWX]; exact below_two wr _ _
        have LX1 : Hid (LB WX wr.heap.size l) := by rw [hWX]; exact (ls_two wr l S).1
        have SX1 : Hid (SB WX (wr.heap.size + 1) S) := by rw [hWX]; exact (ls_two wr l S).2
        have x0 := (BX.out.cell (p := ⟨b1, o1 + k * 3, none⟩) l1).trans s0
        have x1 := (BX.out.cell (p := ⟨b1, o1 + k * 3 + 1, none⟩) l1).trans s1
        have x2 := (BX.out.cell (p := ⟨b1, o1 + k * 3 + 2, none⟩) l1).trans s2
        have lb1 : b1 < WX.heap.size := Nat.lt_of_lt_of_le l1 BX.out.size
        have ne1 : ¬ wr.heap.size + 1 = b1 := by omega
        have ne2 : ¬ b1 = wr.heap.size + 1 := by omega
        obtain ⟨y0, y1, y2, y3⟩ := LX1.out.cells
        obtain ⟨z0, z1, z2⟩ := SX1.out.cells
        rcases hkind with hkk | hkk | hkk | hkk
        · have HKK := Lib.hid hkk
          have e1 : (l.k == 1) = true := by rw [hkk]; rfl
          have e3 : (l.k == 3) = false := by rw [hkk]; rfl
          have e4 : (l.k == 4) = false := by rw [hkk]; rfl
          clear hkk
          go_wp2_with fail
          rw [← hWX]
          clear hWX c0 c1 c2 c3
          have f0 := SX1.out.frozen 0
          have HC0 : Hid (Below WX.heap.size WX WX.drew) := below_drew WX
          have tok1 : True := trivial
          have lX := LX1.out.lt
          have lS := SX1.out.lt
          go_region_held3 (fun w' => w'.cell? ⟨b1, o1 + k * 3, none⟩ = some (.int .i64 S.c) ∧ w'.cell? ⟨b1, o1 + k * 3 + 1, none⟩ = some (.int .i64 S.h) ∧ w'.cell? ⟨b1, o1 + k * 3 + 2, none⟩ = some (.int .i64 S.x) ∧ w'.cell? ⟨wr.heap.size, 1, none⟩ = some (.int .i64 l.o) ∧ w'.cell? ⟨wr.heap.size, 2, none⟩ = some (.int .i64 l.s) ∧ w'.cell? ⟨wr.heap.size, 3, none⟩ = some (.int .i64 l.t))
            (first | exact ⟨q0, q1, q2, q4, q5, q6⟩ | go_keep)
            (first
              | ((have _t := tok1; clear tok1; go_at_call 22; (with_reducible refine (rconv_to S l T HKK.out G3.out HT.out _).mono ?_); rintro e w6 ⟨rfl, hb6⟩
                  have HC1 := Lib.hid (HC0.out.trans (hb6.mono HC0.out.size))
                  have q0 := (HC1.out.cell (p := ⟨b1, o1 + k * 3, none⟩) lb1).trans x0
                  have q1 := (HC1.out.cell (p := ⟨b1, o1 + k * 3 + 1, none⟩) lb1).trans x1
                  have q2 := (HC1.out.cell (p := ⟨b1, o1 + k * 3 + 2, none⟩) lb1).trans x2
                  have q4 := (HC1.out.cell (p := ⟨wr.heap.size, 1, none⟩) lX).trans y1
                  have q5 := (HC1.out.cell (p := ⟨wr.heap.size, 2, none⟩) lX).trans y2
                  have q6 := (HC1.out.cell (p := ⟨wr.heap.size, 3, none⟩) lX).trans y3
                  have S6 := Lib.hid (SX1.out.below HC1.out)
                  obtain ⟨m0, m1, m2⟩ := S6.out.cells
                  have f0 := S6.out.frozen 0
                  have f1 := S6.out.frozen 1
                  have f2 := S6.out.frozen 2
                  clear hb6))
              | fail)
          have ST := Lib.hid (S6.out.set3 T.c T.h T.x)
          have BT := Lib.hid (below_set3 (b := wr.heap.size + 1) (chain BX.out HC1.out) (by omega) (.int .i64 T.c) (.int .i64 T.h) (.int .i64 T.x))
          clear HC0 HC1 S6 m0 m1 m2 f0 f1 f2 q0 q1 q2 q4 q5 q6 BX LX1 SX1 x0 x1 x2 lb1 y0 y1 y2 y3 z0 z1 z2 lX lS
          go_wp2_with fail
          generalize ((w6.setCell ⟨wr.heap.size + 1, 0, none⟩ (.int .i64 T.c)).setCell ⟨wr.heap.size + 1, 1, none⟩ (.int .i64 T.h)).setCell ⟨wr.heap.size + 1, 2, none⟩ (.int .i64 T.x) = w7 at ST BT ⊢
          obtain ⟨m0, m1, m2⟩ := ST.out.cells
          have n0 := (BT.out.cell (p := ⟨b1, o1 + j * 3, none⟩) l1).trans t0
          have n1' := (BT.out.cell (p := ⟨b1, o1 + j * 3 + 1, none⟩) l1).trans t1
          have n2 := (BT.out.cell (p := ⟨b1, o1 + j * 3 + 2, none⟩) l1).trans t2
          have lT := ST.out.lt
          have lbT : b1 < w7.heap.size := Nat.lt_of_lt_of_le l1 BT.out.size
          have HC0 : Hid (Below w7.heap.size w7 w7.drew) := below_drew w7
          have tok1 : True := trivial
          clear p0 p1 p2 p3 s0 s1 s2 t0 t1 t2
          go_region_held3 (fun w' => w'.cell? ⟨wr.heap.size + 1, 0, none⟩ = some (.int .i64 T.c) ∧ w'.cell? ⟨wr.heap.size + 1, 1, none⟩ = some (.int .i64 T.h) ∧ w'.cell? ⟨wr.heap.size + 1, 2, none⟩ = some (.int .i64 T.x) ∧ w'.cell? ⟨b1, o1 + j * 3, none⟩ = some (.int .i64 T.c) ∧ w'.cell? ⟨b1, o1 + j * 3 + 1, none⟩ = some (.int .i64 T.h) ∧ w'.cell? ⟨b1, o1 + j * 3 + 2, none⟩ = some (.int .i64 T.x))
            (first | exact ⟨q0, q1, q2, q3, q4, q5⟩ | go_keep)
            (first
              | ((have _t := tok1; clear tok1; go_at_call 24; (with_reducible refine (rright_to T TR.out _).mono ?_); rintro e w8 ⟨rfl, hb8⟩
                  have HC1 := Lib.hid (HC0.out.trans (hb8.mono HC0.out.size))
                  have q0 := (HC1.out.cell (p := ⟨wr.heap.size + 1, 0, none⟩) lT).trans m0
                  have q1 := (HC1.out.cell (p := ⟨wr.heap.size + 1, 1, none⟩) lT).trans m1
                  have q2 := (HC1.out.cell (p := ⟨wr.heap.size + 1, 2, none⟩) lT).trans m2
                  have q3 := (HC1.out.cell (p := ⟨b1, o1 + j * 3, none⟩) lbT).trans n0
                  have q4 := (HC1.out.cell (p := ⟨b1, o1 + j * 3 + 1, none⟩) lbT).trans n1'
                  have q5 := (HC1.out.cell (p := ⟨b1, o1 + j * 3 + 2, none⟩) lbT).trans n2
                  clear hb8))
              | fail)
          have B8 := Lib.hid (chain BT.out HC1.out)
          have N8 := Lib.hid (N5.out.below B8.out)
          have R8 := Lib.hid (R5.out.below B8.out)
          have B9 := Lib.hid (chain B5.out B8.out)
          clear HC0 HC1 BT B8 ST m0 m1 m2 n0 n1' n2 q0 q1 q2 q3 q4 q5 N5 R5 B5
          go_wp2_with fail
          go_roundw
          case rel => exact ⟨k + 1, hlt, by rw [← HJ.out], B9, N8, R8⟩
          case measure => (clear v1 v3; have hj := HJ.out; simp [intOf]; omega)
        · have HKK := Lib.hid hkk
          have e1 : (l.k == 1) = false := by rw [hkk]; rfl
          have e3 : (l.k == 3) = false := by rw [hkk]; rfl
          have e4 : (l.k == 4) = false := by rw [hkk]; rfl
          clear hkk
          have hTS : T = S := by rw [HT.out]; exact (out_square S HKK.out).1
          have ST : Hid (SB WX (wr.heap.size + 1) T) := by rw [hTS]; exact SX1.out
          have BT := BX
          go_wp2_with fail
          rw [← hWX]
          clear hWX c0 c1 c2 c3 LX1 SX1 hTS x0 x1 x2 y0 y1 y2 y3 z0 z1 z2 BX
          obtain ⟨m0, m1, m2⟩ := ST.out.cells
          have n0 := (BT.out.cell (p := ⟨b1, o1 + j * 3, none⟩) l1).trans t0
          have n1' := (BT.out.cell (p := ⟨b1, o1 + j * 3 + 1, none⟩) l1).trans t1
          have n2 := (BT.out.cell (p := ⟨b1, o1 + j * 3 + 2, none⟩) l1).trans t2
          have lT := ST.out.lt
          have lbT : b1 < WX.heap.size := Nat.lt_of_lt_of_le l1 BT.out.size
          have HC0 : Hid (Below WX.heap.size WX WX.drew) := below_drew WX
          have tok1 : True := trivial
          clear p0 p1 p2 p3 s0 s1 s2 t0 t1 t2
          go_region_held3 (fun w' => w'.cell? ⟨wr.heap.size + 1, 0, none⟩ = some (.int .i64 T.c) ∧ w'.cell? ⟨wr.heap.size + 1, 1, none⟩ = some (.int .i64 T.h) ∧ w'.cell? ⟨wr.heap.size + 1, 2, none⟩ = some (.int .i64 T.x) ∧ w'.cell? ⟨b1, o1 + j * 3, none⟩ = some (.int .i64 T.c) ∧ w'.cell? ⟨b1, o1 + j * 3 + 1, none⟩ = some (.int .i64 T.h) ∧ w'.cell? ⟨b1, o1 + j * 3 + 2, none⟩ = some (.int .i64 T.x))
            (first | exact ⟨q0, q1, q2, q3, q4, q5⟩ | go_keep)
            (first
              | ((have _t := tok1; clear tok1; go_at_call 24; (with_reducible refine (rright_to T TR.out _).mono ?_); rintro e w8 ⟨rfl, hb8⟩
                  have HC1 := Lib.hid (HC0.out.trans (hb8.mono HC0.out.size))
                  have q0 := (HC1.out.cell (p := ⟨wr.heap.size + 1, 0, none⟩) lT).trans m0
                  have q1 := (HC1.out.cell (p := ⟨wr.heap.size + 1, 1, none⟩) lT).trans m1
                  have q2 := (HC1.out.cell (p := ⟨wr.heap.size + 1, 2, none⟩) lT).trans m2
                  have q3 := (HC1.out.cell (p := ⟨b1, o1 + j * 3, none⟩) lbT).trans n0
                  have q4 := (HC1.out.cell (p := ⟨b1, o1 + j * 3 + 1, none⟩) lbT).trans n1'
                  have q5 := (HC1.out.cell (p := ⟨b1, o1 + j * 3 + 2, none⟩) lbT).trans n2
                  clear hb8))
              | fail)
          have B8 := Lib.hid (chain BT.out HC1.out)
          have N8 := Lib.hid (N5.out.below B8.out)
          have R8 := Lib.hid (R5.out.below B8.out)
          have B9 := Lib.hid (chain B5.out B8.out)
          clear HC0 HC1 BT B8 ST m0 m1 m2 n0 n1' n2 q0 q1 q2 q3 q4 q5 N5 R5 B5
          go_wp2_with fail
          go_roundw
          case rel => exact ⟨k + 1, hlt, by rw [← HJ.out], B9, N8, R8⟩
          case measure => (clear v1 v3; have hj := HJ.out; simp [intOf]; omega)
        · have HKK := Lib.hid hkk
          have e1 : (l.k == 1) = false := by rw [hkk]; rfl
          have e3 : (l.k == 3) = true := by rw [hkk]; rfl
          have e4 : (l.k == 4) = false := by rw [hkk]; rfl
          clear hkk
          go_wp2_with fail
          rw [← hWX]
          clear hWX c0 c1 c2 c3
          have f0 := SX1.out.frozen 0
          have HC0 : Hid (Below WX.heap.size WX WX.drew) := below_drew WX
          have tok1 : True := trivial
          have lX := LX1.out.lt
          have lS := SX1.out.lt
          go_region_held3 (fun w' => w'.cell? ⟨b1, o1 + k * 3, none⟩ = some (.int .i64 S.c) ∧ w'.cell? ⟨b1, o1 + k * 3 + 1, none⟩ = some (.int .i64 S.h) ∧ w'.cell? ⟨b1, o1 + k * 3 + 2, none⟩ = some (.int .i64 S.x) ∧ w'.cell? ⟨wr.heap.size, 1, none⟩ = some (.int .i64 l.o) ∧ w'.cell? ⟨wr.heap.size, 2, none⟩ = some (.int .i64 l.s) ∧ w'.cell? ⟨wr.heap.size, 3, none⟩ = some (.int .i64 l.t))
            (first | exact ⟨q0, q1, q2, q4, q5, q6⟩ | go_keep)
            (first
              | ((have _t := tok1; clear tok1; go_at_call 23; (with_reducible refine (rpool_to S l T HKK.out G3.out HT.out _).mono ?_); rintro e w6 ⟨rfl, hb6⟩
                  have HC1 := Lib.hid (HC0.out.trans (hb6.mono HC0.out.size))
                  have q0 := (HC1.out.cell (p := ⟨b1, o1 + k * 3, none⟩) lb1).trans x0
                  have q1 := (HC1.out.cell (p := ⟨b1, o1 + k * 3 + 1, none⟩) lb1).trans x1
                  have q2 := (HC1.out.cell (p := ⟨b1, o1 + k * 3 + 2, none⟩) lb1).trans x2
                  have q4 := (HC1.out.cell (p := ⟨wr.heap.size, 1, none⟩) lX).trans y1
                  have q5 := (HC1.out.cell (p := ⟨wr.heap.size, 2, none⟩) lX).trans y2
                  have q6 := (HC1.out.cell (p := ⟨wr.heap.size, 3, none⟩) lX).trans y3
                  have S6 := Lib.hid (SX1.out.below HC1.out)
                  obtain ⟨m0, m1, m2⟩ := S6.out.cells
                  have f0 := S6.out.frozen 0
                  have f1 := S6.out.frozen 1
                  have f2 := S6.out.frozen 2
                  clear hb6))
              | fail)
          have ST := Lib.hid (S6.out.set3 T.c T.h T.x)
          have BT := Lib.hid (below_set3 (b := wr.heap.size + 1) (chain BX.out HC1.out) (by omega) (.int .i64 T.c) (.int .i64 T.h) (.int .i64 T.x))
          clear HC0 HC1 S6 m0 m1 m2 f0 f1 f2 q0 q1 q2 q4 q5 q6 BX LX1 SX1 x0 x1 x2 lb1 y0 y1 y2 y3 z0 z1 z2 lX lS
          go_wp2_with fail
          generalize ((w6.setCell ⟨wr.heap.size + 1, 0, none⟩ (.int .i64 T.c)).setCell ⟨wr.heap.size + 1, 1, none⟩ (.int .i64 T.h)).setCell ⟨wr.heap.size + 1, 2, none⟩ (.int .i64 T.x) = w7 at ST BT ⊢
          obtain ⟨m0, m1, m2⟩ := ST.out.cells
          have n0 := (BT.out.cell (p := ⟨b1, o1 + j * 3, none⟩) l1).trans t0
          have n1' := (BT.out.cell (p := ⟨b1, o1 + j * 3 + 1, none⟩) l1).trans t1
          have n2 := (BT.out.cell (p := ⟨b1, o1 + j * 3 + 2, none⟩) l1).trans t2
          have lT := ST.out.lt
          have lbT : b1 < w7.heap.size := Nat.lt_of_lt_of_le l1 BT.out.size
          have HC0 : Hid (Below w7.heap.size w7 w7.drew) := below_drew w7
          have tok1 : True := trivial
          clear p0 p1 p2 p3 s0 s1 s2 t0 t1 t2
          go_region_held3 (fun w' => w'.cell? ⟨wr.heap.size + 1, 0, none⟩ = some (.int .i64 T.c) ∧ w'.cell? ⟨wr.heap.size + 1, 1, none⟩ = some (.int .i64 T.h) ∧ w'.cell? ⟨wr.heap.size + 1, 2, none⟩ = some (.int .i64 T.x) ∧ w'.cell? ⟨b1, o1 + j * 3, none⟩ = some (.int .i64 T.c) ∧ w'.cell? ⟨b1, o1 + j * 3 + 1, none⟩ = some (.int .i64 T.h) ∧ w'.cell? ⟨b1, o1 + j * 3 + 2, none⟩ = some (.int .i64 T.x))
            (first | exact ⟨q0, q1, q2, q3, q4, q5⟩ | go_keep)
            (first
              | ((have _t := tok1; clear tok1; go_at_call 24; (with_reducible refine (rright_to T TR.out _).mono ?_); rintro e w8 ⟨rfl, hb8⟩
                  have HC1 := Lib.hid (HC0.out.trans (hb8.mono HC0.out.size))
                  have q0 := (HC1.out.cell (p := ⟨wr.heap.size + 1, 0, none⟩) lT).trans m0
                  have q1 := (HC1.out.cell (p := ⟨wr.heap.size + 1, 1, none⟩) lT).trans m1
                  have q2 := (HC1.out.cell (p := ⟨wr.heap.size + 1, 2, none⟩) lT).trans m2
                  have q3 := (HC1.out.cell (p := ⟨b1, o1 + j * 3, none⟩) lbT).trans n0
                  have q4 := (HC1.out.cell (p := ⟨b1, o1 + j * 3 + 1, none⟩) lbT).trans n1'
                  have q5 := (HC1.out.cell (p := ⟨b1, o1 + j * 3 + 2, none⟩) lbT).trans n2
                  clear hb8))
              | fail)
          have B8 := Lib.hid (chain BT.out HC1.out)
          have N8 := Lib.hid (N5.out.below B8.out)
          have R8 := Lib.hid (R5.out.below B8.out)
          have B9 := Lib.hid (chain B5.out B8.out)
          clear HC0 HC1 BT B8 ST m0 m1 m2 n0 n1' n2 q0 q1 q2 q3 q4 q5 N5 R5 B5
          go_wp2_with fail
          go_roundw
          case rel => exact ⟨k + 1, hlt, by rw [← HJ.out], B9, N8, R8⟩
          case measure => (clear v1 v3; have hj := HJ.out; simp [intOf]; omega)
        · have HKK := Lib.hid hkk
          have e1 : (l.k == 1) = false := by rw [hkk]; rfl
          have e3 : (l.k == 3) = false := by rw [hkk]; rfl
          have e4 : (l.k == 4) = true := by rw [hkk]; rfl
          clear hkk
          have hTS : T = ⟨l.o, 1, 1⟩ := by rw [HT.out]; exact (out_dense S HKK.out).1
          obtain ⟨W7, hW7⟩ : ∃ W7, W7 = (wr.alloc (.cells #[.int .i64 l.k, .int .i64 l.o, .int .i64 l.s, .int .i64 l.t] 40)).alloc (.cells #[.int .i64 l.o, .int .i64 1, .int .i64 1] 23) := ⟨_, rfl⟩
          have ST : Hid (SB W7 (wr.heap.size + 1) T) := by rw [hTS, hW7]; exact (ls_two wr l ⟨l.o, 1, 1⟩).2
          have BT : Hid (Below wr.heap.size wr W7) := by rw [hW7]; exact below_two wr _ _
          go_wp2_with fail
          rw [← hW7]
          clear hWX hW7 c0 c1 c2 c3 LX1 SX1 hTS x0 x1 x2 y0 y1 y2 y3 z0 z1 z2 BX
          obtain ⟨m0, m1, m2⟩ := ST.out.cells
          have n0 := (BT.out.cell (p := ⟨b1, o1 + j * 3, none⟩) l1).trans t0
          have n1' := (BT.out.cell (p := ⟨b1, o1 + j * 3 + 1, none⟩) l1).trans t1
          have n2 := (BT.out.cell (p := ⟨b1, o1 + j * 3 + 2, none⟩) l1).trans t2
          have lT := ST.out.lt
          have lbT : b1 < W7.heap.size := Nat.lt_of_lt_of_le l1 BT.out.size
          have HC0 : Hid (Below W7.heap.size W7 W7.drew) := below_drew W7
          have tok1 : True := trivial
          clear p0 p1 p2 p3 s0 s1 s2 t0 t1 t2
          go_region_held3 (fun w' => w'.cell? ⟨wr.heap.size + 1, 0, none⟩ = some (.int .i64 T.c) ∧ w'.cell? ⟨wr.heap.size + 1, 1, none⟩ = some (.int .i64 T.h) ∧ w'.cell? ⟨wr.heap.size + 1, 2, none⟩ = some (.int .i64 T.x) ∧ w'.cell? ⟨b1, o1 + j * 3, none⟩ = some (.int .i64 T.c) ∧ w'.cell? ⟨b1, o1 + j * 3 + 1, none⟩ = some (.int .i64 T.h) ∧ w'.cell? ⟨b1, o1 + j * 3 + 2, none⟩ = some (.int .i64 T.x))
            (first | exact ⟨q0, q1, q2, q3, q4, q5⟩ | go_keep)
            (first
              | ((have _t := tok1; clear tok1; go_at_call 24; (with_reducible refine (rright_to T TR.out _).mono ?_); rintro e w8 ⟨rfl, hb8⟩
                  have HC1 := Lib.hid (HC0.out.trans (hb8.mono HC0.out.size))
                  have q0 := (HC1.out.cell (p := ⟨wr.heap.size + 1, 0, none⟩) lT).trans m0
                  have q1 := (HC1.out.cell (p := ⟨wr.heap.size + 1, 1, none⟩) lT).trans m1
                  have q2 := (HC1.out.cell (p := ⟨wr.heap.size + 1, 2, none⟩) lT).trans m2
                  have q3 := (HC1.out.cell (p := ⟨b1, o1 + j * 3, none⟩) lbT).trans n0
                  have q4 := (HC1.out.cell (p := ⟨b1, o1 + j * 3 + 1, none⟩) lbT).trans n1'
                  have q5 := (HC1.out.cell (p := ⟨b1, o1 + j * 3 + 2, none⟩) lbT).trans n2
                  clear hb8))
              | fail)
          have B8 := Lib.hid (chain BT.out HC1.out)
          have N8 := Lib.hid (N5.out.below B8.out)
          have R8 := Lib.hid (R5.out.below B8.out)
          have B9 := Lib.hid (chain B5.out B8.out)
          clear HC0 HC1 BT B8 ST m0 m1 m2 n0 n1' n2 q0 q1 q2 q3 q4 q5 N5 R5 B5
          go_wp2_with fail
          go_roundw
          case rel => exact ⟨k + 1, hlt, by rw [← HJ.out], B9, N8, R8⟩
          case measure => (clear v1 v3; have hj := HJ.out; simp [intOf]; omega)
      · obtain rfl : k = n := by omega
        go_wp2_with fail
        go_ret
        exact ⟨rfl, B5.out⟩
  · have HE := Lib.hid he
    rw [shN_no he] at hn2
    obtain rfl : n1 = 0 := hn2
    obtain ⟨er, her⟩ : ∃ er, er = errN ⟨c, h, x, ls⟩ := ⟨_, rfl⟩
    rw [← her] at he ⊢
    have b0 : (er != 0) = true := by simpa using he
    clear hR he her
    go_wp2_with fail
    refine (okay_to c h x A cA n ls false (by simpa using HE.out) _ (HX.out.below B3.out) LX.out hn1).mono ?_
    rintro e w4 ⟨rfl, hb⟩
    have B4 := Lib.hid (chain B3.out hb)
    have N4 := Lib.hid (N3.out.below hb)
    clear hb B3 N3 c0 c1 c2 c3
    obtain ⟨c0, c1, c2, c3⟩ := N4.out.cells
    go_wp2_with fail
    go_ret
    exact ⟨rfl, B4.out⟩

end Go.Proofs.Ytjimliaalapkgaa
