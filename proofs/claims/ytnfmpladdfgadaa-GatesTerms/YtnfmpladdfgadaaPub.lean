/-
  What All, Right, layerAt, Weights and Products of package check answer.
-/
import Derived.Test.YtnfmpladdfgadaaLook3
import Derived.Test.YtnfmpladdfgadaaFit2
namespace Go.Proofs.Ytnfmpladdfgadaa
open Go.RowKit

/-- What is known of layer i of a network; nothing, if there is none. -/
def atN (N : Nt) (i : Int) : Kn := if 0 ≤ i ∧ i < ((knN N).length : Int) then (knN N).getD i.toNat Kn.z else Kn.z
theorem at_in {N : Nt} {i : Int} (h0 : 0 ≤ i) (h1 : i < ((knN N).length : Int)) : atN N i = (knN N).getD i.toNat Kn.z := if_pos ⟨h0, h1⟩
theorem at_out {N : Nt} {i : Int} (h : ¬ (0 ≤ i ∧ i < ((knN N).length : Int))) : atN N i = Kn.z := if_neg h
theorem kz_ok : KnOk Kn.z := ⟨fun h => absurd h (by decide), fun h => absurd h (by decide)⟩
theorem kn_get? {ks : List Kn} {j : Nat} (h : j < ks.length) : ks[j]? = some (ks.getD j Kn.z) := by
  rw [List.getElem?_eq_getElem h]; simp [List.getD_eq_getElem?_getD, h]
theorem at_ok (N : Nt) (i : Int) : KnOk (atN N i) := by
  by_cases h : 0 ≤ i ∧ i < ((knN N).length : Int)
  · rw [at_in h.1 h.2]
    exact knN_all _ (List.mem_of_getElem? (kn_get? (by omega)))
  · rw [at_out h]; exact kz_ok

set_option maxHeartbeats 1000000 in
theorem all_any (c h x : Int) (A : Option Addr) (cA n : Nat) (ls : List Ly) (w : World) (hx : Rl w A ls) (ln : n = ls.length) (hn : n ≤ 1000) :
    Calls Try.prog 18 #[.agg #[.int .i64 c, .int .i64 h, .int .i64 x, .slice A n cA]] w fun e w' => e = .returned (.tuple #[.int .i64 (totW (knN ⟨c, h, x, ls⟩)), .int .i64 (totP (knN ⟨c, h, x, ls⟩))]) ∧ Below w.heap.size w w' := by
  have HX := Lib.hid hx; have LX := Lib.hid ln
  clear hx ln
  go_enter Try.func18, Try.ntmps18
  go_wp2_with fail
  refine (look_any c h x A cA n ls _ (HX.out.below ((Below.refl _ w).alloc (Nat.le_refl _) _)) LX.out hn).mono ?_
  rintro e w1 ⟨A1, k1, n1, rfl, hn1, hR, hb⟩
  have HB := Lib.hid (chain ((Below.refl w.heap.size w).alloc (Nat.le_refl _) _) hb)
  have HR := Lib.hid hR; have HN := Lib.hid hn1
  have hl : n1 ≤ 1000 := by have := knN_len (N := ⟨c, h, x, ls⟩); omega
  clear hb hR hn1
  go_wp2_with fail
  refine (total_any _ A1 k1 n1 _ HR.out HN.out hl knN_all).mono ?_
  rintro e w2 ⟨rfl, hb⟩
  have HB2 := Lib.hid (chain HB.out hb)
  clear hb
  go_wp2_with fail
  go_ret2
  exact ⟨rfl, HB2.out⟩

set_option maxHeartbeats 1000000 in
theorem okay_any (c h x : Int) (A : Option Addr) (cA n : Nat) (ls : List Ly) (w : World) (hx : Rl w A ls) (ln : n = ls.length) (hn : n ≤ 1000) :
    Calls Try.prog 21 #[.agg #[.int .i64 c, .int .i64 h, .int .i64 x, .slice A n cA]] w fun e w' => e = .returned (.bool (errN ⟨c, h, x, ls⟩ == 0)) ∧ Below w.heap.size w w' := by
  have HX := Lib.hid hx; have LX := Lib.hid ln
  clear hx ln
  obtain ⟨er, her⟩ : ∃ er, er = errN ⟨c, h, x, ls⟩ := ⟨_, rfl⟩
  rw [← her]
  have HER := Lib.hid her
  clear her
  go_enter Try.func21, Try.ntmps21
  go_wp2_with fail
  refine (look_any c h x A cA n ls _ (HX.out.below ((Below.refl _ w).alloc (Nat.le_refl _) _)) LX.out hn).mono ?_
  rintro e w1 ⟨A1, k1, n1, rfl, _, _, hb⟩
  have HB := Lib.hid (chain ((Below.refl w.heap.size w).alloc (Nat.le_refl _) _) hb)
  clear hb
  rw [← HER.out]
  go_wp2_with fail
  go_ret
  exact ⟨rfl, HB.out⟩

theorem kb_two (w : World) (a : Obj) (z : Kn) : KB ((w.alloc a).alloc (.cells #[.int .i64 z.l.k, .int .i64 z.l.o, .int .i64 z.l.s, .int .i64 z.l.t, .int .i64 z.i.c, .int .i64 z.i.h, .int .i64 z.i.x, .int .i64 z.u.c, .int .i64 z.u.h, .int .i64 z.u.x, .int .i64 z.a] 76)) (w.heap.size + 1) z := by
  have := KB.new (w.alloc a) z
  rwa [show (w.alloc a).heap.size = w.heap.size + 1 by simp] at this
theorem below_two (w : World) (a b : Obj) : Below w.heap.size w ((w.alloc a).alloc b) := by
  repeat first | exact Below.refl _ _ | refine chain_alloc ?_ _
theorem below_set11 {w0 w : World} {B b : Nat} (H : Below B w0 w) (hb : B ≤ b) (v0 v1 v2 v3 v4 v5 v6 v7 v8 v9 v10 : Value) :
    Below B w0 (((((((((((w.setCell ⟨b, 0, none⟩ v0).setCell ⟨b, 1, none⟩ v1).setCell ⟨b, 2, none⟩ v2).setCell ⟨b, 3, none⟩ v3).setCell ⟨b, 4, none⟩ v4).setCell ⟨b, 5, none⟩ v5).setCell ⟨b, 6, none⟩ v6).setCell ⟨b, 7, none⟩ v7).setCell ⟨b, 8, none⟩ v8).setCell ⟨b, 9, none⟩ v9).setCell ⟨b, 10, none⟩ v10) :=
  ((((((((((H.setCell (p := ⟨b, 0, none⟩) hb _).setCell (p := ⟨b, 1, none⟩) hb _).setCell (p := ⟨b, 2, none⟩) hb _).setCell (p := ⟨b, 3, none⟩) hb _).setCell (p := ⟨b, 4, none⟩) hb _).setCell (p := ⟨b, 5, none⟩) hb _).setCell (p := ⟨b, 6, none⟩) hb _).setCell (p := ⟨b, 7, none⟩) hb _).setCell (p := ⟨b, 8, none⟩) hb _).setCell (p := ⟨b, 9, none⟩) hb _).setCell (p := ⟨b, 10, none⟩) hb _

set_option maxHeartbeats 2000000 in
theorem layerAt_any (c h x : Int) (A : Option Addr) (cA n : Nat) (ls : List Ly) (i : Int) (w : World) (hx : Rl w A ls) (ln : n = ls.length) (hn : n ≤ 1000) :
    Calls Try.prog 60 #[.agg #[.int .i64 c, .int .i64 h, .int .i64 x, .slice A n cA], .int .i64 i] w fun e w' => e = .returned (kv (atN ⟨c, h, x, ls⟩ i)) ∧ Below w.heap.size w w' := by
  have HX := Lib.hid hx; have LX := Lib.hid ln
  clear hx ln
  go_enter Try.func60, Try.ntmps60
  go_wp2_with fail
  refine (look_any c h x A cA n ls _ (HX.out.below (below_two w _ _)) LX.out hn).mono ?_
  rintro e w1 ⟨A1, k1, n1, rfl, hn1, hR, hb⟩
  have HB := Lib.hid (chain (below_two w _ _) hb)
  have hK := (kb_two w (.cells #[.int .i64 c, .int .i64 h, .int .i64 x, .slice A n cA] 26) Kn.z).below hb
  obtain ⟨y0, y1, y2, y3, y4, y5, y6, y7, y8, y9, y10⟩ := hK.cells
  have f0 := hK.frozen 0
  have f1 := hK.frozen 1
  have f2 := hK.frozen 2
  have f3 := hK.frozen 3
  have f4 := hK.frozen 4
  have f5 := hK.frozen 5
  have f6 := hK.frozen 6
  have f7 := hK.frozen 7
  have f8 := hK.frozen 8
  have f9 := hK.frozen 9
  have f10 := hK.frozen 10
  have HR := Lib.hid hR; have HN := Lib.hid hn1
  have hl : n1 ≤ 1000 := by have := knN_len (N := ⟨c, h, x, ls⟩); omega
  clear hb hR hn1 hK
  by_cases i0 : i < 0
  · have hz : atN ⟨c, h, x, ls⟩ i = Kn.z := at_out (by omega)
    have HZ := Lib.hid hz
    clear hz
    go_wp2_with fail
    exact bodyPost_ret (v := kv Kn.z) (by simp [results, Try.results60, go_sem, kv, Kn.z, y0, y1, y2, y3, y4, y5, y6, y7, y8, y9, y10]) rfl ⟨by rw [HZ.out], below_set11 HB.out (by omega) _ _ _ _ _ _ _ _ _ _ _⟩
  · by_cases i1 : (n1 : Int) ≤ i
    · have hz : atN ⟨c, h, x, ls⟩ i = Kn.z := at_out (by rw [← HN.out]; omega)
      have HZ := Lib.hid hz
      clear hz
      go_wp2_with fail
      exact bodyPost_ret (v := kv Kn.z) (by simp [results, Try.results60, go_sem, kv, Kn.z, y0, y1, y2, y3, y4, y5, y6, y7, y8, y9, y10]) rfl ⟨by rw [HZ.out], below_set11 HB.out (by omega) _ _ _ _ _ _ _ _ _ _ _⟩
    · obtain ⟨j, hj⟩ : ∃ j : Nat, i = j := ⟨i.toNat, by omega⟩
      subst hj
      have hjl : j < (knN ⟨c, h, x, ls⟩).length := by rw [← HN.out]; omega
      have hjn : j < n1 := by omega
      obtain ⟨b1, o1, rfl, l1, q⟩ := HR.out (by omega)
      obtain ⟨K, hKe⟩ : ∃ K, K = (knN ⟨c, h, x, ls⟩).getD j Kn.z := ⟨_, rfl⟩
      have hz : atN ⟨c, h, x, ls⟩ (j : Int) = K := by rw [at_in (by omega) (by omega), hKe]; simp
      have HZ := Lib.hid hz
      have q2 := Rg.at kcells_len q (kn_get? hjl)
      rw [← hKe] at q2
      have p0 : w1.cell? ⟨b1, o1 + j * 11, none⟩ = _ := q2 0 _ rfl
      have p1 := q2 1 _ rfl
      have p2 := q2 2 _ rfl
      have p3 := q2 3 _ rfl
      have p4 := q2 4 _ rfl
      have p5 := q2 5 _ rfl
      have p6 := q2 6 _ rfl
      have p7 := q2 7 _ rfl
      have p8 := q2 8 _ rfl
      have p9 := q2 9 _ rfl
      have p10 := q2 10 _ rfl
      clear q q2 hKe hz
      go_wp2_with fail
      exact bodyPost_ret (v := kv K) (by simp [results, Try.results60, go_sem, kv, y0, y1, y2, y3, y4, y5, y6, y7, y8, y9, y10]) rfl ⟨by rw [HZ.out], below_set11 HB.out (by omega) _ _ _ _ _ _ _ _ _ _ _⟩

theorem layerAt_is (c h x : Int) (A : Option Addr) (cA n : Nat) (ls : List Ly) (i : Int) (K : Kn) (hK : atN ⟨c, h, x, ls⟩ i = K) (w : World) (hx : Rl w A ls) (ln : n = ls.length) (hn : n ≤ 1000) :
    Calls Try.prog 60 #[.agg #[.int .i64 c, .int .i64 h, .int .i64 x, .slice A n cA], .int .i64 i] w fun e w' => e = .returned (.agg #[.int .i64 K.l.k, .int .i64 K.l.o, .int .i64 K.l.s, .int .i64 K.l.t, .int .i64 K.i.c, .int .i64 K.i.h, .int .i64 K.i.x, .int .i64 K.u.c, .int .i64 K.u.h, .int .i64 K.u.x, .int .i64 K.a]) ∧ Below w.heap.size w w' := by
  have := layerAt_any c h x A cA n ls i w hx ln hn
  rw [hK] at this
  exact this

set_option maxHeartbeats 2000000 in
theorem products_of (c h x : Int) (A : Option Addr) (cA n : Nat) (ls : List Ly) (i : Int) (w : World) (hx : Rl w A ls) (ln : n = ls.length) (hn : n ≤ 1000) :
    Calls Try.prog 23 #[.agg #[.int .i64 c, .int .i64 h, .int .i64 x, .slice A n cA], .int .i64 i] w fun e w' => e = .returned (.int .i64 (atN ⟨c, h, x, ls⟩ i).p) ∧ Below w.heap.size w w' := by
  have HX := Lib.hid hx; have LX := Lib.hid ln
  clear hx ln
  obtain ⟨K, hK⟩ : ∃ K, atN ⟨c, h, x, ls⟩ i = K := ⟨_, rfl⟩
  have OK : Hid (KnOk K) := by rw [← hK]; exact at_ok _ _
  rw [hK]
  have HK := Lib.hid hK
  clear hK
  go_enter Try.func23, Try.ntmps23
  go_wp2_with fail
  refine (layerAt_is c h x A cA n ls i K HK.out _ (HX.out.below ((Below.refl _ w).alloc (Nat.le_refl _) _)) LX.out hn).mono ?_
  rintro e w1 ⟨rfl, hb⟩
  have HB := Lib.hid (chain ((Below.refl w.heap.size w).alloc (Nat.le_refl _) _) hb)
  clear hb
  go_wp2_with fail
  refine (products_any K _ OK.out).mono ?_
  rintro e w2 ⟨rfl, hb⟩
  have HB2 := Lib.hid (chain HB.out hb)
  clear hb
  go_wp2_with fail
  go_ret
  exact ⟨rfl, HB2.out⟩

set_option maxHeartbeats 2000000 in
theorem weights_of (c h x : Int) (A : Option Addr) (cA n : Nat) (ls : List Ly) (i : Int) (w : World) (hx : Rl w A ls) (ln : n = ls.length) (hn : n ≤ 1000) :
    Calls Try.prog 16 #[.agg #[.int .i64 c, .int .i64 h, .int .i64 x, .slice A n cA], .int .i64 i] w fun e w' => e = .returned (.tuple #[.int .i64 (atN ⟨c, h, x, ls⟩ i).a, .int .i64 (atN ⟨c, h, x, ls⟩ i).w]) ∧ Below w.heap.size w w' := by
  have HX := Lib.hid hx; have LX := Lib.hid ln
  clear hx ln
  obtain ⟨K, hK⟩ : ∃ K, atN ⟨c, h, x, ls⟩ i = K := ⟨_, rfl⟩
  have OK : Hid (KnOk K) := by rw [← hK]; exact at_ok _ _
  rw [hK]
  have HK := Lib.hid hK
  clear hK
  obtain ⟨e, he⟩ : ∃ e, e = K.w := ⟨_, rfl⟩
  rw [← he]
  have HE := Lib.hid he
  clear he
  go_enter Try.func16, Try.ntmps16
  go_wp2_with fail
  refine (layerAt_is c h x A cA n ls i K HK.out _ (HX.out.below ((Below.refl _ w).alloc (Nat.le_refl _) _)) LX.out hn).mono ?_
  rintro e1 w1 ⟨rfl, hb⟩
  have HB := Lib.hid (chain ((Below.refl w.heap.size w).alloc (Nat.le_refl _) _) hb)
  clear hb
  obtain ⟨W, hW⟩ : ∃ W, W = w1.alloc (.cells #[.int .i64 K.l.k, .int .i64 K.l.o, .int .i64 K.l.s, .int .i64 K.l.t, .int .i64 K.i.c, .int .i64 K.i.h, .int .i64 K.i.x, .int .i64 K.u.c, .int .i64 K.u.h, .int .i64 K.u.x, .int .i64 K.a] 76) := ⟨_, rfl⟩
  have hK5 : KB W w1.heap.size K := by rw [hW]; exact KB.new w1 K
  have HBW : Hid (Below w.heap.size w W) := by rw [hW]; exact HB.out.alloc HB.out.size _
  have K5 := Lib.hid hK5
  obtain ⟨y0, y1, y2, y3, y4, y5, y6, y7, y8, y9, y10⟩ := hK5.cells
  clear hK5
  go_wp2_with fail
  rw [← hW]
  clear hW
  obtain ⟨kb, hkb⟩ : ∃ kb, kb = w1.heap.size := ⟨_, rfl⟩
  rw [← hkb] at K5 y0 y1 y2 y3 y4 y5 y6 y7 y8 y9 y10 ⊢
  clear hkb
  have HC0 : Hid (Below W.heap.size W W.drew) := below_drew W
  have tok1 : True := trivial
  go_region_held3 (fun w' => w'.cell? ⟨kb, 0, none⟩ = some (.int .i64 K.l.k) ∧ w'.cell? ⟨kb, 1, none⟩ = some (.int .i64 K.l.o) ∧ w'.cell? ⟨kb, 2, none⟩ = some (.int .i64 K.l.s) ∧ w'.cell? ⟨kb, 3, none⟩ = some (.int .i64 K.l.t) ∧ w'.cell? ⟨kb, 4, none⟩ = some (.int .i64 K.i.c) ∧ w'.cell? ⟨kb, 5, none⟩ = some (.int .i64 K.i.h) ∧ w'.cell? ⟨kb, 6, none⟩ = some (.int .i64 K.i.x) ∧ w'.cell? ⟨kb, 7, none⟩ = some (.int .i64 K.u.c) ∧ w'.cell? ⟨kb, 8, none⟩ = some (.int .i64 K.u.h) ∧ w'.cell? ⟨kb, 9, none⟩ = some (.int .i64 K.u.x) ∧ w'.cell? ⟨kb, 10, none⟩ = some (.int .i64 K.a))
    (first | exact ⟨q0, q1, q2, q3, q4, q5, q6, q7, q8, q9, q10⟩ | go_keep)
    (first
      | ((have _t := tok1; clear tok1; go_at_call 61; (with_reducible refine (weights_at K e HE.out.symm _ OK.out).mono ?_); rintro e1 w6 ⟨rfl, hb6⟩
          have HC1 := Lib.hid (HC0.out.trans (hb6.mono HC0.out.size))
          have K6 := Lib.hid (K5.out.below HC1.out)
          obtain ⟨q0, q1, q2, q3, q4, q5, q6, q7, q8, q9, q10⟩ := K6.out.cells
          clear hb6))
      | fail)
  go_wp2_with fail
  go_ret2
  exact ⟨rfl, chain HBW.out HC1.out⟩

end Go.Proofs.Ytnfmpladdfgadaa
