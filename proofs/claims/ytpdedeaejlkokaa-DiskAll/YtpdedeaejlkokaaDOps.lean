/-
  A call of a script of layer 15, as the laws make it.
-/
import Derived.Test.YtpdedeaejlkokaaDHead2
namespace Go.Proofs.Ytpdedeaejlkokaa
open Go.RowKit

theorem DTo.from {B : Nat} {O : Nat → Prop} {g : Nat} {d : Dk} {v : Value} {w w1 w' : World} {e : Ending} (h1 : ∀ b, O b → B ≤ b ∧ b < w.heap.size) (hB : B ≤ w.heap.size) (hb : Below w.heap.size w w1) (h : DTo B O g d v w1 e w') : DTo B O g d v w e w' :=
  ⟨h.1, h.2.1.grow (fun b q => q.elim Or.inl fun q => Or.inr ⟨Nat.le_trans hb.size q.1, q.2⟩) fun b q => by
    rcases q with q | q
    · exact ⟨(h1 b q).1, by have := (h1 b q).2; have := hb.size; have := h.2.2.1.size; omega⟩
    · exact ⟨by omega, q.2⟩, (Kept.below hb hB).next h.2.2 fun b q => Or.inl q⟩
theorem do_4 {o : Dop} (h : o.w = 4) (d : Dk) : dkDo d o = dkWrite d o.a o.b := if_pos h
theorem do_5 {o : Dop} (h : o.w = 5 ∨ o.w = 6) (d : Dk) : dkDo d o = dkSync d := by unfold dkDo; rw [if_neg (by omega), if_pos h]
theorem do_7 {o : Dop} (h : o.w = 7) (d : Dk) : dkDo d o = (dkFuse d o.n, 0) := by unfold dkDo; rw [if_neg (by omega), if_neg (by omega), if_pos h]
theorem do_8 {o : Dop} (h : o.w = 8) (d : Dk) : dkDo d o = (dkCrash d o.k o.n, 0) := by unfold dkDo; rw [if_neg (by omega), if_neg (by omega), if_neg (by omega), if_pos h]
theorem do_else {o : Dop} (h4 : o.w ≠ 4) (h5 : o.w ≠ 5) (h6 : o.w ≠ 6) (h7 : o.w ≠ 7) (h8 : o.w ≠ 8) (d : Dk) : dkDo d o = dkWrite d o.a (fillB o.c) := by
  unfold dkDo; rw [if_neg h4, if_neg (by omega), if_neg h7, if_neg h8]

set_option maxHeartbeats 8000000 in
set_option maxRecDepth 100000 in
theorem do15 (B : Nat) (O : Nat → Prop) (g m : Nat) (d : Dk) (o : Dop) (AB AK : Option Addr) (nB cB nK cK : Nat) (w : World) (H : DI B O d g w) (hB : B ≤ w.heap.size) (ok : DkOk m d) (hm : m ≤ 5000) (hp : d.p.length ≤ 100000) (hf : d.f ≤ 9223372036854775807)
    (hb : Rg bcells w AB o.b) (lb : nB = o.b.length) (nb : 0 < o.b.length → ∀ a, AB = some a → ¬ O a.block) (hk : Rg qcells w AK o.k) (lk : nK = o.k.length) (nk : 0 < o.k.length → ∀ a, AK = some a → ¬ O a.block) :
    Calls Try.prog 14 #[.pointer (some ⟨g, 0, none⟩), .agg #[.int .i64 o.w, .int .i64 o.a, .int .u8 (bz o.c), .slice AB nB cB, .int .i64 o.n, .slice AK nK cK]] w (DTo B O g (dkDo d o).1 (.int .i64 (dkDo d o).2) w) := by
  have BA := chain_alloc (Below.refl _ w) (.cells #[.int .i64 o.w, .int .i64 o.a, .int .u8 (bz o.c), .slice AB nB cB, .int .i64 o.n, .slice AK nK cK] 34)
  have tb := heap_alloc_new w (.cells #[.int .i64 o.w, .int .i64 o.a, .int .u8 (bz o.c), .slice AB nB cB, .int .i64 o.n, .slice AK nK cK] 34)
  have LT := Lib.hid H.lt; have HB := Lib.hid hB; have OK := Lib.hid ok
  have HF : Hid (-1 ≤ d.f ∧ d.f ≤ 9223372036854775807) := ⟨ok.f, hf⟩
  have HL : Hid (d.l.length ≤ 5000 ∧ d.p.length ≤ 100000) := ⟨by rw [ok.l]; exact hm, hp⟩
  have HP := Lib.hid hp; have HFF := Lib.hid hf
  have LB := Lib.hid lb; have NB := Lib.hid nb; have LK := Lib.hid lk; have NK := Lib.hid nk
  have D1 := Lib.hid (H.below BA); have RB := Lib.hid (hb.below BA); have RK := Lib.hid (hk.below BA); have HB1 := Lib.hid (Nat.le_trans hB BA.size)
  clear H hB ok hf hb lb nb hk lk nk hp
  obtain ⟨W, hW⟩ : ∃ W, W = o.w := ⟨_, rfl⟩
  rw [← hW] at BA tb D1 RB RK HB1 ⊢
  have HW := Lib.hid hW
  clear hW
  by_cases w4 : W = 4
  · have E : Hid (dkDo d o = dkWrite d o.a o.b) := do_4 (HW.out.symm.trans w4) d
    have b0 : (W == 4) = true := by simp [w4]
    subst w4
    go_enter Try.func14, Try.ntmps14
    go_wp2_with fail
    obtain ⟨bt, hbt⟩ : ∃ bt, bt = w.heap.size := ⟨_, rfl⟩
    rw [← hbt] at tb ⊢
    have HBT := Lib.hid hbt
    generalize w.alloc (.cells #[.int .i64 4, .int .i64 o.a, .int .u8 (bz o.c), .slice AB nB cB, .int .i64 o.n, .slice AK nK cK] 34) = w1 at BA tb D1 RB RK HB1 ⊢
    have B1 := Lib.hid BA
    have t0 : w1.cell? ⟨bt, 0, none⟩ = some (.int .i64 4) := by rw [Lib.cell_of_heap tb]; rfl
    have t1 : w1.cell? ⟨bt, 1, none⟩ = some (.int .i64 o.a) := by rw [Lib.cell_of_heap tb]; rfl
    have t2 : w1.cell? ⟨bt, 2, none⟩ = some (.int .u8 (bz o.c)) := by rw [Lib.cell_of_heap tb]; rfl
    have t3 : w1.cell? ⟨bt, 3, none⟩ = some (.slice AB nB cB) := by rw [Lib.cell_of_heap tb]; rfl
    have t4 : w1.cell? ⟨bt, 4, none⟩ = some (.int .i64 o.n) := by rw [Lib.cell_of_heap tb]; rfl
    have t5 : w1.cell? ⟨bt, 5, none⟩ = some (.slice AK nK cK) := by rw [Lib.cell_of_heap tb]; rfl
    have lt1 := (Array.getElem?_eq_some_iff.1 tb).1
    have lt2 := lt1
    clear BA tb hbt
    go_wp2_with fail
    refine (write15 B O g d o.a AB nB cB o.b _ D1.out HB1.out RB.out LB.out NB.out HL.out HF.out).mono ?_
    rintro e w5 ⟨rfl, hD, hK⟩
    have DT := Lib.hid (DTo.from (v := .int .i64 (dkWrite d o.a o.b).2) (e := .returned (.int .i64 (dkWrite d o.a o.b).2)) LT.out HB.out B1.out ⟨rfl, hD, hK⟩)
    clear hD hK t0 t1 t2 t3 t4 t5
    go_wp2_with fail
    go_ret
    rw [E.out]
    exact DT.out
  have b4 : (W == 4) = false := by simpa using w4
  by_cases w5 : W = 5 ∨ W = 6
  · have E : Hid (dkDo d o = dkSync d) := do_5 (by rw [← HW.out]; exact w5) d
    rcases w5 with q5 | q5
    · have b5 : (W == 5) = true := by simp [q5]
      clear q5 w4
      go_enter Try.func14, Try.ntmps14
      go_wp2_with fail
      obtain ⟨bt, hbt⟩ : ∃ bt, bt = w.heap.size := ⟨_, rfl⟩
      rw [← hbt] at tb ⊢
      have HBT := Lib.hid hbt
      generalize w.alloc (.cells #[.int .i64 W, .int .i64 o.a, .int .u8 (bz o.c), .slice AB nB cB, .int .i64 o.n, .slice AK nK cK] 34) = w1 at BA tb D1 RB RK HB1 ⊢
      have B1 := Lib.hid BA
      have t0 : w1.cell? ⟨bt, 0, none⟩ = some (.int .i64 W) := by rw [Lib.cell_of_heap tb]; rfl
      have t1 : w1.cell? ⟨bt, 1, none⟩ = some (.int .i64 o.a) := by rw [Lib.cell_of_heap tb]; rfl
      have t2 : w1.cell? ⟨bt, 2, none⟩ = some (.int .u8 (bz o.c)) := by rw [Lib.cell_of_heap tb]; rfl
      have t3 : w1.cell? ⟨bt, 3, none⟩ = some (.slice AB nB cB) := by rw [Lib.cell_of_heap tb]; rfl
      have t4 : w1.cell? ⟨bt, 4, none⟩ = some (.int .i64 o.n) := by rw [Lib.cell_of_heap tb]; rfl
      have t5 : w1.cell? ⟨bt, 5, none⟩ = some (.slice AK nK cK) := by rw [Lib.cell_of_heap tb]; rfl
      have lt1 := (Array.getElem?_eq_some_iff.1 tb).1
      have lt2 := lt1
      clear BA tb hbt
      go_wp2_with fail
      refine (sync15 B O g m d _ D1.out HB1.out OK.out hm HP.out HFF.out).mono ?_
      rintro e w5 ⟨rfl, hD, hK⟩
      have DT := Lib.hid (DTo.from (v := .int .i64 (dkSync d).2) (e := .returned (.int .i64 (dkSync d).2)) LT.out HB.out B1.out ⟨rfl, hD, hK⟩)
      clear hD hK t0 t1 t2 t3 t4 t5
      go_wp2_with fail
      go_ret
      rw [E.out]
      exact DT.out
    · have b5 : (W == 5) = false := by simp [q5]
      have b6 : (W == 6) = true := by simp [q5]
      clear q5 w4
      go_enter Try.func14, Try.ntmps14
      go_wp2_with fail
      obtain ⟨bt, hbt⟩ : ∃ bt, bt = w.heap.size := ⟨_, rfl⟩
      rw [← hbt] at tb ⊢
      have HBT := Lib.hid hbt
      generalize w.alloc (.cells #[.int .i64 W, .int .i64 o.a, .int .u8 (bz o.c), .slice AB nB cB, .int .i64 o.n, .slice AK nK cK] 34) = w1 at BA tb D1 RB RK HB1 ⊢
      have B1 := Lib.hid BA
      have t0 : w1.cell? ⟨bt, 0, none⟩ = some (.int .i64 W) := by rw [Lib.cell_of_heap tb]; rfl
      have t1 : w1.cell? ⟨bt, 1, none⟩ = some (.int .i64 o.a) := by rw [Lib.cell_of_heap tb]; rfl
      have t2 : w1.cell? ⟨bt, 2, none⟩ = some (.int .u8 (bz o.c)) := by rw [Lib.cell_of_heap tb]; rfl
      have t3 : w1.cell? ⟨bt, 3, none⟩ = some (.slice AB nB cB) := by rw [Lib.cell_of_heap tb]; rfl
      have t4 : w1.cell? ⟨bt, 4, none⟩ = some (.int .i64 o.n) := by rw [Lib.cell_of_heap tb]; rfl
      have t5 : w1.cell? ⟨bt, 5, none⟩ = some (.slice AK nK cK) := by rw [Lib.cell_of_heap tb]; rfl
      have lt1 := (Array.getElem?_eq_some_iff.1 tb).1
      have lt2 := lt1
      clear BA tb hbt
      go_wp2_with fail
      refine (sync15 B O g m d _ D1.out HB1.out OK.out hm HP.out HFF.out).mono ?_
      rintro e w5 ⟨rfl, hD, hK⟩
      have DT := Lib.hid (DTo.from (v := .int .i64 (dkSync d).2) (e := .returned (.int .i64 (dkSync d).2)) LT.out HB.out B1.out ⟨rfl, hD, hK⟩)
      clear hD hK t0 t1 t2 t3 t4 t5
      go_wp2_with fail
      go_ret
      rw [E.out]
      exact DT.out
  have w5a : W ≠ 5 := fun q => w5 (Or.inl q)
  have w6 : W ≠ 6 := fun q => w5 (Or.inr q)
  have b5 : (W == 5) = false := by simpa using w5a
  have b6 : (W == 6) = false := by simpa using w6
  by_cases w7 : W = 7
  · have E : Hid (dkDo d o = (dkFuse d o.n, 0)) := do_7 (HW.out.symm.trans w7) d
    subst w7
    clear w4 w5 w5a w6
    go_enter Try.func14, Try.ntmps14
    go_wp2_with fail
    obtain ⟨bt, hbt⟩ : ∃ bt, bt = w.heap.size := ⟨_, rfl⟩
    rw [← hbt] at tb ⊢
    have HBT := Lib.hid hbt
    generalize w.alloc (.cells #[.int .i64 7, .int .i64 o.a, .int .u8 (bz o.c), .slice AB nB cB, .int .i64 o.n, .slice AK nK cK] 34) = w1 at BA tb D1 RB RK HB1 ⊢
    have B1 := Lib.hid BA
    have t0 : w1.cell? ⟨bt, 0, none⟩ = some (.int .i64 7) := by rw [Lib.cell_of_heap tb]; rfl
    have t1 : w1.cell? ⟨bt, 1, none⟩ = some (.int .i64 o.a) := by rw [Lib.cell_of_heap tb]; rfl
    have t2 : w1.cell? ⟨bt, 2, none⟩ = some (.int .u8 (bz o.c)) := by rw [Lib.cell_of_heap tb]; rfl
    have t3 : w1.cell? ⟨bt, 3, none⟩ = some (.slice AB nB cB) := by rw [Lib.cell_of_heap tb]; rfl
    have t4 : w1.cell? ⟨bt, 4, none⟩ = some (.int .i64 o.n) := by rw [Lib.cell_of_heap tb]; rfl
    have t5 : w1.cell? ⟨bt, 5, none⟩ = some (.slice AK nK cK) := by rw [Lib.cell_of_heap tb]; rfl
    have lt1 := (Array.getElem?_eq_some_iff.1 tb).1
    have lt2 := lt1
    clear BA tb hbt
    go_wp2_with fail
    refine (fuse15 B O g d o.n _ D1.out).mono ?_
    rintro e w5 ⟨rfl, hD, hK⟩
    have DT := Lib.hid (DTo.from (v := .int .i64 0) (e := .returned (.int .i64 0)) LT.out HB.out B1.out ⟨rfl, hD, hK⟩)
    clear hD hK t0 t1 t2 t3 t4 t5
    go_wp2_with fail
    go_ret
    rw [E.out]
    exact DT.out
  have b7 : (W == 7) = false := by simpa using w7
  by_cases w8 : W = 8
  · have E : Hid (dkDo d o = (dkCrash d o.k o.n, 0)) := do_8 (HW.out.symm.trans w8) d
    subst w8
    clear w4 w5 w5a w6 w7
    go_enter Try.func14, Try.ntmps14
    go_wp2_with fail
    obtain ⟨bt, hbt⟩ : ∃ bt, bt = w.heap.size := ⟨_, rfl⟩
    rw [← hbt] at tb ⊢
    have HBT := Lib.hid hbt
    generalize w.alloc (.cells #[.int .i64 8, .int .i64 o.a, .int .u8 (bz o.c), .slice AB nB cB, .int .i64 o.n, .slice AK nK cK] 34) = w1 at BA tb D1 RB RK HB1 ⊢
    have B1 := Lib.hid BA
    have t0 : w1.cell? ⟨bt, 0, none⟩ = some (.int .i64 8) := by rw [Lib.cell_of_heap tb]; rfl
    have t1 : w1.cell? ⟨bt, 1, none⟩ = some (.int .i64 o.a) := by rw [Lib.cell_of_heap tb]; rfl
    have t2 : w1.cell? ⟨bt, 2, none⟩ = some (.int .u8 (bz o.c)) := by rw [Lib.cell_of_heap tb]; rfl
    have t3 : w1.cell? ⟨bt, 3, none⟩ = some (.slice AB nB cB) := by rw [Lib.cell_of_heap tb]; rfl
    have t4 : w1.cell? ⟨bt, 4, none⟩ = some (.int .i64 o.n) := by rw [Lib.cell_of_heap tb]; rfl
    have t5 : w1.cell? ⟨bt, 5, none⟩ = some (.slice AK nK cK) := by rw [Lib.cell_of_heap tb]; rfl
    have lt1 := (Array.getElem?_eq_some_iff.1 tb).1
    have lt2 := lt1
    clear BA tb hbt
    go_wp2_with fail
    refine (crash15 B O g m d o.k o.n AK nK cK _ D1.out HB1.out OK.out hm HP.out RK.out LK.out NK.out).mono ?_
    rintro e w5 ⟨rfl, hD, hK⟩
    have DT := Lib.hid (DTo.from (v := .int .i64 0) (e := .returned (.int .i64 0)) LT.out HB.out B1.out ⟨rfl, hD, hK⟩)
    clear hD hK t0 t1 t2 t3 t4 t5
    go_wp2_with fail
    go_ret
    rw [E.out]
    exact DT.out
  have b8 : (W == 8) = false := by simpa using w8
  have E : Hid (dkDo d o = dkWrite d o.a (fillB o.c)) := do_else (by rw [← HW.out]; exact w4) (by rw [← HW.out]; exact w5a) (by rw [← HW.out]; exact w6) (by rw [← HW.out]; exact w7) (by rw [← HW.out]; exact w8) d
  obtain ⟨z, hz⟩ : ∃ z, z = bz o.c := ⟨_, rfl⟩
  have CF : Hid (∀ v : World, Calls Try.prog 24 #[.int .u8 z] v (RowNew bcells (fillB o.c) v)) := fun v => by rw [hz]; exact fill15n o.c v
  clear w4 w5 w5a w6 w7 w8
  go_enter Try.func14, Try.ntmps14
  go_wp2_with fail
  obtain ⟨bt, hbt⟩ : ∃ bt, bt = w.heap.size := ⟨_, rfl⟩
  rw [← hbt] at tb ⊢
  have HBT := Lib.hid hbt
  generalize w.alloc (.cells #[.int .i64 W, .int .i64 o.a, .int .u8 (bz o.c), .slice AB nB cB, .int .i64 o.n, .slice AK nK cK] 34) = w1 at BA tb D1 RB RK HB1 ⊢
  have B1 := Lib.hid BA
  have t0 : w1.cell? ⟨bt, 0, none⟩ = some (.int .i64 W) := by rw [Lib.cell_of_heap tb]; rfl
  have t1 : w1.cell? ⟨bt, 1, none⟩ = some (.int .i64 o.a) := by rw [Lib.cell_of_heap tb]; rfl
  have t2 : w1.cell? ⟨bt, 2, none⟩ = some (.int .u8 (bz o.c)) := by rw [Lib.cell_of_heap tb]; rfl
  have t3 : w1.cell? ⟨bt, 3, none⟩ = some (.slice AB nB cB) := by rw [Lib.cell_of_heap tb]; rfl
  have t4 : w1.cell? ⟨bt, 4, none⟩ = some (.int .i64 o.n) := by rw [Lib.cell_of_heap tb]; rfl
  have t5 : w1.cell? ⟨bt, 5, none⟩ = some (.slice AK nK cK) := by rw [Lib.cell_of_heap tb]; rfl
  have lt1 := (Array.getElem?_eq_some_iff.1 tb).1
  have lt2 := lt1
  clear BA tb hbt
  have NBT : Hid (¬ O bt) := fun q => by have := (LT.out bt q).2; have := HBT.out; omega
  rw [← hz] at t2
  clear hz
  go_wp2_with fail
  refine wp_region_noPanic ?_
  refine wp_region_held_drew (S := fun w' => w'.cell? ⟨bt, 1, none⟩ = some (.int .i64 o.a) ∧ w'.cell? ⟨bt, 2, none⟩ = some (.int .u8 z)) (by kernel_rfl) ⟨t1, t2⟩ (fun hHeld => ?_)
  have hd := below_drew w1
  replace t1 := (hd.cell (p := ⟨bt, 1, none⟩) lt1).trans t1
  replace lt1 := Nat.lt_of_lt_of_le lt1 hd.size
  replace t2 := (hd.cell (p := ⟨bt, 2, none⟩) lt2).trans t2
  replace lt2 := Nat.lt_of_lt_of_le lt2 hd.size
  generalize w1.drew = wq1 at hHeld hd t1 lt1 t2 lt2 ⊢
  have BD : Hid (Below wq1.heap.size wq1 wq1) := Below.refl _ _
  refine wpAnyH_take (i := 0) (v := ?vv3001) (by simp only [List.getElem?_toArray, List.getElem?_cons_zero]; rfl) (by kernel_rfl) (by kernel_rfl) (by kernel_rfl) (fun _ _ _ h => h) (Or.inl ⟨by rfl, ?yy3001⟩) (by assumption) ?rr3001
  case yy3001 => (intro w hSw; (try dsimp only at hSw); go_simp; first | done | with_reducible rfl)
  simp only [Act.put, List.setIfInBounds_toArray, List.set_cons_zero, List.set_cons_succ]
  refine wpAnyH_take (i := 1) (v := ?vv3002) (by simp only [List.getElem?_toArray, List.getElem?_cons_zero, List.getElem?_cons_succ]; rfl) (by kernel_rfl) (by kernel_rfl) (by kernel_rfl) (fun _ _ _ h => h) (Or.inl ⟨by rfl, ?yy3002⟩) (by assumption) ?rr3002
  case yy3002 => (intro w hSw; (try dsimp only at hSw); go_simp; first | done | with_reducible rfl)
  simp only [Act.put, List.setIfInBounds_toArray, List.set_cons_zero, List.set_cons_succ]
  refine wpAnyH_take (i := 2) (v := ?vv3003) (by simp only [List.getElem?_toArray, List.getElem?_cons_zero, List.getElem?_cons_succ]; rfl) (by kernel_rfl) (by kernel_rfl) (by kernel_rfl) (fun _ _ _ h => h) (Or.inl ⟨by rfl, ?yy3003⟩) (by assumption) ?rr3003
  case yy3003 => (intro w hSw; (try dsimp only at hSw); go_simp; first | done | with_reducible rfl)
  simp only [Act.put, List.setIfInBounds_toArray, List.set_cons_zero, List.set_cons_succ]
  refine wpAnyH_take (i := 3) (v := ?vv3004) (by simp only [List.getElem?_toArray, List.getElem?_cons_zero, List.getElem?_cons_succ]; rfl) (by kernel_rfl) (by kernel_rfl) (by kernel_rfl) (fun _ _ _ h => h) (Or.inl ⟨by rfl, ?yy3004⟩) (by assumption) ?rr3004
  case yy3004 => (intro w hSw; (try dsimp only at hSw); go_simp; first | done | with_reducible rfl)
  simp only [Act.put, List.setIfInBounds_toArray, List.set_cons_zero, List.set_cons_succ]
  refine wpAnyH_take (i := 4) (v := ?vv3005) (by simp only [List.getElem?_toArray, List.getElem?_cons_zero, List.getElem?_cons_succ]; rfl) (by kernel_rfl) (by kernel_rfl) (by kernel_rfl) (fun _ _ _ h => h) (Or.inl ⟨by rfl, ?yy3005⟩) (by assumption) ?rr3005
  case yy3005 => (intro w hSw; (try dsimp only at hSw); go_simp; first | done | with_reducible rfl)
  simp only [Act.put, List.setIfInBounds_toArray, List.set_cons_zero, List.set_cons_succ]
  refine wpAnyH_ready (rs := [5]) (by kernel_rfl) (by simp) ?_
  refine AllReadyH.cons (by simp only [List.getElem?_toArray, List.getElem?_cons_zero, List.getElem?_cons_succ]; rfl) (fun K hK => ?_) ?_
  · skip
    go_simp
    go_at_call 24
    (with_reducible refine (CF.out _).mono ?_)
    rintro e wq2 ⟨Af, kf, nf, rfl, h1, h2, hb, h4, h5, h6⟩
    clear hHeld
    replace BD := Lib.hid (chain BD.out hb)
    have Mf := Lib.hid h1; have Rf := Lib.hid h2
    have NF : Hid (∀ a, Af = some a → ¬ O a.block) := fun a q z => by have := h6 a q; have := (LT.out _ z).2; have := B1.out.size; have := hd.size; omega
    clear h1 h2 h4 h5 h6
    clear hb
    go_wp2_with fail
    refine hK.out _ _ ⟨(BD.out.cell (p := ⟨bt, 1, none⟩) lt1).trans t1, (BD.out.cell (p := ⟨bt, 2, none⟩) lt2).trans t2⟩ (fun hHeld => ?_)
    clear hK K
    try simp only [Act.put, List.setIfInBounds_toArray, List.set_cons_zero, List.set_cons_succ]
    refine wpAnyH_ready (rs := [6]) (by kernel_rfl) (by simp) ?_
    refine AllReadyH.cons (by simp only [List.getElem?_toArray, List.getElem?_cons_zero, List.getElem?_cons_succ]; rfl) (fun K hKK => ?_) ?_
    · skip
      go_simp
      (with_reducible refine (write15 B O g d o.a Af nf kf (fillB o.c) _ (D1.out.below (chain hd BD.out)) (Nat.le_trans HB1.out (chain hd BD.out).size) Rf.out Mf.out (fun _ => NF.out) HL.out HF.out).mono ?_)
      rintro e wq3 ⟨rfl, hD, hK⟩
      clear hHeld
      go_wp2_with fail
      refine hKK.out _ _ ⟨(World.cell?_of_block (a := ⟨bt, 1, none⟩) (hK.2 _ (Nat.lt_of_lt_of_le lt1 BD.out.size) NBT.out)).trans ((BD.out.cell (p := ⟨bt, 1, none⟩) lt1).trans t1), (World.cell?_of_block (a := ⟨bt, 2, none⟩) (hK.2 _ (Nat.lt_of_lt_of_le lt2 BD.out.size) NBT.out)).trans ((BD.out.cell (p := ⟨bt, 2, none⟩) lt2).trans t2)⟩ (fun hHeld => ?_)
      have DT := Lib.hid (DTo.from (v := .int .i64 (dkWrite d o.a (fillB o.c)).2) (e := .returned (.int .i64 (dkWrite d o.a (fillB o.c)).2)) LT.out HB.out (chain B1.out (chain hd BD.out)) ⟨rfl, hD, hK⟩)
      clear hKK K hD hK
      try simp only [Act.put, List.setIfInBounds_toArray, List.set_cons_zero, List.set_cons_succ]
      refine wpAnyH_take (i := 7) (v := ?vv3006) (by simp only [List.getElem?_toArray, List.getElem?_cons_zero, List.getElem?_cons_succ]; rfl) (by kernel_rfl) (by kernel_rfl) (by kernel_rfl) (fun _ _ _ h => h) (Or.inl ⟨by rfl, ?yy3006⟩) (by assumption) ?rr3006
      case yy3006 => (intro w hSw; (try dsimp only at hSw); go_simp; first | done | with_reducible rfl)
      simp only [Act.put, List.setIfInBounds_toArray, List.set_cons_zero, List.set_cons_succ]
      refine wpAnyH_done (by kernel_rfl) ?_ _
      refine NoPanic.normal ?_
      clear hHeld
      clear hd BD t1 t2
      go_wp2_with fail
      go_ret
      rw [E.out]
      exact DT.out
    exact AllReadyH.nil
  exact AllReadyH.nil

end Go.Proofs.Ytpdedeaejlkokaa
