/-
  The fixed questions of layer 12.
-/
import Derived.Test.YtggbhoanffdjbaaKPub
import Derived.Test.YtggbhoanffdjbaaKRef
import Derived.Test.YtggbhoanffdjbaaSSame
import Derived.Deep.RegionHeld3
import Derived.Deep.DeepCutAuto
namespace Go.Proofs.Ytggbhoanffdjbaa
open Go.RowKit Go

/-- A block, cell for cell. -/
def XC (w : World) (b : Nat) (cs : Array Value) (T : Nat) : Prop := w.heap[b]? = some (.cells cs T (0, 0))
theorem XC.lt {w : World} {b T : Nat} {cs : Array Value} (H : XC w b cs T) : b < w.heap.size := (Array.getElem?_eq_some_iff.1 H).1
theorem XC.below {w w' : World} {b T : Nat} {cs : Array Value} (H : XC w b cs T) (hb : Below w.heap.size w w') : XC w' b cs T := (hb.block b H.lt).trans H
theorem XC.cell {w : World} {b T : Nat} {cs : Array Value} (H : XC w b cs T) (i : Nat) (v : Value) (h : cs[i]? = some v) : w.cell? ⟨b, i, none⟩ = some v := by rw [Lib.cell_of_heap H]; exact h
theorem XC.frozen {w : World} {b T : Nat} {cs : Array Value} (H : XC w b cs T) (j : Nat) : w.frozen? ⟨b, j, none⟩ = false := Lib.frozen_of_heap H j
theorem XC.other {w : World} {b T : Nat} {cs : Array Value} (H : XC w b cs T) (a : Addr) (v : Value) (h : b ≠ a.block) : XC (w.setCell a v) b cs T := (Below.heap_setCell w a v b h).trans H
theorem XC.set {w : World} {b T : Nat} {x y : Value} (H : XC w b #[x, y] T) (u v : Value) : XC ((w.setCell ⟨b, 0, none⟩ u).setCell ⟨b, 1, none⟩ v) b #[u, v] T :=
  Lib.heap_setCell_same (i := 1) (Lib.heap_setCell_same (i := 0) H u) v
theorem h12a : (opensU [1, 2] [3] [⟨2, 3, 1⟩, ⟨1, 1, 11⟩]).length = 1 := rfl
theorem h12b : closesU 1 [⟨6, 4⟩] [⟨1, 1, 11⟩, ⟨2, 3, 1⟩] = [21] := by kernel_rfl

set_option maxHeartbeats 4000000 in
set_option maxRecDepth 100000 in
theorem head12_any (w : World) : Calls Try.prog 42 #[] w fun e w' => e = .returned (.bool true) ∧ Below w.heap.size w w' := by
  have C1 : Hid (∀ w, Calls Try.prog 43 #[.int .u64 5, .int .u64 7, .agg #[.int .u64 2, .int .u64 3, .int .u64 1]] w fun e w' => e = .returned (.agg #[.int .u64 3, .int .u64 4]) ∧ Below w.heap.size w w') := fun w => open12 5 7 ⟨2, 3, 1⟩ w
  have C2 : Hid (∀ w, Calls Try.prog 43 #[.int .u64 4, .int .u64 1, .agg #[.int .u64 1, .int .u64 1, .int .u64 11]] w fun e w' => e = .returned (.agg #[.int .u64 3, .int .u64 0]) ∧ Below w.heap.size w w') := fun w => open12 4 1 ⟨1, 1, 11⟩ w
  have C3 : Hid (∀ w, Calls Try.prog 45 #[.agg #[.int .u64 3, .int .u64 4], .agg #[.int .u64 3, .int .u64 0]] w fun e w' => e = .returned (.agg #[.int .u64 6, .int .u64 4]) ∧ Below w.heap.size w w') := fun w => sum12 ⟨3, 4⟩ ⟨3, 0⟩ w
  have C4 : Hid (∀ w, Calls Try.prog 47 #[.int .i64 0, .agg #[.int .u64 6, .int .u64 4], .agg #[.int .u64 2, .int .u64 3, .int .u64 1]] w fun e w' => e = .returned (.int .u64 51) ∧ Below w.heap.size w w') := fun w => close12 0 ⟨6, 4⟩ ⟨2, 3, 1⟩ w
  have C5 : Hid (∀ w, Calls Try.prog 47 #[.int .i64 1, .agg #[.int .u64 6, .int .u64 4], .agg #[.int .u64 1, .int .u64 1, .int .u64 11]] w fun e w' => e = .returned (.int .u64 21) ∧ Below w.heap.size w w') := fun w => close12 1 ⟨6, 4⟩ ⟨1, 1, 11⟩ w
  go_enter Try.func42, Try.ntmps42
  go_wp2_with fail
  obtain ⟨V1, hV1⟩ : ∃ V, V = w.alloc (.cells #[.int .u64 2, .int .u64 3, .int .u64 1] 37) := ⟨_, rfl⟩
  obtain ⟨w1, hV2⟩ : ∃ V, V = V1.alloc (.cells #[.int .u64 1, .int .u64 1, .int .u64 11] 37) := ⟨_, rfl⟩
  have hs : V1.heap.size = w.heap.size + 1 := by rw [hV1]; simp
  have B1 : Hid (Below w.heap.size w w1) := by rw [hV2, hV1]; exact chain_alloc (chain_alloc (Below.refl _ w) _) _
  have Rt : Hid (XC w1 w.heap.size #[.int .u64 2, .int .u64 3, .int .u64 1] 37) := by
    rw [hV2, hV1]
    exact XC.below (heap_alloc_new w _) (chain_alloc (Below.refl _ _) _)
  have Ru : Hid (XC w1 (w.heap.size + 1) #[.int .u64 1, .int .u64 1, .int .u64 11] 37) := by
    have := heap_alloc_new V1 (.cells #[.int .u64 1, .int .u64 1, .int .u64 11] 37)
    rw [hs] at this
    rw [hV2]; exact this
  rw [← hV1, ← hV2]
  clear hV1 hV2 hs
  obtain ⟨bku, hB1⟩ : ∃ b, b = w.heap.size + 1 := ⟨_, rfl⟩
  rw [← hB1] at Ru ⊢
  clear hB1
  have t0 := Rt.out.cell 0 (.int .u64 2) rfl
  have t1 := Rt.out.cell 1 (.int .u64 3) rfl
  have t2 := Rt.out.cell 2 (.int .u64 1) rfl
  have tl := Rt.out.lt
  have u0 := Ru.out.cell 0 (.int .u64 1) rfl
  have u1 := Ru.out.cell 1 (.int .u64 1) rfl
  have u2 := Ru.out.cell 2 (.int .u64 11) rfl
  have ul := Ru.out.lt
  refine (C1.out _).mono ?_
  rintro e w2 ⟨rfl, hb⟩
  have B2 := Lib.hid (chain B1.out hb)
  replace Rt := Lib.hid (Rt.out.below hb)
  replace Ru := Lib.hid (Ru.out.below hb)
  clear hb B1
  clear t0 t1 t2 tl
  have t0 := Rt.out.cell 0 (.int .u64 2) rfl
  have t1 := Rt.out.cell 1 (.int .u64 3) rfl
  have t2 := Rt.out.cell 2 (.int .u64 1) rfl
  have tl := Rt.out.lt
  clear u0 u1 u2 ul
  have u0 := Ru.out.cell 0 (.int .u64 1) rfl
  have u1 := Ru.out.cell 1 (.int .u64 1) rfl
  have u2 := Ru.out.cell 2 (.int .u64 11) rfl
  have ul := Ru.out.lt
  go_upto_region 4 with fail
  obtain ⟨w3, hV⟩ : ∃ V, V = w2.alloc (.cells #[.int .u64 3, .int .u64 4] 44) := ⟨_, rfl⟩
  have hb : Below w2.heap.size w2 w3 := by rw [hV]; exact (Below.refl _ w2).alloc (Nat.le_refl _) _
  obtain ⟨bko, hB⟩ : ∃ b, b = w2.heap.size := ⟨_, rfl⟩
  have Ro : Hid (XC w3 bko #[.int .u64 3, .int .u64 4] 44) := by rw [hV, hB]; exact heap_alloc_new w2 _
  rw [← hV, ← hB]
  clear hV hB
  have B3 := Lib.hid (chain B2.out hb)
  replace Rt := Lib.hid (Rt.out.below hb)
  replace Ru := Lib.hid (Ru.out.below hb)
  clear hb B2
  clear t0 t1 t2 tl
  have t0 := Rt.out.cell 0 (.int .u64 2) rfl
  have t1 := Rt.out.cell 1 (.int .u64 3) rfl
  have t2 := Rt.out.cell 2 (.int .u64 1) rfl
  have tl := Rt.out.lt
  clear u0 u1 u2 ul
  have u0 := Ru.out.cell 0 (.int .u64 1) rfl
  have u1 := Ru.out.cell 1 (.int .u64 1) rfl
  have u2 := Ru.out.cell 2 (.int .u64 11) rfl
  have ul := Ru.out.lt
  have o0 := Ro.out.cell 0 (.int .u64 3) rfl
  have o1 := Ro.out.cell 1 (.int .u64 4) rfl
  have ol := Ro.out.lt
  go_cut [4] (fun s4 wx => ∃ z : Nat, s4 = .pointer (some ⟨z, 0, none⟩) ∧ Hid (XC wx z #[.int .u64 6, .int .u64 4] 44) ∧ Hid (XC wx w.heap.size #[.int .u64 2, .int .u64 3, .int .u64 1] 37) ∧ Hid (XC wx bku #[.int .u64 1, .int .u64 1, .int .u64 11] 37) ∧ Hid (XC wx bko #[.int .u64 3, .int .u64 4] 44) ∧ Hid (Below w.heap.size w wx))
  case first =>
    go_wp2_with fail
    refine wp_region_noPanic ?_
    refine wp_region_held_drew (S := fun w' => w'.cell? ⟨w.heap.size, 0, none⟩ = some (.int .u64 2) ∧ w'.cell? ⟨w.heap.size, 1, none⟩ = some (.int .u64 3) ∧ w'.cell? ⟨w.heap.size, 2, none⟩ = some (.int .u64 1) ∧ w'.cell? ⟨bku, 0, none⟩ = some (.int .u64 1) ∧ w'.cell? ⟨bku, 1, none⟩ = some (.int .u64 1) ∧ w'.cell? ⟨bku, 2, none⟩ = some (.int .u64 11) ∧ w'.cell? ⟨bko, 0, none⟩ = some (.int .u64 3) ∧ w'.cell? ⟨bko, 1, none⟩ = some (.int .u64 4)) (by kernel_rfl) ⟨t0, t1, t2, u0, u1, u2, o0, o1⟩ (fun hHeld => ?_)
    have hb := below_drew w3
    have B4 := Lib.hid (chain B3.out hb)
    replace Rt := Lib.hid (Rt.out.below hb)
    replace Ru := Lib.hid (Ru.out.below hb)
    replace Ro := Lib.hid (Ro.out.below hb)
    clear hb B3
    clear t0 t1 t2 tl
    have t0 := Rt.out.cell 0 (.int .u64 2) rfl
    have t1 := Rt.out.cell 1 (.int .u64 3) rfl
    have t2 := Rt.out.cell 2 (.int .u64 1) rfl
    have tl := Rt.out.lt
    clear u0 u1 u2 ul
    have u0 := Ru.out.cell 0 (.int .u64 1) rfl
    have u1 := Ru.out.cell 1 (.int .u64 1) rfl
    have u2 := Ru.out.cell 2 (.int .u64 11) rfl
    have ul := Ru.out.lt
    clear o0 o1 ol
    have o0 := Ro.out.cell 0 (.int .u64 3) rfl
    have o1 := Ro.out.cell 1 (.int .u64 4) rfl
    have ol := Ro.out.lt
    clear t0 t1 t2 tl
    clear u0 u1 u2 ul
    clear o0 o1 ol
    generalize w3.drew = w4 at hHeld B4 Rt Ru Ro ⊢
    have t0 := Rt.out.cell 0 (.int .u64 2) rfl
    have t1 := Rt.out.cell 1 (.int .u64 3) rfl
    have t2 := Rt.out.cell 2 (.int .u64 1) rfl
    have tl := Rt.out.lt
    have u0 := Ru.out.cell 0 (.int .u64 1) rfl
    have u1 := Ru.out.cell 1 (.int .u64 1) rfl
    have u2 := Ru.out.cell 2 (.int .u64 11) rfl
    have ul := Ru.out.lt
    have o0 := Ro.out.cell 0 (.int .u64 3) rfl
    have o1 := Ro.out.cell 1 (.int .u64 4) rfl
    have ol := Ro.out.lt
    refine wpAnyH_take (i := 0) (v := ?vv1) (by simp only [List.getElem?_toArray, List.getElem?_cons_zero]; rfl) (by kernel_rfl) (by kernel_rfl) (by kernel_rfl) (fun _ _ _ h => h) (Or.inl ⟨by rfl, ?yy1⟩) (by assumption) ?rr1
    case yy1 => (intro w hSw; (try dsimp only at hSw); go_simp; first | done | with_reducible rfl)
    simp only [Act.put, List.setIfInBounds_toArray, List.set_cons_zero, List.set_cons_succ]
    refine wpAnyH_take (i := 1) (v := ?vv2) (by simp only [List.getElem?_toArray, List.getElem?_cons_zero, List.getElem?_cons_succ]; rfl) (by kernel_rfl) (by kernel_rfl) (by kernel_rfl) (fun _ _ _ h => h) (Or.inl ⟨by rfl, ?yy2⟩) (by assumption) ?rr2
    case yy2 => (intro w hSw; (try dsimp only at hSw); go_simp; first | done | with_reducible rfl)
    simp only [Act.put, List.setIfInBounds_toArray, List.set_cons_zero, List.set_cons_succ]
    refine wpAnyH_ready (rs := [2, 4]) (by kernel_rfl) (by simp) ?_
    refine AllReadyH.cons (by simp only [List.getElem?_toArray, List.getElem?_cons_zero, List.getElem?_cons_succ]; rfl) (fun K hK => ?_) ?_
    · skip
      go_simp
      go_at_call 43
      (with_reducible refine (C2.out _).mono ?_)
      rintro e w5 ⟨rfl, hb⟩
      clear hHeld
      have B5 := Lib.hid (chain B4.out hb)
      replace Rt := Lib.hid (Rt.out.below hb)
      replace Ru := Lib.hid (Ru.out.below hb)
      replace Ro := Lib.hid (Ro.out.below hb)
      clear hb B4
      clear t0 t1 t2 tl
      have t0 := Rt.out.cell 0 (.int .u64 2) rfl
      have t1 := Rt.out.cell 1 (.int .u64 3) rfl
      have t2 := Rt.out.cell 2 (.int .u64 1) rfl
      have tl := Rt.out.lt
      clear u0 u1 u2 ul
      have u0 := Ru.out.cell 0 (.int .u64 1) rfl
      have u1 := Ru.out.cell 1 (.int .u64 1) rfl
      have u2 := Ru.out.cell 2 (.int .u64 11) rfl
      have ul := Ru.out.lt
      clear o0 o1 ol
      have o0 := Ro.out.cell 0 (.int .u64 3) rfl
      have o1 := Ro.out.cell 1 (.int .u64 4) rfl
      have ol := Ro.out.lt
      go_wp2_with fail
      refine hK.out _ _ ⟨t0, t1, t2, u0, u1, u2, o0, o1⟩ (fun hHeld => ?_)
      clear hK K
      try simp only [Act.put, List.setIfInBounds_toArray, List.set_cons_zero, List.set_cons_succ]
      refine wpAnyH_ready (rs := [3, 4]) (by kernel_rfl) (by simp) ?_
      refine AllReadyH.cons (by simp only [List.getElem?_toArray, List.getElem?_cons_zero, List.getElem?_cons_succ]; rfl) (fun K hK => ?_) ?_
      · skip
        go_simp
        go_at_call 45
        (with_reducible refine (C3.out _).mono ?_)
        rintro e w6 ⟨rfl, hb⟩
        clear hHeld
        have B6 := Lib.hid (chain B5.out hb)
        replace Rt := Lib.hid (Rt.out.below hb)
        replace Ru := Lib.hid (Ru.out.below hb)
        replace Ro := Lib.hid (Ro.out.below hb)
        clear hb B5
        clear t0 t1 t2 tl
        have t0 := Rt.out.cell 0 (.int .u64 2) rfl
        have t1 := Rt.out.cell 1 (.int .u64 3) rfl
        have t2 := Rt.out.cell 2 (.int .u64 1) rfl
        have tl := Rt.out.lt
        clear u0 u1 u2 ul
        have u0 := Ru.out.cell 0 (.int .u64 1) rfl
        have u1 := Ru.out.cell 1 (.int .u64 1) rfl
        have u2 := Ru.out.cell 2 (.int .u64 11) rfl
        have ul := Ru.out.lt
        clear o0 o1 ol
        have o0 := Ro.out.cell 0 (.int .u64 3) rfl
        have o1 := Ro.out.cell 1 (.int .u64 4) rfl
        have ol := Ro.out.lt
        go_wp2_with fail
        refine hK.out _ _ ⟨t0, t1, t2, u0, u1, u2, o0, o1⟩ (fun hHeld => ?_)
        clear hK K
        try simp only [Act.put, List.setIfInBounds_toArray, List.set_cons_zero, List.set_cons_succ]
        refine wpAnyH_ready (rs := [4]) (by kernel_rfl) (by simp) ?_
        refine AllReadyH.cons (by simp only [List.getElem?_toArray, List.getElem?_cons_zero, List.getElem?_cons_succ]; rfl) (fun K hK => ?_) ?_
        · skip
          go_simp
          clear hHeld
          have hb : Below w6.heap.size w6 (w6.alloc (.cells #[.int .u64 0, .int .u64 0] 44)) := (Below.refl _ _).alloc (Nat.le_refl _) _
          obtain ⟨z, hB⟩ : ∃ b, b = w6.heap.size := ⟨_, rfl⟩
          have zl : w.heap.size ≤ z := by rw [hB]; exact B6.out.size
          have net : w.heap.size ≠ z := by have := Rt.out.lt; omega
          have neu : bku ≠ z := by have := Ru.out.lt; omega
          have neo : bko ≠ z := by have := Ro.out.lt; omega
          have Rz : Hid (XC (w6.alloc (.cells #[.int .u64 0, .int .u64 0] 44)) z #[.int .u64 0, .int .u64 0] 44) := by rw [hB]; exact heap_alloc_new w6 _
          rw [← hB]
          clear hB
          have B7 := Lib.hid (chain B6.out hb)
          replace Rt := Lib.hid (Rt.out.below hb)
          replace Ru := Lib.hid (Ru.out.below hb)
          replace Ro := Lib.hid (Ro.out.below hb)
          clear hb B6
          clear t0 t1 t2 tl
          have t0 := Rt.out.cell 0 (.int .u64 2) rfl
          have t1 := Rt.out.cell 1 (.int .u64 3) rfl
          have t2 := Rt.out.cell 2 (.int .u64 1) rfl
          have tl := Rt.out.lt
          clear u0 u1 u2 ul
          have u0 := Ru.out.cell 0 (.int .u64 1) rfl
          have u1 := Ru.out.cell 1 (.int .u64 1) rfl
          have u2 := Ru.out.cell 2 (.int .u64 11) rfl
          have ul := Ru.out.lt
          clear o0 o1 ol
          have o0 := Ro.out.cell 0 (.int .u64 3) rfl
          have o1 := Ro.out.cell 1 (.int .u64 4) rfl
          have ol := Ro.out.lt
          refine hK.out _ _ ⟨t0, t1, t2, u0, u1, u2, o0, o1⟩ (fun hHeld => ?_)
          clear hK K
          try simp only [Act.put, List.setIfInBounds_toArray, List.set_cons_zero, List.set_cons_succ]
          clear t0 t1 t2 tl
          clear u0 u1 u2 ul
          clear o0 o1 ol
          generalize w6.alloc (.cells #[.int .u64 0, .int .u64 0] 44) = w7 at hHeld Rz B7 Rt Ru Ro ⊢
          have t0 := Rt.out.cell 0 (.int .u64 2) rfl
          have t1 := Rt.out.cell 1 (.int .u64 3) rfl
          have t2 := Rt.out.cell 2 (.int .u64 1) rfl
          have tl := Rt.out.lt
          have u0 := Ru.out.cell 0 (.int .u64 1) rfl
          have u1 := Ru.out.cell 1 (.int .u64 1) rfl
          have u2 := Ru.out.cell 2 (.int .u64 11) rfl
          have ul := Ru.out.lt
          have o0 := Ro.out.cell 0 (.int .u64 3) rfl
          have o1 := Ro.out.cell 1 (.int .u64 4) rfl
          have ol := Ro.out.lt
          refine wpAnyH_ready (rs := [5]) (by kernel_rfl) (by simp) ?_
          refine AllReadyH.cons (by simp only [List.getElem?_toArray, List.getElem?_cons_zero, List.getElem?_cons_succ]; rfl) (fun K hK => ?_) ?_
          · skip
            have z0 := Rz.out.cell 0 _ rfl
            have z1 := Rz.out.cell 1 _ rfl
            have f0 := Rz.out.frozen 0
            have f1 := Rz.out.frozen 1
            go_simp
            clear hHeld
            replace Rz := Lib.hid (Rz.out.set (.int .u64 6) (.int .u64 4))
            have B8 := Lib.hid (below_set2 B7.out zl (.int .u64 6) (.int .u64 4))
            replace Rt := Lib.hid ((Rt.out.other ⟨z, 0, none⟩ (.int .u64 6) net).other ⟨z, 1, none⟩ (.int .u64 4) net)
            clear t0 t1 t2 tl
            have t0 := Rt.out.cell 0 (.int .u64 2) rfl
            have t1 := Rt.out.cell 1 (.int .u64 3) rfl
            have t2 := Rt.out.cell 2 (.int .u64 1) rfl
            have tl := Rt.out.lt
            replace Ru := Lib.hid ((Ru.out.other ⟨z, 0, none⟩ (.int .u64 6) neu).other ⟨z, 1, none⟩ (.int .u64 4) neu)
            clear u0 u1 u2 ul
            have u0 := Ru.out.cell 0 (.int .u64 1) rfl
            have u1 := Ru.out.cell 1 (.int .u64 1) rfl
            have u2 := Ru.out.cell 2 (.int .u64 11) rfl
            have ul := Ru.out.lt
            replace Ro := Lib.hid ((Ro.out.other ⟨z, 0, none⟩ (.int .u64 6) neo).other ⟨z, 1, none⟩ (.int .u64 4) neo)
            clear o0 o1 ol
            have o0 := Ro.out.cell 0 (.int .u64 3) rfl
            have o1 := Ro.out.cell 1 (.int .u64 4) rfl
            have ol := Ro.out.lt
            refine hK.out _ _ ⟨t0, t1, t2, u0, u1, u2, o0, o1⟩ (fun hHeld => ?_)
            clear hK K
            try simp only [Act.put, List.setIfInBounds_toArray, List.set_cons_zero, List.set_cons_succ]
            refine wpAnyH_done (by kernel_rfl) ?_ _
            refine NoPanic.normal ?_
            go_wp2_with fail
            go_meet
            exact ⟨_, rfl, Rz, Rt, Ru, Ro, B8⟩
          exact AllReadyH.nil
        exact AllReadyH.nil
      refine AllReadyH.cons (by simp only [List.getElem?_toArray, List.getElem?_cons_zero, List.getElem?_cons_succ]; rfl) (fun K hK => ?_) ?_
      · skip
        go_simp
        clear hHeld
        have hb : Below w5.heap.size w5 (w5.alloc (.cells #[.int .u64 0, .int .u64 0] 44)) := (Below.refl _ _).alloc (Nat.le_refl _) _
        obtain ⟨z, hB⟩ : ∃ b, b = w5.heap.size := ⟨_, rfl⟩
        have zl : w.heap.size ≤ z := by rw [hB]; exact B5.out.size
        have net : w.heap.size ≠ z := by have := Rt.out.lt; omega
        have neu : bku ≠ z := by have := Ru.out.lt; omega
        have neo : bko ≠ z := by have := Ro.out.lt; omega
        have Rz : Hid (XC (w5.alloc (.cells #[.int .u64 0, .int .u64 0] 44)) z #[.int .u64 0, .int .u64 0] 44) := by rw [hB]; exact heap_alloc_new w5 _
        rw [← hB]
        clear hB
        have B6 := Lib.hid (chain B5.out hb)
        replace Rt := Lib.hid (Rt.out.below hb)
        replace Ru := Lib.hid (Ru.out.below hb)
        replace Ro := Lib.hid (Ro.out.below hb)
        clear hb B5
        clear t0 t1 t2 tl
        have t0 := Rt.out.cell 0 (.int .u64 2) rfl
        have t1 := Rt.out.cell 1 (.int .u64 3) rfl
        have t2 := Rt.out.cell 2 (.int .u64 1) rfl
        have tl := Rt.out.lt
        clear u0 u1 u2 ul
        have u0 := Ru.out.cell 0 (.int .u64 1) rfl
        have u1 := Ru.out.cell 1 (.int .u64 1) rfl
        have u2 := Ru.out.cell 2 (.int .u64 11) rfl
        have ul := Ru.out.lt
        clear o0 o1 ol
        have o0 := Ro.out.cell 0 (.int .u64 3) rfl
        have o1 := Ro.out.cell 1 (.int .u64 4) rfl
        have ol := Ro.out.lt
        refine hK.out _ _ ⟨t0, t1, t2, u0, u1, u2, o0, o1⟩ (fun hHeld => ?_)
        clear hK K
        try simp only [Act.put, List.setIfInBounds_toArray, List.set_cons_zero, List.set_cons_succ]
        clear t0 t1 t2 tl
        clear u0 u1 u2 ul
        clear o0 o1 ol
        generalize w5.alloc (.cells #[.int .u64 0, .int .u64 0] 44) = w6 at hHeld Rz B6 Rt Ru Ro ⊢
        have t0 := Rt.out.cell 0 (.int .u64 2) rfl
        have t1 := Rt.out.cell 1 (.int .u64 3) rfl
        have t2 := Rt.out.cell 2 (.int .u64 1) rfl
        have tl := Rt.out.lt
        have u0 := Ru.out.cell 0 (.int .u64 1) rfl
        have u1 := Ru.out.cell 1 (.int .u64 1) rfl
        have u2 := Ru.out.cell 2 (.int .u64 11) rfl
        have ul := Ru.out.lt
        have o0 := Ro.out.cell 0 (.int .u64 3) rfl
        have o1 := Ro.out.cell 1 (.int .u64 4) rfl
        have ol := Ro.out.lt
        refine wpAnyH_ready (rs := [3]) (by kernel_rfl) (by simp) ?_
        refine AllReadyH.cons (by simp only [List.getElem?_toArray, List.getElem?_cons_zero, List.getElem?_cons_succ]; rfl) (fun K hK => ?_) ?_
        · skip
          go_simp
          go_at_call 45
          (with_reducible refine (C3.out _).mono ?_)
          rintro e w7 ⟨rfl, hb⟩
          clear hHeld
          replace Rz := Lib.hid (Rz.out.below hb)
          have B7 := Lib.hid (chain B6.out hb)
          replace Rt := Lib.hid (Rt.out.below hb)
          replace Ru := Lib.hid (Ru.out.below hb)
          replace Ro := Lib.hid (Ro.out.below hb)
          clear hb B6
          clear t0 t1 t2 tl
          have t0 := Rt.out.cell 0 (.int .u64 2) rfl
          have t1 := Rt.out.cell 1 (.int .u64 3) rfl
          have t2 := Rt.out.cell 2 (.int .u64 1) rfl
          have tl := Rt.out.lt
          clear u0 u1 u2 ul
          have u0 := Ru.out.cell 0 (.int .u64 1) rfl
          have u1 := Ru.out.cell 1 (.int .u64 1) rfl
          have u2 := Ru.out.cell 2 (.int .u64 11) rfl
          have ul := Ru.out.lt
          clear o0 o1 ol
          have o0 := Ro.out.cell 0 (.int .u64 3) rfl
          have o1 := Ro.out.cell 1 (.int .u64 4) rfl
          have ol := Ro.out.lt
          go_wp2_with fail
          refine hK.out _ _ ⟨t0, t1, t2, u0, u1, u2, o0, o1⟩ (fun hHeld => ?_)
          clear hK K
          try simp only [Act.put, List.setIfInBounds_toArray, List.set_cons_zero, List.set_cons_succ]
          refine wpAnyH_ready (rs := [5]) (by kernel_rfl) (by simp) ?_
          refine AllReadyH.cons (by simp only [List.getElem?_toArray, List.getElem?_cons_zero, List.getElem?_cons_succ]; rfl) (fun K hK => ?_) ?_
          · skip
            have z0 := Rz.out.cell 0 _ rfl
            have z1 := Rz.out.cell 1 _ rfl
            have f0 := Rz.out.frozen 0
            have f1 := Rz.out.frozen 1
            go_simp
            clear hHeld
            replace Rz := Lib.hid (Rz.out.set (.int .u64 6) (.int .u64 4))
            have B8 := Lib.hid (below_set2 B7.out zl (.int .u64 6) (.int .u64 4))
            replace Rt := Lib.hid ((Rt.out.other ⟨z, 0, none⟩ (.int .u64 6) net).other ⟨z, 1, none⟩ (.int .u64 4) net)
            clear t0 t1 t2 tl
            have t0 := Rt.out.cell 0 (.int .u64 2) rfl
            have t1 := Rt.out.cell 1 (.int .u64 3) rfl
            have t2 := Rt.out.cell 2 (.int .u64 1) rfl
            have tl := Rt.out.lt
            replace Ru := Lib.hid ((Ru.out.other ⟨z, 0, none⟩ (.int .u64 6) neu).other ⟨z, 1, none⟩ (.int .u64 4) neu)
            clear u0 u1 u2 ul
            have u0 := Ru.out.cell 0 (.int .u64 1) rfl
            have u1 := Ru.out.cell 1 (.int .u64 1) rfl
            have u2 := Ru.out.cell 2 (.int .u64 11) rfl
            have ul := Ru.out.lt
            replace Ro := Lib.hid ((Ro.out.other ⟨z, 0, none⟩ (.int .u64 6) neo).other ⟨z, 1, none⟩ (.int .u64 4) neo)
            clear o0 o1 ol
            have o0 := Ro.out.cell 0 (.int .u64 3) rfl
            have o1 := Ro.out.cell 1 (.int .u64 4) rfl
            have ol := Ro.out.lt
            refine hK.out _ _ ⟨t0, t1, t2, u0, u1, u2, o0, o1⟩ (fun hHeld => ?_)
            clear hK K
            try simp only [Act.put, List.setIfInBounds_toArray, List.set_cons_zero, List.set_cons_succ]
            refine wpAnyH_done (by kernel_rfl) ?_ _
            refine NoPanic.normal ?_
            go_wp2_with fail
            go_meet
            exact ⟨_, rfl, Rz, Rt, Ru, Ro, B8⟩
          exact AllReadyH.nil
        exact AllReadyH.nil
      exact AllReadyH.nil
    refine AllReadyH.cons (by simp only [List.getElem?_toArray, List.getElem?_cons_zero, List.getElem?_cons_succ]; rfl) (fun K hK => ?_) ?_
    · skip
      go_simp
      clear hHeld
      have hb : Below w4.heap.size w4 (w4.alloc (.cells #[.int .u64 0, .int .u64 0] 44)) := (Below.refl _ _).alloc (Nat.le_refl _) _
      obtain ⟨z, hB⟩ : ∃ b, b = w4.heap.size := ⟨_, rfl⟩
      have zl : w.heap.size ≤ z := by rw [hB]; exact B4.out.size
      have net : w.heap.size ≠ z := by have := Rt.out.lt; omega
      have neu : bku ≠ z := by have := Ru.out.lt; omega
      have neo : bko ≠ z := by have := Ro.out.lt; omega
      have Rz : Hid (XC (w4.alloc (.cells #[.int .u64 0, .int .u64 0] 44)) z #[.int .u64 0, .int .u64 0] 44) := by rw [hB]; exact heap_alloc_new w4 _
      rw [← hB]
      clear hB
      have B5 := Lib.hid (chain B4.out hb)
      replace Rt := Lib.hid (Rt.out.below hb)
      replace Ru := Lib.hid (Ru.out.below hb)
      replace Ro := Lib.hid (Ro.out.below hb)
      clear hb B4
      clear t0 t1 t2 tl
      have t0 := Rt.out.cell 0 (.int .u64 2) rfl
      have t1 := Rt.out.cell 1 (.int .u64 3) rfl
      have t2 := Rt.out.cell 2 (.int .u64 1) rfl
      have tl := Rt.out.lt
      clear u0 u1 u2 ul
      have u0 := Ru.out.cell 0 (.int .u64 1) rfl
      have u1 := Ru.out.cell 1 (.int .u64 1) rfl
      have u2 := Ru.out.cell 2 (.int .u64 11) rfl
      have ul := Ru.out.lt
      clear o0 o1 ol
      have o0 := Ro.out.cell 0 (.int .u64 3) rfl
      have o1 := Ro.out.cell 1 (.int .u64 4) rfl
      have ol := Ro.out.lt
      refine hK.out _ _ ⟨t0, t1, t2, u0, u1, u2, o0, o1⟩ (fun hHeld => ?_)
      clear hK K
      try simp only [Act.put, List.setIfInBounds_toArray, List.set_cons_zero, List.set_cons_succ]
      clear t0 t1 t2 tl
      clear u0 u1 u2 ul
      clear o0 o1 ol
      generalize w4.alloc (.cells #[.int .u64 0, .int .u64 0] 44) = w5 at hHeld Rz B5 Rt Ru Ro ⊢
      have t0 := Rt.out.cell 0 (.int .u64 2) rfl
      have t1 := Rt.out.cell 1 (.int .u64 3) rfl
      have t2 := Rt.out.cell 2 (.int .u64 1) rfl
      have tl := Rt.out.lt
      have u0 := Ru.out.cell 0 (.int .u64 1) rfl
      have u1 := Ru.out.cell 1 (.int .u64 1) rfl
      have u2 := Ru.out.cell 2 (.int .u64 11) rfl
      have ul := Ru.out.lt
      have o0 := Ro.out.cell 0 (.int .u64 3) rfl
      have o1 := Ro.out.cell 1 (.int .u64 4) rfl
      have ol := Ro.out.lt
      refine wpAnyH_ready (rs := [2]) (by kernel_rfl) (by simp) ?_
      refine AllReadyH.cons (by simp only [List.getElem?_toArray, List.getElem?_cons_zero, List.getElem?_cons_succ]; rfl) (fun K hK => ?_) ?_
      · skip
        go_simp
        go_at_call 43
        (with_reducible refine (C2.out _).mono ?_)
        rintro e w6 ⟨rfl, hb⟩
        clear hHeld
        replace Rz := Lib.hid (Rz.out.below hb)
        have B6 := Lib.hid (chain B5.out hb)
        replace Rt := Lib.hid (Rt.out.below hb)
        replace Ru := Lib.hid (Ru.out.below hb)
        replace Ro := Lib.hid (Ro.out.below hb)
        clear hb B5
        clear t0 t1 t2 tl
        have t0 := Rt.out.cell 0 (.int .u64 2) rfl
        have t1 := Rt.out.cell 1 (.int .u64 3) rfl
        have t2 := Rt.out.cell 2 (.int .u64 1) rfl
        have tl := Rt.out.lt
        clear u0 u1 u2 ul
        have u0 := Ru.out.cell 0 (.int .u64 1) rfl
        have u1 := Ru.out.cell 1 (.int .u64 1) rfl
        have u2 := Ru.out.cell 2 (.int .u64 11) rfl
        have ul := Ru.out.lt
        clear o0 o1 ol
        have o0 := Ro.out.cell 0 (.int .u64 3) rfl
        have o1 := Ro.out.cell 1 (.int .u64 4) rfl
        have ol := Ro.out.lt
        go_wp2_with fail
        refine hK.out _ _ ⟨t0, t1, t2, u0, u1, u2, o0, o1⟩ (fun hHeld => ?_)
        clear hK K
        try simp only [Act.put, List.setIfInBounds_toArray, List.set_cons_zero, List.set_cons_succ]
        refine wpAnyH_ready (rs := [3]) (by kernel_rfl) (by simp) ?_
        refine AllReadyH.cons (by simp only [List.getElem?_toArray, List.getElem?_cons_zero, List.getElem?_cons_succ]; rfl) (fun K hK => ?_) ?_
        · skip
          go_simp
          go_at_call 45
          (with_reducible refine (C3.out _).mono ?_)
          rintro e w7 ⟨rfl, hb⟩
          clear hHeld
          replace Rz := Lib.hid (Rz.out.below hb)
          have B7 := Lib.hid (chain B6.out hb)
          replace Rt := Lib.hid (Rt.out.below hb)
          replace Ru := Lib.hid (Ru.out.below hb)
          replace Ro := Lib.hid (Ro.out.below hb)
          clear hb B6
          clear t0 t1 t2 tl
          have t0 := Rt.out.cell 0 (.int .u64 2) rfl
          have t1 := Rt.out.cell 1 (.int .u64 3) rfl
          have t2 := Rt.out.cell 2 (.int .u64 1) rfl
          have tl := Rt.out.lt
          clear u0 u1 u2 ul
          have u0 := Ru.out.cell 0 (.int .u64 1) rfl
          have u1 := Ru.out.cell 1 (.int .u64 1) rfl
          have u2 := Ru.out.cell 2 (.int .u64 11) rfl
          have ul := Ru.out.lt
          clear o0 o1 ol
          have o0 := Ro.out.cell 0 (.int .u64 3) rfl
          have o1 := Ro.out.cell 1 (.int .u64 4) rfl
          have ol := Ro.out.lt
          go_wp2_with fail
          refine hK.out _ _ ⟨t0, t1, t2, u0, u1, u2, o0, o1⟩ (fun hHeld => ?_)
          clear hK K
          try simp only [Act.put, List.setIfInBounds_toArray, List.set_cons_zero, List.set_cons_succ]
          refine wpAnyH_ready (rs := [5]) (by kernel_rfl) (by simp) ?_
          refine AllReadyH.cons (by simp only [List.getElem?_toArray, List.getElem?_cons_zero, List.getElem?_cons_succ]; rfl) (fun K hK => ?_) ?_
          · skip
            have z0 := Rz.out.cell 0 _ rfl
            have z1 := Rz.out.cell 1 _ rfl
            have f0 := Rz.out.frozen 0
            have f1 := Rz.out.frozen 1
            go_simp
            clear hHeld
            replace Rz := Lib.hid (Rz.out.set (.int .u64 6) (.int .u64 4))
            have B8 := Lib.hid (below_set2 B7.out zl (.int .u64 6) (.int .u64 4))
            replace Rt := Lib.hid ((Rt.out.other ⟨z, 0, none⟩ (.int .u64 6) net).other ⟨z, 1, none⟩ (.int .u64 4) net)
            clear t0 t1 t2 tl
            have t0 := Rt.out.cell 0 (.int .u64 2) rfl
            have t1 := Rt.out.cell 1 (.int .u64 3) rfl
            have t2 := Rt.out.cell 2 (.int .u64 1) rfl
            have tl := Rt.out.lt
            replace Ru := Lib.hid ((Ru.out.other ⟨z, 0, none⟩ (.int .u64 6) neu).other ⟨z, 1, none⟩ (.int .u64 4) neu)
            clear u0 u1 u2 ul
            have u0 := Ru.out.cell 0 (.int .u64 1) rfl
            have u1 := Ru.out.cell 1 (.int .u64 1) rfl
            have u2 := Ru.out.cell 2 (.int .u64 11) rfl
            have ul := Ru.out.lt
            replace Ro := Lib.hid ((Ro.out.other ⟨z, 0, none⟩ (.int .u64 6) neo).other ⟨z, 1, none⟩ (.int .u64 4) neo)
            clear o0 o1 ol
            have o0 := Ro.out.cell 0 (.int .u64 3) rfl
            have o1 := Ro.out.cell 1 (.int .u64 4) rfl
            have ol := Ro.out.lt
            refine hK.out _ _ ⟨t0, t1, t2, u0, u1, u2, o0, o1⟩ (fun hHeld => ?_)
            clear hK K
            try simp only [Act.put, List.setIfInBounds_toArray, List.set_cons_zero, List.set_cons_succ]
            refine wpAnyH_done (by kernel_rfl) ?_ _
            refine NoPanic.normal ?_
            go_wp2_with fail
            go_meet
            exact ⟨_, rfl, Rz, Rt, Ru, Ro, B8⟩
          exact AllReadyH.nil
        exact AllReadyH.nil
      exact AllReadyH.nil
    exact AllReadyH.nil
  case rest =>
    obtain ⟨bkp, rfl, Rp, Qt, Qu, Qo, B23⟩ := hcut
    obtain ⟨w23, hV⟩ : ∃ V, V = wc := ⟨_, rfl⟩
    subst hV
    replace Rt := Qt
    clear Qt t0 t1 t2 tl
    have t0 := Rt.out.cell 0 (.int .u64 2) rfl
    have t1 := Rt.out.cell 1 (.int .u64 3) rfl
    have t2 := Rt.out.cell 2 (.int .u64 1) rfl
    have tl := Rt.out.lt
    replace Ru := Qu
    clear Qu u0 u1 u2 ul
    have u0 := Ru.out.cell 0 (.int .u64 1) rfl
    have u1 := Ru.out.cell 1 (.int .u64 1) rfl
    have u2 := Ru.out.cell 2 (.int .u64 11) rfl
    have ul := Ru.out.lt
    replace Ro := Qo
    clear Qo o0 o1 ol
    have o0 := Ro.out.cell 0 (.int .u64 3) rfl
    have o1 := Ro.out.cell 1 (.int .u64 4) rfl
    have ol := Ro.out.lt
    have p0 := Rp.out.cell 0 (.int .u64 6) rfl
    have p1 := Rp.out.cell 1 (.int .u64 4) rfl
    have pl := Rp.out.lt
    clear B3
    go_wp2_with fail
    refine (C4.out _).mono ?_
    rintro e w24 ⟨rfl, hb⟩
    have B24 := Lib.hid (chain B23.out hb)
    replace Rt := Lib.hid (Rt.out.below hb)
    replace Ru := Lib.hid (Ru.out.below hb)
    replace Ro := Lib.hid (Ro.out.below hb)
    replace Rp := Lib.hid (Rp.out.below hb)
    clear hb B23
    clear t0 t1 t2 tl
    have t0 := Rt.out.cell 0 (.int .u64 2) rfl
    have t1 := Rt.out.cell 1 (.int .u64 3) rfl
    have t2 := Rt.out.cell 2 (.int .u64 1) rfl
    have tl := Rt.out.lt
    clear u0 u1 u2 ul
    have u0 := Ru.out.cell 0 (.int .u64 1) rfl
    have u1 := Ru.out.cell 1 (.int .u64 1) rfl
    have u2 := Ru.out.cell 2 (.int .u64 11) rfl
    have ul := Ru.out.lt
    clear o0 o1 ol
    have o0 := Ro.out.cell 0 (.int .u64 3) rfl
    have o1 := Ro.out.cell 1 (.int .u64 4) rfl
    have ol := Ro.out.lt
    clear p0 p1 pl
    have p0 := Rp.out.cell 0 (.int .u64 6) rfl
    have p1 := Rp.out.cell 1 (.int .u64 4) rfl
    have pl := Rp.out.lt
    go_wp2_with fail
    refine (C5.out _).mono ?_
    rintro e w25 ⟨rfl, hb⟩
    have B25 := Lib.hid (chain B24.out hb)
    replace Rt := Lib.hid (Rt.out.below hb)
    replace Ru := Lib.hid (Ru.out.below hb)
    replace Ro := Lib.hid (Ro.out.below hb)
    replace Rp := Lib.hid (Rp.out.below hb)
    clear hb B24
    clear t0 t1 t2 tl
    have t0 := Rt.out.cell 0 (.int .u64 2) rfl
    have t1 := Rt.out.cell 1 (.int .u64 3) rfl
    have t2 := Rt.out.cell 2 (.int .u64 1) rfl
    have tl := Rt.out.lt
    clear u0 u1 u2 ul
    have u0 := Ru.out.cell 0 (.int .u64 1) rfl
    have u1 := Ru.out.cell 1 (.int .u64 1) rfl
    have u2 := Ru.out.cell 2 (.int .u64 11) rfl
    have ul := Ru.out.lt
    clear o0 o1 ol
    have o0 := Ro.out.cell 0 (.int .u64 3) rfl
    have o1 := Ro.out.cell 1 (.int .u64 4) rfl
    have ol := Ro.out.lt
    clear p0 p1 pl
    have p0 := Rp.out.cell 0 (.int .u64 6) rfl
    have p1 := Rp.out.cell 1 (.int .u64 4) rfl
    have pl := Rp.out.lt
    go_wp2_with fail
    have a1 : Rg ucells (List.foldl World.alloc w25 [.cells #[.int .u64 1, .int .u64 2] 23, .cells #[.int .u64 3] 23, .cells #[.int .u64 2, .int .u64 3, .int .u64 1, .int .u64 1, .int .u64 1, .int .u64 11] 37]) (some ⟨w25.heap.size + 0, 0, none⟩) [1, 2] := rg_block (tow_at [.cells #[.int .u64 1, .int .u64 2] 23, .cells #[.int .u64 3] 23, .cells #[.int .u64 2, .int .u64 3, .int .u64 1, .int .u64 1, .int .u64 1, .int .u64 11] 37] w25 0 _ rfl) (by kernel_rfl)
    have a2 : Rg ucells (List.foldl World.alloc w25 [.cells #[.int .u64 1, .int .u64 2] 23, .cells #[.int .u64 3] 23, .cells #[.int .u64 2, .int .u64 3, .int .u64 1, .int .u64 1, .int .u64 1, .int .u64 11] 37]) (some ⟨w25.heap.size + 1, 0, none⟩) [3] := rg_block (tow_at [.cells #[.int .u64 1, .int .u64 2] 23, .cells #[.int .u64 3] 23, .cells #[.int .u64 2, .int .u64 3, .int .u64 1, .int .u64 1, .int .u64 1, .int .u64 11] 37] w25 1 _ rfl) (by kernel_rfl)
    have a3 : Rg tpcells (List.foldl World.alloc w25 [.cells #[.int .u64 1, .int .u64 2] 23, .cells #[.int .u64 3] 23, .cells #[.int .u64 2, .int .u64 3, .int .u64 1, .int .u64 1, .int .u64 1, .int .u64 11] 37]) (some ⟨w25.heap.size + 2, 0, none⟩) [⟨2, 3, 1⟩, ⟨1, 1, 11⟩] := rg_block (tow_at [.cells #[.int .u64 1, .int .u64 2] 23, .cells #[.int .u64 3] 23, .cells #[.int .u64 2, .int .u64 3, .int .u64 1, .int .u64 1, .int .u64 1, .int .u64 11] 37] w25 2 _ rfl) (by kernel_rfl)
    have a4 := tow_below [.cells #[.int .u64 1, .int .u64 2] 23, .cells #[.int .u64 3] 23, .cells #[.int .u64 2, .int .u64 3, .int .u64 1, .int .u64 1, .int .u64 1, .int .u64 11] 37] w25
    simp only [List.foldl, Nat.add_zero] at a1 a2 a3 a4
    refine (opens12 _ _ _ _ _ _ 2 1 2 [1, 2] [3] [⟨2, 3, 1⟩, ⟨1, 1, 11⟩] _ a1 a2 a3 rfl rfl rfl (by decide)).mono ?_
    rintro e w26 ⟨Ag, kg, ng, rfl, h1, h2, hb, h4, h5⟩
    obtain rfl : ng = 1 := h1.trans h12a
    clear h1
    replace hb := chain a4 hb
    clear h2 h4 h5 a1 a2 a3 a4
    have B26 := Lib.hid (chain B25.out hb)
    replace Rt := Lib.hid (Rt.out.below hb)
    replace Ru := Lib.hid (Ru.out.below hb)
    replace Ro := Lib.hid (Ro.out.below hb)
    replace Rp := Lib.hid (Rp.out.below hb)
    clear hb B25
    clear t0 t1 t2 tl
    have t0 := Rt.out.cell 0 (.int .u64 2) rfl
    have t1 := Rt.out.cell 1 (.int .u64 3) rfl
    have t2 := Rt.out.cell 2 (.int .u64 1) rfl
    have tl := Rt.out.lt
    clear u0 u1 u2 ul
    have u0 := Ru.out.cell 0 (.int .u64 1) rfl
    have u1 := Ru.out.cell 1 (.int .u64 1) rfl
    have u2 := Ru.out.cell 2 (.int .u64 11) rfl
    have ul := Ru.out.lt
    clear o0 o1 ol
    have o0 := Ro.out.cell 0 (.int .u64 3) rfl
    have o1 := Ro.out.cell 1 (.int .u64 4) rfl
    have ol := Ro.out.lt
    clear p0 p1 pl
    have p0 := Rp.out.cell 0 (.int .u64 6) rfl
    have p1 := Rp.out.cell 1 (.int .u64 4) rfl
    have pl := Rp.out.lt
    go_wp2_with fail
    have a1 : Rg oncells (List.foldl World.alloc w26 [.cells #[.int .u64 6, .int .u64 4] 44, .cells #[.int .u64 1, .int .u64 1, .int .u64 11, .int .u64 2, .int .u64 3, .int .u64 1] 37]) (some ⟨w26.heap.size + 0, 0, none⟩) [⟨6, 4⟩] := rg_block (tow_at [.cells #[.int .u64 6, .int .u64 4] 44, .cells #[.int .u64 1, .int .u64 1, .int .u64 11, .int .u64 2, .int .u64 3, .int .u64 1] 37] w26 0 _ rfl) (by kernel_rfl)
    have a2 : Rg tpcells (List.foldl World.alloc w26 [.cells #[.int .u64 6, .int .u64 4] 44, .cells #[.int .u64 1, .int .u64 1, .int .u64 11, .int .u64 2, .int .u64 3, .int .u64 1] 37]) (some ⟨w26.heap.size + 1, 0, none⟩) [⟨1, 1, 11⟩, ⟨2, 3, 1⟩] := rg_block (tow_at [.cells #[.int .u64 6, .int .u64 4] 44, .cells #[.int .u64 1, .int .u64 1, .int .u64 11, .int .u64 2, .int .u64 3, .int .u64 1] 37] w26 1 _ rfl) (by kernel_rfl)
    have a4 := tow_below [.cells #[.int .u64 6, .int .u64 4] 44, .cells #[.int .u64 1, .int .u64 1, .int .u64 11, .int .u64 2, .int .u64 3, .int .u64 1] 37] w26
    simp only [List.foldl, Nat.add_zero] at a1 a2 a4
    refine (closes12 1 _ _ _ _ 1 2 [⟨6, 4⟩] [⟨1, 1, 11⟩, ⟨2, 3, 1⟩] _ a1 a2 rfl rfl (by decide)).mono ?_
    rintro e w27 ⟨Ah, kh, nh, rfl, h1, h2, hb, h4, h5⟩
    rw [h12b] at h1 h2
    obtain rfl : nh = 1 := h1
    have Rh := Lib.hid h2
    replace hb := chain a4 hb
    clear h2 h4 h5 a1 a2 a4
    have B27 := Lib.hid (chain B26.out hb)
    replace Rt := Lib.hid (Rt.out.below hb)
    replace Ru := Lib.hid (Ru.out.below hb)
    replace Ro := Lib.hid (Ro.out.below hb)
    replace Rp := Lib.hid (Rp.out.below hb)
    clear hb B26
    clear t0 t1 t2 tl
    have t0 := Rt.out.cell 0 (.int .u64 2) rfl
    have t1 := Rt.out.cell 1 (.int .u64 3) rfl
    have t2 := Rt.out.cell 2 (.int .u64 1) rfl
    have tl := Rt.out.lt
    clear u0 u1 u2 ul
    have u0 := Ru.out.cell 0 (.int .u64 1) rfl
    have u1 := Ru.out.cell 1 (.int .u64 1) rfl
    have u2 := Ru.out.cell 2 (.int .u64 11) rfl
    have ul := Ru.out.lt
    clear o0 o1 ol
    have o0 := Ro.out.cell 0 (.int .u64 3) rfl
    have o1 := Ro.out.cell 1 (.int .u64 4) rfl
    have ol := Ro.out.lt
    clear p0 p1 pl
    have p0 := Rp.out.cell 0 (.int .u64 6) rfl
    have p1 := Rp.out.cell 1 (.int .u64 4) rfl
    have pl := Rp.out.lt
    go_wp2_with fail
    refine (ssame Ah _ kh _ 1 1 [21] [21] _ (Rh.out.alloc _) (rg_block (heap_alloc_new w27 _) rfl) rfl rfl (by decide) rfl).mono ?_
    rintro e w28 ⟨rfl, hb⟩
    replace hb := chain (chain_alloc (Below.refl _ w27) _) hb
    have B28 := Lib.hid (chain B27.out hb)
    replace Rt := Lib.hid (Rt.out.below hb)
    replace Ru := Lib.hid (Ru.out.below hb)
    replace Ro := Lib.hid (Ro.out.below hb)
    replace Rp := Lib.hid (Rp.out.below hb)
    clear hb B27
    clear t0 t1 t2 tl
    have t0 := Rt.out.cell 0 (.int .u64 2) rfl
    have t1 := Rt.out.cell 1 (.int .u64 3) rfl
    have t2 := Rt.out.cell 2 (.int .u64 1) rfl
    have tl := Rt.out.lt
    clear u0 u1 u2 ul
    have u0 := Ru.out.cell 0 (.int .u64 1) rfl
    have u1 := Ru.out.cell 1 (.int .u64 1) rfl
    have u2 := Ru.out.cell 2 (.int .u64 11) rfl
    have ul := Ru.out.lt
    clear o0 o1 ol
    have o0 := Ro.out.cell 0 (.int .u64 3) rfl
    have o1 := Ro.out.cell 1 (.int .u64 4) rfl
    have ol := Ro.out.lt
    clear p0 p1 pl
    have p0 := Rp.out.cell 0 (.int .u64 6) rfl
    have p1 := Rp.out.cell 1 (.int .u64 4) rfl
    have pl := Rp.out.lt
    go_wp2_with fail
    go_ret
    exact ⟨rfl, B28.out⟩

end Go.Proofs.Ytggbhoanffdjbaa
