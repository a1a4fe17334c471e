/-
  SectorTells: whether any sector is right, its bytes, and what any bytes are, are the document's.
-/
import Derived.Test.YtjokaaekliapmaaDoorQHead
namespace Go.Proofs.YtjokaaekliapmaaDoor
open Go.RowKit

set_option maxHeartbeats 8000000 in
set_option maxRecDepth 100000 in
theorem law_qtells (gs ps ts ks : Int) (As : Option Addr) (cs ns : Nat) (xs : List UInt8) (Ab : Option Addr) (cb nb : Nat) (xb : List UInt8) (w : World) (hT : Wd w) (hs : Rg bcells w As xs) (ls : ns = xs.length) (qs : ns ≤ cs) (hb : Rg bcells w Ab xb) (lb : nb = xb.length) (qb : nb ≤ cb) :
    Calls Tryd.prog 3 #[.agg #[.int .i64 gs, .int .i64 ps, .int .i64 ts, .int .i64 ks, .slice As ns cs], .slice Ab nb cb] w fun e w' => e = .returned (.bool true) ∧ Below w.heap.size w w' := by
  have HT := Lib.hid hT
  clear hT
  have Rs := Lib.hid hs; have Ms := Lib.hid ls; have Ks := Lib.hid qs
  clear hs ls qs
  have Rb := Lib.hid hb; have Mb := Lib.hid lb; have Kb := Lib.hid qb
  clear hb lb qb
  by_cases g0 : 900 < ns
  · skip
    have d0 : decide (900 < (ns : Int)) = true := decide_eq_true (by omega)
    clear g0
    go_enter Tryd.func3, Tryd.ntmps3
    go_wp2_with fail
    have hqs := QB.new (w) ⟨gs, ps, ts, ks, xs⟩ As ns cs
    dsimp only at hqs
    have hb := chain_alloc (Below.refl _ w) (.cells #[.int .i64 gs, .int .i64 ps, .int .i64 ts, .int .i64 ks, .slice As ns cs] 24)
    obtain ⟨zs, hzs⟩ : ∃ z, z = w.heap.size := ⟨_, rfl⟩
    rw [← hzs] at hqs ⊢
    generalize (w).alloc (.cells #[.int .i64 gs, .int .i64 ps, .int .i64 ts, .int .i64 ks, .slice As ns cs] 24) = w1 at hb hqs ⊢
    have Rzs := Lib.hid hqs
    clear hqs hzs
    have B1 := Lib.hid hb
    replace Rs := Lib.hid (Rs.out.below hb)
    replace Rb := Lib.hid (Rb.out.below hb)
    clear hb
    refine (head16_any _).mono ?_
    rintro e w2 ⟨rfl, hb⟩
    have B2 := Lib.hid (chain B1.out hb)
    replace Rs := Lib.hid (Rs.out.below hb)
    replace Rb := Lib.hid (Rb.out.below hb)
    replace Rzs := Lib.hid (Rzs.out.below hb)
    clear hb B1
    obtain ⟨zs0, zs1, zs2, zs3, zs4⟩ := Rzs.out.cells
    have zsl := Rzs.out.lt
    try dsimp only at zs0 zs1 zs2 zs3 zs4
    go_wp2_with fail
    go_ret
    exact ⟨rfl, B2.out⟩
  have d0 : decide (900 < (ns : Int)) = false := decide_eq_false (by omega)
  by_cases g1 : 900 < nb
  · skip
    have d1 : decide (900 < (nb : Int)) = true := decide_eq_true (by omega)
    clear g0 g1
    go_enter Tryd.func3, Tryd.ntmps3
    go_wp2_with fail
    have hqs := QB.new (w) ⟨gs, ps, ts, ks, xs⟩ As ns cs
    dsimp only at hqs
    have hb := chain_alloc (Below.refl _ w) (.cells #[.int .i64 gs, .int .i64 ps, .int .i64 ts, .int .i64 ks, .slice As ns cs] 24)
    obtain ⟨zs, hzs⟩ : ∃ z, z = w.heap.size := ⟨_, rfl⟩
    rw [← hzs] at hqs ⊢
    generalize (w).alloc (.cells #[.int .i64 gs, .int .i64 ps, .int .i64 ts, .int .i64 ks, .slice As ns cs] 24) = w1 at hb hqs ⊢
    have Rzs := Lib.hid hqs
    clear hqs hzs
    have B1 := Lib.hid hb
    replace Rs := Lib.hid (Rs.out.below hb)
    replace Rb := Lib.hid (Rb.out.below hb)
    clear hb
    refine (head16_any _).mono ?_
    rintro e w2 ⟨rfl, hb⟩
    have B2 := Lib.hid (chain B1.out hb)
    replace Rs := Lib.hid (Rs.out.below hb)
    replace Rb := Lib.hid (Rb.out.below hb)
    replace Rzs := Lib.hid (Rzs.out.below hb)
    clear hb B1
    obtain ⟨zs0, zs1, zs2, zs3, zs4⟩ := Rzs.out.cells
    have zsl := Rzs.out.lt
    try dsimp only at zs0 zs1 zs2 zs3 zs4
    go_wp2_with fail
    go_ret
    exact ⟨rfl, B2.out⟩
  have d1 : decide (900 < (nb : Int)) = false := decide_eq_false (by omega)
  have b9 : nb ≤ 1000000 := by omega
  clear g0 g1
  have CRs : Hid (∀ w, Calls Tryd.prog 12 #[secv ⟨gs, ps, ts, ks, xs⟩ As ns cs] w fun e w' => e = .returned (.bool (rightQ ⟨gs, ps, ts, ks, xs⟩)) ∧ Below w.heap.size w w') := fun w => right16 ⟨gs, ps, ts, ks, xs⟩ As ns cs w Ms.out
  have CPs : Hid (∀ w, Rg bcells w As xs → Wd w → Calls Tryd.prog 14 #[secv ⟨gs, ps, ts, ks, xs⟩ As ns cs] w (BOwn (putQ ⟨gs, ps, ts, ks, xs⟩) w)) := fun w h t => put16 ⟨gs, ps, ts, ks, xs⟩ As ns cs w Ms.out h t
  unfold secv at CRs CPs
  dsimp only at CRs CPs
  have DR : Hid (∀ w, Calls Tryd.prog 13 #[secv ⟨gs, ps, ts, ks, xs⟩ As ns cs] w fun e w' => e = .returned (.bool (rightQ ⟨gs, ps, ts, ks, xs⟩)) ∧ Below w.heap.size w w') := fun w => rright16 ⟨gs, ps, ts, ks, xs⟩ As ns cs w Ms.out
  have DP : Hid (∀ w, Rg bcells w As xs → Calls Tryd.prog 15 #[secv ⟨gs, ps, ts, ks, xs⟩ As ns cs] w (BOwn (putQ ⟨gs, ps, ts, ks, xs⟩) w)) := fun w h => rput16 ⟨gs, ps, ts, ks, xs⟩ As ns cs w Ms.out h
  unfold secv at DR DP
  dsimp only at DR DP
  obtain ⟨r, hr⟩ : ∃ r, r = rightQ ⟨gs, ps, ts, ks, xs⟩ := ⟨_, rfl⟩
  obtain ⟨L, hL⟩ : ∃ L, L = putQ ⟨gs, ps, ts, ks, xs⟩ := ⟨_, rfl⟩
  obtain ⟨S, hS⟩ : ∃ S, S = getQ xb := ⟨_, rfl⟩
  obtain ⟨ok, hok⟩ : ∃ ok, ok = okQ xb := ⟨_, rfl⟩
  rw [← hr] at CRs DR
  rw [← hL] at CPs DP
  have C1 : Hid (∀ w', Rg bcells w' Ab xb → Wd w' → Calls Tryd.prog 10 #[.slice Ab nb cb] w' (QTo xb w')) := fun w' h t => get16 Ab cb nb xb w' h Mb.out Kb.out b9 t
  have C2 : Hid (∀ w', Rg bcells w' Ab xb → Calls Tryd.prog 11 #[.slice Ab nb cb] w' (QTo xb w')) := fun w' h => rget16 Ab cb nb xb w' h Mb.out Kb.out b9
  unfold QTo at C1 C2
  rw [← hS, ← hok] at C1 C2
  obtain ⟨gx, px, tt0, kx0, xx⟩ := S
  unfold secv at C1 C2
  dsimp only at C1 C2
  have rr : (r == r) = true := by simp
  have oo : (ok == ok) = true := by simp
  have ll : ((tx L).toList == (tx L).toList) = true := by simp
  have LM : Hid (L.length ≤ 64) := by show L.length ≤ 64; rw [hL]; exact putq_max _
  clear hr hL hS hok
  go_enter Tryd.func3, Tryd.ntmps3
  go_wp2_with fail
  have hqs := QB.new (w) ⟨gs, ps, ts, ks, xs⟩ As ns cs
  dsimp only at hqs
  have hb := chain_alloc (Below.refl _ w) (.cells #[.int .i64 gs, .int .i64 ps, .int .i64 ts, .int .i64 ks, .slice As ns cs] 24)
  obtain ⟨zs, hzs⟩ : ∃ z, z = w.heap.size := ⟨_, rfl⟩
  rw [← hzs] at hqs ⊢
  generalize (w).alloc (.cells #[.int .i64 gs, .int .i64 ps, .int .i64 ts, .int .i64 ks, .slice As ns cs] 24) = w1 at hb hqs ⊢
  have Rzs := Lib.hid hqs
  clear hqs hzs
  have B1 := Lib.hid hb
  replace Rs := Lib.hid (Rs.out.below hb)
  replace Rb := Lib.hid (Rb.out.below hb)
  clear hb
  refine (head16_any _).mono ?_
  rintro e w2 ⟨rfl, hb⟩
  have B2 := Lib.hid (chain B1.out hb)
  replace Rs := Lib.hid (Rs.out.below hb)
  replace Rb := Lib.hid (Rb.out.below hb)
  replace Rzs := Lib.hid (Rzs.out.below hb)
  clear hb B1
  obtain ⟨zs0, zs1, zs2, zs3, zs4⟩ := Rzs.out.cells
  have zsl := Rzs.out.lt
  try dsimp only at zs0 zs1 zs2 zs3 zs4
  go_wp2_with fail
  refine (C1.out _ Rb.out (by first | assumption | exact Hid.out (by assumption) | exact Wd.below (Hid.out (by assumption)) (Hid.out (by assumption)) | exact Wd.below (by assumption) (Hid.out (by assumption)))).mono ?_
  rintro e w3 ⟨Ax, kx, nx, rfl, h1, h2, hb, h4, _⟩
  have Mx := Lib.hid h1; have Rx := Lib.hid h2; have Kx := Lib.hid h4
  clear h1 h2 h4
  clear zs0 zs1 zs2 zs3 zs4 zsl
  have B3 := Lib.hid (chain B2.out hb)
  replace Rs := Lib.hid (Rs.out.below hb)
  replace Rb := Lib.hid (Rb.out.below hb)
  replace Rzs := Lib.hid (Rzs.out.below hb)
  clear hb B2
  obtain ⟨zs0, zs1, zs2, zs3, zs4⟩ := Rzs.out.cells
  have zsl := Rzs.out.lt
  try dsimp only at zs0 zs1 zs2 zs3 zs4
  clear zs0 zs1 zs2 zs3 zs4 zsl
  obtain ⟨w4, hw4⟩ : ∃ W, W = (w3).alloc (.cells #[.int .i64 gx, .int .i64 px, .int .i64 tt0, .int .i64 kx0, .slice Ax nx kx] 24) := ⟨_, rfl⟩
  have hq : QB w4 (w3).heap.size ⟨gx, px, tt0, kx0, xx⟩ Ax nx kx := by rw [hw4]; exact QB.new (w3) ⟨gx, px, tt0, kx0, xx⟩ Ax nx kx
  have hb : Below (w3).heap.size (w3) w4 := by rw [hw4]; exact chain_alloc (Below.refl _ _) _
  obtain ⟨zx, hzx⟩ : ∃ z, z = (w3).heap.size := ⟨_, rfl⟩
  rw [← hzx] at hq
  have Rzx := Lib.hid hq
  clear hq
  have B4 := Lib.hid (chain B3.out hb)
  replace Rs := Lib.hid (Rs.out.below hb)
  replace Rb := Lib.hid (Rb.out.below hb)
  replace Rzs := Lib.hid (Rzs.out.below hb)
  replace Rx := Lib.hid (Rx.out.below hb)
  clear hb B3
  obtain ⟨zs0, zs1, zs2, zs3, zs4⟩ := Rzs.out.cells
  have zsl := Rzs.out.lt
  try dsimp only at zs0 zs1 zs2 zs3 zs4
  obtain ⟨zx0, zx1, zx2, zx3, zx4⟩ := Rzx.out.cells
  have zxl := Rzx.out.lt
  try dsimp only at zx0 zx1 zx2 zx3 zx4
  subst hw4
  subst hzx
  go_wp2_with fail
  refine (C2.out _ Rb.out).mono ?_
  rintro e w5 ⟨Ay, ky, ny, rfl, h1, h2, hb, h4, _⟩
  have My := Lib.hid h1; have Ry := Lib.hid h2; have Ky := Lib.hid h4
  clear h1 h2 h4
  clear zs0 zs1 zs2 zs3 zs4 zsl zx0 zx1 zx2 zx3 zx4 zxl
  have B5 := Lib.hid (chain B4.out hb)
  replace Rs := Lib.hid (Rs.out.below hb)
  replace Rb := Lib.hid (Rb.out.below hb)
  replace Rzs := Lib.hid (Rzs.out.below hb)
  replace Rx := Lib.hid (Rx.out.below hb)
  replace Rzx := Lib.hid (Rzx.out.below hb)
  clear hb B4
  obtain ⟨zs0, zs1, zs2, zs3, zs4⟩ := Rzs.out.cells
  have zsl := Rzs.out.lt
  try dsimp only at zs0 zs1 zs2 zs3 zs4
  obtain ⟨zx0, zx1, zx2, zx3, zx4⟩ := Rzx.out.cells
  have zxl := Rzx.out.lt
  try dsimp only at zx0 zx1 zx2 zx3 zx4
  clear zs0 zs1 zs2 zs3 zs4 zsl zx0 zx1 zx2 zx3 zx4 zxl
  obtain ⟨w6, hw6⟩ : ∃ W, W = (w5).alloc (.cells #[.int .i64 gx, .int .i64 px, .int .i64 tt0, .int .i64 kx0, .slice Ay ny ky] 24) := ⟨_, rfl⟩
  have hq : QB w6 (w5).heap.size ⟨gx, px, tt0, kx0, xx⟩ Ay ny ky := by rw [hw6]; exact QB.new (w5) ⟨gx, px, tt0, kx0, xx⟩ Ay ny ky
  have hb : Below (w5).heap.size (w5) w6 := by rw [hw6]; exact chain_alloc (Below.refl _ _) _
  obtain ⟨zy, hzy⟩ : ∃ z, z = (w5).heap.size := ⟨_, rfl⟩
  rw [← hzy] at hq
  have Rzy := Lib.hid hq
  clear hq
  have B6 := Lib.hid (chain B5.out hb)
  replace Rs := Lib.hid (Rs.out.below hb)
  replace Rb := Lib.hid (Rb.out.below hb)
  replace Rzs := Lib.hid (Rzs.out.below hb)
  replace Rx := Lib.hid (Rx.out.below hb)
  replace Rzx := Lib.hid (Rzx.out.below hb)
  replace Ry := Lib.hid (Ry.out.below hb)
  clear hb B5
  obtain ⟨zs0, zs1, zs2, zs3, zs4⟩ := Rzs.out.cells
  have zsl := Rzs.out.lt
  try dsimp only at zs0 zs1 zs2 zs3 zs4
  obtain ⟨zx0, zx1, zx2, zx3, zx4⟩ := Rzx.out.cells
  have zxl := Rzx.out.lt
  try dsimp only at zx0 zx1 zx2 zx3 zx4
  obtain ⟨zy0, zy1, zy2, zy3, zy4⟩ := Rzy.out.cells
  have zyl := Rzy.out.lt
  try dsimp only at zy0 zy1 zy2 zy3 zy4
  subst hw6
  subst hzy
  have CS : Hid (∀ w, Rg bcells w Ax xx → Rg bcells w Ay xx → Calls Tryd.prog 16 #[.agg #[.int .i64 gx, .int .i64 px, .int .i64 tt0, .int .i64 kx0, .slice Ax nx kx], .agg #[.int .i64 gx, .int .i64 px, .int .i64 tt0, .int .i64 kx0, .slice Ay ny ky]] w fun e w' => e = .returned (.bool true) ∧ Below w.heap.size w w') := fun w h1 h2 => rsame16 ⟨gx, px, tt0, kx0, xx⟩ Ax Ay nx kx ny ky w Mx.out My.out h1 h2
  go_wp2_with fail
  clear zs0 zs1 zs2 zs3 zs4 zsl zx0 zx1 zx2 zx3 zx4 zxl zy0 zy1 zy2 zy3 zy4 zyl
  refine wp_region_noPanic ?_
  refine wp_region_held_drew (S := fun w' => Below (((w5).alloc (.cells #[.int .i64 gx, .int .i64 px, .int .i64 tt0, .int .i64 kx0, .slice Ay ny ky] 24))).drew.heap.size (((w5).alloc (.cells #[.int .i64 gx, .int .i64 px, .int .i64 tt0, .int .i64 kx0, .slice Ay ny ky] 24))).drew w') (by kernel_rfl) (Below.refl _ _) (fun hHeld => ?_)
  have hb := below_drew (((w5).alloc (.cells #[.int .i64 gx, .int .i64 px, .int .i64 tt0, .int .i64 kx0, .slice Ay ny ky] 24)))
  generalize (((w5).alloc (.cells #[.int .i64 gx, .int .i64 px, .int .i64 tt0, .int .i64 kx0, .slice Ay ny ky] 24))).drew = w7 at hb hHeld ⊢
  have B7 := Lib.hid (chain B6.out hb)
  replace Rs := Lib.hid (Rs.out.below hb)
  replace Rb := Lib.hid (Rb.out.below hb)
  replace Rzs := Lib.hid (Rzs.out.below hb)
  replace Rx := Lib.hid (Rx.out.below hb)
  replace Rzx := Lib.hid (Rzx.out.below hb)
  replace Ry := Lib.hid (Ry.out.below hb)
  replace Rzy := Lib.hid (Rzy.out.below hb)
  clear hb B6
  clear hHeld
  have hHeld : Below w7.heap.size w7 w7 := Below.refl _ _
  refine wpAnyH_take (i := 0) (v := ?vv37) (by simp only [List.getElem?_toArray, List.getElem?_cons_zero]; rfl) (by kernel_rfl) (by kernel_rfl) (by kernel_rfl) (fun _ _ _ h => h) (Or.inl ⟨by rfl, ?yy37⟩) (by assumption) ?rr37
  case yy37 => (intro w' hSw; go_simp; first | done | with_reducible rfl)
  simp only [Act.put, List.setIfInBounds_toArray, List.set_cons_zero, List.set_cons_succ]
  refine wpAnyH_take (i := 1) (v := ?vv38) (by simp only [List.getElem?_toArray, List.getElem?_cons_zero, List.getElem?_cons_succ]; rfl) (by kernel_rfl) (by kernel_rfl) (by kernel_rfl) (fun _ _ _ h => h) (Or.inl ⟨by rfl, ?yy38⟩) (by assumption) ?rr38
  case yy38 => (intro w' hSw; go_simp; first | done | with_reducible rfl)
  simp only [Act.put, List.setIfInBounds_toArray, List.set_cons_zero, List.set_cons_succ]
  refine wpAnyH_take (i := 2) (v := ?vv39) (by simp only [List.getElem?_toArray, List.getElem?_cons_zero, List.getElem?_cons_succ]; rfl) (by kernel_rfl) (by kernel_rfl) (by kernel_rfl) (fun _ _ _ h => h) (Or.inl ⟨by rfl, ?yy39⟩) (by assumption) ?rr39
  case yy39 => (intro w' hSw; obtain ⟨zs0, zs1, zs2, zs3, zs4⟩ := (Rzs.out.below hSw).cells; (try dsimp only at zs0 zs1 zs2 zs3 zs4); obtain ⟨zx0, zx1, zx2, zx3, zx4⟩ := (Rzx.out.below hSw).cells; (try dsimp only at zx0 zx1 zx2 zx3 zx4); obtain ⟨zy0, zy1, zy2, zy3, zy4⟩ := (Rzy.out.below hSw).cells; (try dsimp only at zy0 zy1 zy2 zy3 zy4); go_simp; first | done | with_reducible rfl)
  simp only [Act.put, List.setIfInBounds_toArray, List.set_cons_zero, List.set_cons_succ]
  refine wpAnyH_take (i := 4) (v := ?vv40) (by simp only [List.getElem?_toArray, List.getElem?_cons_zero, List.getElem?_cons_succ]; rfl) (by kernel_rfl) (by kernel_rfl) (by kernel_rfl) (fun _ _ _ h => h) (Or.inl ⟨by rfl, ?yy40⟩) (by assumption) ?rr40
  case yy40 => (intro w' hSw; obtain ⟨zs0, zs1, zs2, zs3, zs4⟩ := (Rzs.out.below hSw).cells; (try dsimp only at zs0 zs1 zs2 zs3 zs4); obtain ⟨zx0, zx1, zx2, zx3, zx4⟩ := (Rzx.out.below hSw).cells; (try dsimp only at zx0 zx1 zx2 zx3 zx4); obtain ⟨zy0, zy1, zy2, zy3, zy4⟩ := (Rzy.out.below hSw).cells; (try dsimp only at zy0 zy1 zy2 zy3 zy4); go_simp; first | done | with_reducible rfl)
  simp only [Act.put, List.setIfInBounds_toArray, List.set_cons_zero, List.set_cons_succ]
  refine wpAnyH_ready (rs := [3]) (by kernel_rfl) (by simp) ?_
  refine AllReadyH.cons (by simp only [List.getElem?_toArray, List.getElem?_cons_zero, List.getElem?_cons_succ]; rfl) (fun K hK => ?_) AllReadyH.nil
  go_simp
  go_at_call 12
  (with_reducible refine (CRs.out _).mono ?_)
  rintro e w8 ⟨rfl, hb⟩
  have hb0 := hb
  go_wp2_with fail
  refine hK.out _ _ hb0 (fun hHeld => ?_)
  clear hK K hHeld
  refine wpAnyH_more (S' := fun w' => Below w8.heap.size w8 w') (fun _ h => chain hb0 h) _ _ _ _ ?_
  clear hb0
  have hHeld : Below w8.heap.size w8 w8 := Below.refl _ _
  try simp only [Act.put, List.setIfInBounds_toArray, List.set_cons_zero, List.set_cons_succ]
  have B8 := Lib.hid (chain B7.out hb)
  replace Rs := Lib.hid (Rs.out.below hb)
  replace Rb := Lib.hid (Rb.out.below hb)
  replace Rzs := Lib.hid (Rzs.out.below hb)
  replace Rx := Lib.hid (Rx.out.below hb)
  replace Rzx := Lib.hid (Rzx.out.below hb)
  replace Ry := Lib.hid (Ry.out.below hb)
  replace Rzy := Lib.hid (Rzy.out.below hb)
  clear hb B7
  refine wpAnyH_ready (rs := [5]) (by kernel_rfl) (by simp) ?_
  refine AllReadyH.cons (by simp only [List.getElem?_toArray, List.getElem?_cons_zero, List.getElem?_cons_succ]; rfl) (fun K hK => ?_) AllReadyH.nil
  go_simp
  go_at_call 13
  (with_reducible refine (DR.out _).mono ?_)
  rintro e w9 ⟨rfl, hb⟩
  have hb0 := hb
  go_wp2_with fail
  refine hK.out _ _ hb0 (fun hHeld => ?_)
  clear hK K hHeld
  refine wpAnyH_more (S' := fun w' => Below w9.heap.size w9 w') (fun _ h => chain hb0 h) _ _ _ _ ?_
  clear hb0
  have hHeld : Below w9.heap.size w9 w9 := Below.refl _ _
  try simp only [Act.put, List.setIfInBounds_toArray, List.set_cons_zero, List.set_cons_succ]
  have B9 := Lib.hid (chain B8.out hb)
  replace Rs := Lib.hid (Rs.out.below hb)
  replace Rb := Lib.hid (Rb.out.below hb)
  replace Rzs := Lib.hid (Rzs.out.below hb)
  replace Rx := Lib.hid (Rx.out.below hb)
  replace Rzx := Lib.hid (Rzx.out.below hb)
  replace Ry := Lib.hid (Ry.out.below hb)
  replace Rzy := Lib.hid (Rzy.out.below hb)
  clear hb B8
  refine wpAnyH_take (i := 6) (v := ?vv41) (by simp only [List.getElem?_toArray, List.getElem?_cons_zero, List.getElem?_cons_succ]; rfl) (by kernel_rfl) (by kernel_rfl) (by kernel_rfl) (fun _ _ _ h => h) (Or.inl ⟨by rfl, ?yy41⟩) (by assumption) ?rr41
  case yy41 => (intro w' hSw; go_simp; first | done | with_reducible rfl)
  simp only [Act.put, List.setIfInBounds_toArray, List.set_cons_zero, List.set_cons_succ]
  refine wpAnyH_take (i := 7) (v := ?vv42) (by simp only [List.getElem?_toArray, List.getElem?_cons_zero, List.getElem?_cons_succ]; rfl) (by kernel_rfl) (by kernel_rfl) (by kernel_rfl) (fun _ _ _ h => h) (Or.inl ⟨by rfl, ?yy42⟩) (by assumption) ?rr42
  case yy42 => (intro w' hSw; go_simp; first | done | with_reducible rfl)
  simp only [Act.put, List.setIfInBounds_toArray, List.set_cons_zero, List.set_cons_succ]
  refine wpAnyH_take (i := 8) (v := ?vv43) (by simp only [List.getElem?_toArray, List.getElem?_cons_zero, List.getElem?_cons_succ]; rfl) (by kernel_rfl) (by kernel_rfl) (by kernel_rfl) (fun _ _ _ h => h) (Or.inl ⟨by rfl, ?yy43⟩) (by assumption) ?rr43
  case yy43 => (intro w' hSw; go_simp; first | done | with_reducible rfl)
  simp only [Act.put, List.setIfInBounds_toArray, List.set_cons_zero, List.set_cons_succ]
  refine wpAnyH_take (i := 9) (v := ?vv44) (by simp only [List.getElem?_toArray, List.getElem?_cons_zero, List.getElem?_cons_succ]; rfl) (by kernel_rfl) (by kernel_rfl) (by kernel_rfl) (fun _ _ _ h => h) (Or.inl ⟨by rfl, ?yy44⟩) (by assumption) ?rr44
  case yy44 => (intro w' hSw; obtain ⟨zs0, zs1, zs2, zs3, zs4⟩ := (Rzs.out.below hSw).cells; (try dsimp only at zs0 zs1 zs2 zs3 zs4); obtain ⟨zx0, zx1, zx2, zx3, zx4⟩ := (Rzx.out.below hSw).cells; (try dsimp only at zx0 zx1 zx2 zx3 zx4); obtain ⟨zy0, zy1, zy2, zy3, zy4⟩ := (Rzy.out.below hSw).cells; (try dsimp only at zy0 zy1 zy2 zy3 zy4); go_simp; first | done | with_reducible rfl)
  simp only [Act.put, List.setIfInBounds_toArray, List.set_cons_zero, List.set_cons_succ]
  refine wpAnyH_take (i := 12) (v := ?vv45) (by simp only [List.getElem?_toArray, List.getElem?_cons_zero, List.getElem?_cons_succ]; rfl) (by kernel_rfl) (by kernel_rfl) (by kernel_rfl) (fun _ _ _ h => h) (Or.inl ⟨by rfl, ?yy45⟩) (by assumption) ?rr45
  case yy45 => (intro w' hSw; obtain ⟨zs0, zs1, zs2, zs3, zs4⟩ := (Rzs.out.below hSw).cells; (try dsimp only at zs0 zs1 zs2 zs3 zs4); obtain ⟨zx0, zx1, zx2, zx3, zx4⟩ := (Rzx.out.below hSw).cells; (try dsimp only at zx0 zx1 zx2 zx3 zx4); obtain ⟨zy0, zy1, zy2, zy3, zy4⟩ := (Rzy.out.below hSw).cells; (try dsimp only at zy0 zy1 zy2 zy3 zy4); go_simp; first | done | with_reducible rfl)
  simp only [Act.put, List.setIfInBounds_toArray, List.set_cons_zero, List.set_cons_succ]
  refine wpAnyH_ready (rs := [10]) (by kernel_rfl) (by simp) ?_
  refine AllReadyH.cons (by simp only [List.getElem?_toArray, List.getElem?_cons_zero, List.getElem?_cons_succ]; rfl) (fun K hK => ?_) AllReadyH.nil
  go_simp
  go_at_call 14
  (with_reducible refine (CPs.out _ Rs.out (by first | assumption | exact Hid.out (by assumption) | exact Wd.below (Hid.out (by assumption)) (Hid.out (by assumption)) | exact Wd.below (by assumption) (Hid.out (by assumption)))).mono ?_)
  rintro e w10 ⟨v, rfl, ho, hb⟩
  obtain ⟨np, hnp⟩ : ∃ n, n = L.length := ⟨_, rfl⟩
  rw [← hnp] at ho
  obtain ⟨Ap, kp, rfl, yq, rq, y8, y7⟩ := own_cap bcells_len (by decide) ho
  have Rp := Lib.hid rq
  have Mp := Lib.hid hnp
  clear ho yq rq y8 y7 hnp
  have hb0 := hb
  go_wp2_with fail
  refine hK.out _ _ hb0 (fun hHeld => ?_)
  clear hK K hHeld
  refine wpAnyH_more (S' := fun w' => Below w10.heap.size w10 w') (fun _ h => chain hb0 h) _ _ _ _ ?_
  clear hb0
  have hHeld : Below w10.heap.size w10 w10 := Below.refl _ _
  try simp only [Act.put, List.setIfInBounds_toArray, List.set_cons_zero, List.set_cons_succ]
  have B10 := Lib.hid (chain B9.out hb)
  replace Rs := Lib.hid (Rs.out.below hb)
  replace Rb := Lib.hid (Rb.out.below hb)
  replace Rzs := Lib.hid (Rzs.out.below hb)
  replace Rx := Lib.hid (Rx.out.below hb)
  replace Rzx := Lib.hid (Rzx.out.below hb)
  replace Ry := Lib.hid (Ry.out.below hb)
  replace Rzy := Lib.hid (Rzy.out.below hb)
  clear hb B9
  refine wpAnyH_take (i := 11) (v := ?vv46) (by simp only [List.getElem?_toArray, List.getElem?_cons_zero, List.getElem?_cons_succ]; rfl) (by kernel_rfl) (by kernel_rfl) (by kernel_rfl) (fun _ _ _ h => h) (Or.inl ⟨by rfl, ?yy46⟩) (by assumption) ?rr46
  case yy46 => (intro w' hSw; have tp := text_of (c := kp) (Rp.out.below hSw) Mp.out; go_simp; first | done | with_reducible rfl)
  simp only [Act.put, List.setIfInBounds_toArray, List.set_cons_zero, List.set_cons_succ]
  refine wpAnyH_ready (rs := [13]) (by kernel_rfl) (by simp) ?_
  refine AllReadyH.cons (by simp only [List.getElem?_toArray, List.getElem?_cons_zero, List.getElem?_cons_succ]; rfl) (fun K hK => ?_) AllReadyH.nil
  go_simp
  go_at_call 15
  (with_reducible refine (DP.out _ Rs.out).mono ?_)
  rintro e w11 ⟨v, rfl, ho, hb⟩
  obtain ⟨nq, hnq⟩ : ∃ n, n = L.length := ⟨_, rfl⟩
  rw [← hnq] at ho
  obtain ⟨Aq, kq, rfl, yq, rq, y8, y7⟩ := own_cap bcells_len (by decide) ho
  have Rq := Lib.hid rq
  have Mq := Lib.hid hnq
  clear ho yq rq y8 y7 hnq
  have hb0 := hb
  go_wp2_with fail
  refine hK.out _ _ hb0 (fun hHeld => ?_)
  clear hK K hHeld
  refine wpAnyH_more (S' := fun w' => Below w11.heap.size w11 w') (fun _ h => chain hb0 h) _ _ _ _ ?_
  clear hb0
  have hHeld : Below w11.heap.size w11 w11 := Below.refl _ _
  try simp only [Act.put, List.setIfInBounds_toArray, List.set_cons_zero, List.set_cons_succ]
  have B11 := Lib.hid (chain B10.out hb)
  replace Rs := Lib.hid (Rs.out.below hb)
  replace Rb := Lib.hid (Rb.out.below hb)
  replace Rzs := Lib.hid (Rzs.out.below hb)
  replace Rx := Lib.hid (Rx.out.below hb)
  replace Rzx := Lib.hid (Rzx.out.below hb)
  replace Ry := Lib.hid (Ry.out.below hb)
  replace Rzy := Lib.hid (Rzy.out.below hb)
  replace Rp := Lib.hid (Rp.out.below hb)
  clear hb B10
  refine wpAnyH_take (i := 14) (v := ?vv47) (by simp only [List.getElem?_toArray, List.getElem?_cons_zero, List.getElem?_cons_succ]; rfl) (by kernel_rfl) (by kernel_rfl) (by kernel_rfl) (fun _ _ _ h => h) (Or.inl ⟨by rfl, ?yy47⟩) (by assumption) ?rr47
  case yy47 => (intro w' hSw; have tp := text_of (c := kp) (Rp.out.below hSw) Mp.out; have tq := text_of (c := kq) (Rq.out.below hSw) Mq.out; go_simp; first | done | with_reducible rfl)
  simp only [Act.put, List.setIfInBounds_toArray, List.set_cons_zero, List.set_cons_succ]
  refine wpAnyH_take (i := 15) (v := ?vv48) (by simp only [List.getElem?_toArray, List.getElem?_cons_zero, List.getElem?_cons_succ]; rfl) (by kernel_rfl) (by kernel_rfl) (by kernel_rfl) (fun _ _ _ h => h) (Or.inl ⟨by rfl, ?yy48⟩) (by assumption) ?rr48
  case yy48 => (intro w' hSw; go_simp; first | done | with_reducible rfl)
  simp only [Act.put, List.setIfInBounds_toArray, List.set_cons_zero, List.set_cons_succ]
  refine wpAnyH_take (i := 16) (v := ?vv49) (by simp only [List.getElem?_toArray, List.getElem?_cons_zero, List.getElem?_cons_succ]; rfl) (by kernel_rfl) (by kernel_rfl) (by kernel_rfl) (fun _ _ _ h => h) (Or.inl ⟨by rfl, ?yy49⟩) (by assumption) ?rr49
  case yy49 => (intro w' hSw; go_simp; first | done | with_reducible rfl)
  simp only [Act.put, List.setIfInBounds_toArray, List.set_cons_zero, List.set_cons_succ]
  refine wpAnyH_take (i := 17) (v := ?vv50) (by simp only [List.getElem?_toArray, List.getElem?_cons_zero, List.getElem?_cons_succ]; rfl) (by kernel_rfl) (by kernel_rfl) (by kernel_rfl) (fun _ _ _ h => h) (Or.inl ⟨by rfl, ?yy50⟩) (by assumption) ?rr50
  case yy50 => (intro w' hSw; go_simp; first | done | with_reducible rfl)
  simp only [Act.put, List.setIfInBounds_toArray, List.set_cons_zero, List.set_cons_succ]
  refine wpAnyH_take (i := 18) (v := ?vv51) (by simp only [List.getElem?_toArray, List.getElem?_cons_zero, List.getElem?_cons_succ]; rfl) (by kernel_rfl) (by kernel_rfl) (by kernel_rfl) (fun _ _ _ h => h) (Or.inl ⟨by rfl, ?yy51⟩) (by assumption) ?rr51
  case yy51 => (intro w' hSw; obtain ⟨zs0, zs1, zs2, zs3, zs4⟩ := (Rzs.out.below hSw).cells; (try dsimp only at zs0 zs1 zs2 zs3 zs4); obtain ⟨zx0, zx1, zx2, zx3, zx4⟩ := (Rzx.out.below hSw).cells; (try dsimp only at zx0 zx1 zx2 zx3 zx4); obtain ⟨zy0, zy1, zy2, zy3, zy4⟩ := (Rzy.out.below hSw).cells; (try dsimp only at zy0 zy1 zy2 zy3 zy4); go_simp; first | done | with_reducible rfl)
  simp only [Act.put, List.setIfInBounds_toArray, List.set_cons_zero, List.set_cons_succ]
  refine wpAnyH_take (i := 19) (v := ?vv52) (by simp only [List.getElem?_toArray, List.getElem?_cons_zero, List.getElem?_cons_succ]; rfl) (by kernel_rfl) (by kernel_rfl) (by kernel_rfl) (fun _ _ _ h => h) (Or.inl ⟨by rfl, ?yy52⟩) (by assumption) ?rr52
  case yy52 => (intro w' hSw; obtain ⟨zs0, zs1, zs2, zs3, zs4⟩ := (Rzs.out.below hSw).cells; (try dsimp only at zs0 zs1 zs2 zs3 zs4); obtain ⟨zx0, zx1, zx2, zx3, zx4⟩ := (Rzx.out.below hSw).cells; (try dsimp only at zx0 zx1 zx2 zx3 zx4); obtain ⟨zy0, zy1, zy2, zy3, zy4⟩ := (Rzy.out.below hSw).cells; (try dsimp only at zy0 zy1 zy2 zy3 zy4); go_simp; first | done | with_reducible rfl)
  simp only [Act.put, List.setIfInBounds_toArray, List.set_cons_zero, List.set_cons_succ]
  refine wpAnyH_ready (rs := [20]) (by kernel_rfl) (by simp) ?_
  refine AllReadyH.cons (by simp only [List.getElem?_toArray, List.getElem?_cons_zero, List.getElem?_cons_succ]; rfl) (fun K hK => ?_) AllReadyH.nil
  go_simp
  go_at_call 16
  (with_reducible refine (CS.out _ Rx.out Ry.out).mono ?_)
  rintro e w12 ⟨rfl, hb⟩
  have hb0 := hb
  go_wp2_with fail
  refine hK.out _ _ hb0 (fun hHeld => ?_)
  clear hK K hHeld
  refine wpAnyH_more (S' := fun w' => Below w12.heap.size w12 w') (fun _ h => chain hb0 h) _ _ _ _ ?_
  clear hb0
  have hHeld : Below w12.heap.size w12 w12 := Below.refl _ _
  try simp only [Act.put, List.setIfInBounds_toArray, List.set_cons_zero, List.set_cons_succ]
  have B12 := Lib.hid (chain B11.out hb)
  replace Rs := Lib.hid (Rs.out.below hb)
  replace Rb := Lib.hid (Rb.out.below hb)
  replace Rzs := Lib.hid (Rzs.out.below hb)
  replace Rx := Lib.hid (Rx.out.below hb)
  replace Rzx := Lib.hid (Rzx.out.below hb)
  replace Ry := Lib.hid (Ry.out.below hb)
  replace Rzy := Lib.hid (Rzy.out.below hb)
  replace Rp := Lib.hid (Rp.out.below hb)
  replace Rq := Lib.hid (Rq.out.below hb)
  clear hb B11
  refine wpAnyH_take (i := 21) (v := ?vv53) (by simp only [List.getElem?_toArray, List.getElem?_cons_zero, List.getElem?_cons_succ]; rfl) (by kernel_rfl) (by kernel_rfl) (by kernel_rfl) (fun _ _ _ h => h) (Or.inl ⟨by rfl, ?yy53⟩) (by assumption) ?rr53
  case yy53 => (intro w' hSw; go_simp; first | done | with_reducible rfl)
  simp only [Act.put, List.setIfInBounds_toArray, List.set_cons_zero, List.set_cons_succ]
  refine wpAnyH_take (i := 22) (v := ?vv54) (by simp only [List.getElem?_toArray, List.getElem?_cons_zero, List.getElem?_cons_succ]; rfl) (by kernel_rfl) (by kernel_rfl) (by kernel_rfl) (fun _ _ _ h => h) (Or.inl ⟨by rfl, ?yy54⟩) (by assumption) ?rr54
  case yy54 => (intro w' hSw; go_simp; first | done | with_reducible rfl)
  simp only [Act.put, List.setIfInBounds_toArray, List.set_cons_zero, List.set_cons_succ]
  refine wpAnyH_take (i := 23) (v := ?vv55) (by simp only [List.getElem?_toArray, List.getElem?_cons_zero, List.getElem?_cons_succ]; rfl) (by kernel_rfl) (by kernel_rfl) (by kernel_rfl) (fun _ _ _ h => h) (Or.inl ⟨by rfl, ?yy55⟩) (by assumption) ?rr55
  case yy55 => (intro w' hSw; go_simp; first | done | with_reducible rfl)
  simp only [Act.put, List.setIfInBounds_toArray, List.set_cons_zero, List.set_cons_succ]
  refine wpAnyH_take (i := 24) (v := ?vv56) (by simp only [List.getElem?_toArray, List.getElem?_cons_zero, List.getElem?_cons_succ]; rfl) (by kernel_rfl) (by kernel_rfl) (by kernel_rfl) (fun _ _ _ h => h) (Or.inl ⟨by rfl, ?yy56⟩) (by assumption) ?rr56
  case yy56 => (intro w' hSw; go_simp; first | done | with_reducible rfl)
  simp only [Act.put, List.setIfInBounds_toArray, List.set_cons_zero, List.set_cons_succ]
  refine wpAnyH_take (i := 25) (v := ?vv57) (by simp only [List.getElem?_toArray, List.getElem?_cons_zero, List.getElem?_cons_succ]; rfl) (by kernel_rfl) (by kernel_rfl) (by kernel_rfl) (fun _ _ _ h => h) (Or.inl ⟨by rfl, ?yy57⟩) (by assumption) ?rr57
  case yy57 => (intro w' hSw; go_simp; first | done | with_reducible rfl)
  simp only [Act.put, List.setIfInBounds_toArray, List.set_cons_zero, List.set_cons_succ]
  refine wpAnyH_take (i := 26) (v := ?vv58) (by simp only [List.getElem?_toArray, List.getElem?_cons_zero, List.getElem?_cons_succ]; rfl) (by kernel_rfl) (by kernel_rfl) (by kernel_rfl) (fun _ _ _ h => h) (Or.inl ⟨by rfl, ?yy58⟩) (by assumption) ?rr58
  case yy58 => (intro w' hSw; go_simp; first | done | with_reducible rfl)
  simp only [Act.put, List.setIfInBounds_toArray, List.set_cons_zero, List.set_cons_succ]
  refine wpAnyH_take (i := 27) (v := ?vv59) (by simp only [List.getElem?_toArray, List.getElem?_cons_zero, List.getElem?_cons_succ]; rfl) (by kernel_rfl) (by kernel_rfl) (by kernel_rfl) (fun _ _ _ h => h) (Or.inl ⟨by rfl, ?yy59⟩) (by assumption) ?rr59
  case yy59 => (intro w' hSw; go_simp; first | done | with_reducible rfl)
  simp only [Act.put, List.setIfInBounds_toArray, List.set_cons_zero, List.set_cons_succ]
  refine wpAnyH_done (by kernel_rfl) ?_ _
  refine NoPanic.normal ?_
  clear hHeld
  have tp := text_of (c := kp) Rp.out Mp.out
  have tq := text_of (c := kq) Rq.out Mq.out
  obtain ⟨zs0, zs1, zs2, zs3, zs4⟩ := Rzs.out.cells
  have zsl := Rzs.out.lt
  try dsimp only at zs0 zs1 zs2 zs3 zs4
  obtain ⟨zx0, zx1, zx2, zx3, zx4⟩ := Rzx.out.cells
  have zxl := Rzx.out.lt
  try dsimp only at zx0 zx1 zx2 zx3 zx4
  obtain ⟨zy0, zy1, zy2, zy3, zy4⟩ := Rzy.out.cells
  have zyl := Rzy.out.lt
  try dsimp only at zy0 zy1 zy2 zy3 zy4
  go_wp2_with fail
  go_ret
  exact ⟨rfl, B12.out⟩

end Go.Proofs.YtjokaaekliapmaaDoor
