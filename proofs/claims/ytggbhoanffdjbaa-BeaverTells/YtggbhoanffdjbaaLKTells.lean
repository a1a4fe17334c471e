/-
  BeaverTells: what any numbers are opened as, summed up and closed to, with any triple, is the document's.
-/
import Derived.Test.YtggbhoanffdjbaaKHead
import Derived.Deep.RegionHeld3
namespace Go.Proofs.Ytggbhoanffdjbaa
open Go.RowKit Go

set_option maxHeartbeats 4000000 in
set_option maxRecDepth 100000 in
theorem law_ktells (x y : UInt64) (t : Tp) (o p : On) (a : Int) (w : World) :
    Calls Try.prog 6 #[.int .u64 (uz x), .int .u64 (uz y), tpv t, onv o, onv p, .int .i64 a] w fun e w' => e = .returned (.bool true) ∧ Below w.heap.size w w' := by
  obtain ⟨q, hq⟩ : ∃ q, q = openU x y t := ⟨_, rfl⟩
  obtain ⟨r, hr⟩ : ∃ r, r = sumO o p := ⟨_, rfl⟩
  obtain ⟨z, hz⟩ : ∃ z, z = closeU a o t := ⟨_, rfl⟩
  have C1 : Hid (∀ w, Calls Try.prog 43 #[.int .u64 (uz x), .int .u64 (uz y), .agg #[.int .u64 (uz t.a), .int .u64 (uz t.b), .int .u64 (uz t.c)]] w fun e w' => e = .returned (.agg #[.int .u64 (uz q.d), .int .u64 (uz q.e)]) ∧ Below w.heap.size w w') := fun w => by rw [hq]; exact open12 x y t w
  have C2 : Hid (∀ w, Calls Try.prog 45 #[.agg #[.int .u64 (uz o.d), .int .u64 (uz o.e)], .agg #[.int .u64 (uz p.d), .int .u64 (uz p.e)]] w fun e w' => e = .returned (.agg #[.int .u64 (uz r.d), .int .u64 (uz r.e)]) ∧ Below w.heap.size w w') := fun w => by rw [hr]; exact sum12 o p w
  have C3 : Hid (∀ w, Calls Try.prog 47 #[.int .i64 a, .agg #[.int .u64 (uz o.d), .int .u64 (uz o.e)], .agg #[.int .u64 (uz t.a), .int .u64 (uz t.b), .int .u64 (uz t.c)]] w fun e w' => e = .returned (.int .u64 (uz z)) ∧ Below w.heap.size w w') := fun w => by rw [hz]; exact close12 a o t w
  have C1r : Hid (∀ w, Calls Try.prog 44 #[.int .u64 (uz x), .int .u64 (uz y), .agg #[.int .u64 (uz t.a), .int .u64 (uz t.b), .int .u64 (uz t.c)]] w fun e w' => e = .returned (.agg #[.int .u64 (uz q.d), .int .u64 (uz q.e)]) ∧ Below w.heap.size w w') := fun w => by rw [hq]; exact ropen12 x y t w
  have C2r : Hid (∀ w, Calls Try.prog 46 #[.agg #[.int .u64 (uz o.d), .int .u64 (uz o.e)], .agg #[.int .u64 (uz p.d), .int .u64 (uz p.e)]] w fun e w' => e = .returned (.agg #[.int .u64 (uz r.d), .int .u64 (uz r.e)]) ∧ Below w.heap.size w w') := fun w => by rw [hr]; exact rsum12 o p w
  have C3r : Hid (∀ w, Calls Try.prog 48 #[.int .i64 a, .agg #[.int .u64 (uz o.d), .int .u64 (uz o.e)], .agg #[.int .u64 (uz t.a), .int .u64 (uz t.b), .int .u64 (uz t.c)]] w fun e w' => e = .returned (.int .u64 (uz z)) ∧ Below w.heap.size w w') := fun w => by rw [hz]; exact rclose12 a o t w
  have q1 := on_eq q
  have q2 := on_eq r
  clear hq hr hz
  unfold tpv onv
  go_enter Try.func6, Try.ntmps6
  go_wp2_with fail
  obtain ⟨E0, hE0⟩ : ∃ V, V = w.alloc (.cells #[.int .u64 (uz t.a), .int .u64 (uz t.b), .int .u64 (uz t.c)] 37) := ⟨_, rfl⟩
  have hs0 : E0.heap.size = w.heap.size + 1 := by rw [hE0]; simp
  obtain ⟨E1, hE1⟩ : ∃ V, V = E0.alloc (.cells #[.int .u64 (uz o.d), .int .u64 (uz o.e)] 44) := ⟨_, rfl⟩
  have hs1 : E1.heap.size = w.heap.size + 2 := by rw [hE1]; simp [hs0]
  obtain ⟨E2, hE2⟩ : ∃ V, V = E1.alloc (.cells #[.int .u64 (uz p.d), .int .u64 (uz p.e)] 44) := ⟨_, rfl⟩
  have hs2 : E2.heap.size = w.heap.size + 3 := by rw [hE2]; simp [hs1]
  have Rt : Hid (TC E0 (w.heap.size) t) := by
    have := TC.new w t
    rw [← hE0] at this
    exact this
  replace Rt : Hid (TC E1 (w.heap.size) t) := by
    have := Rt.out.below (w' := E1) (by rw [hE1]; exact chain_alloc (Below.refl _ _) _)
    exact this
  replace Rt : Hid (TC E2 (w.heap.size) t) := by
    have := Rt.out.below (w' := E2) (by rw [hE2]; exact chain_alloc (Below.refl _ _) _)
    exact this
  have Ro : Hid (OC E1 (w.heap.size + 1) o) := by
    have := OC.new E0 o
    rw [← hE1] at this
    rw [hs0] at this; exact this
  replace Ro : Hid (OC E2 (w.heap.size + 1) o) := by
    have := Ro.out.below (w' := E2) (by rw [hE2]; exact chain_alloc (Below.refl _ _) _)
    exact this
  have Rp : Hid (OC E2 (w.heap.size + 2) p) := by
    have := OC.new E1 p
    rw [← hE2] at this
    rw [hs1] at this; exact this
  have B1 : Hid (Below w.heap.size w E2) := by
    rw [hE2, hE1, hE0]
    exact chain_alloc (chain_alloc (chain_alloc (Below.refl _ w) _) _) _
  rw [← hE0, ← hE1, ← hE2]
  clear hE0 hs0 hE1 hs1 hE2 hs2
  obtain ⟨bkp, hB⟩ : ∃ b, b = w.heap.size + 2 := ⟨_, rfl⟩
  rw [← hB] at Rp ⊢
  clear hB
  obtain ⟨bko, hB⟩ : ∃ b, b = w.heap.size + 1 := ⟨_, rfl⟩
  rw [← hB] at Ro ⊢
  clear hB
  obtain ⟨bkt, hB⟩ : ∃ b, b = w.heap.size := ⟨_, rfl⟩
  rw [← hB] at Rt ⊢
  clear hB
  obtain ⟨w1, hV⟩ : ∃ V, V = E2 := ⟨_, rfl⟩
  rw [← hV] at B1 Rt Ro Rp ⊢
  clear hV
  obtain ⟨t0, t1, t2⟩ := Rt.out.cells
  have tl := Rt.out.lt
  obtain ⟨o0, o1⟩ := Ro.out.cells
  have ol := Ro.out.lt
  obtain ⟨p0, p1⟩ := Rp.out.cells
  have pl := Rp.out.lt
  refine (head12_any _).mono ?_
  rintro e w2 ⟨rfl, hb⟩
  have B2 := Lib.hid (chain B1.out hb)
  replace Rt := Lib.hid (Rt.out.below hb)
  replace Ro := Lib.hid (Ro.out.below hb)
  replace Rp := Lib.hid (Rp.out.below hb)
  clear hb B1
  clear t0 t1 t2 tl
  obtain ⟨t0, t1, t2⟩ := Rt.out.cells
  have tl := Rt.out.lt
  clear o0 o1 ol
  obtain ⟨o0, o1⟩ := Ro.out.cells
  have ol := Ro.out.lt
  clear p0 p1 pl
  obtain ⟨p0, p1⟩ := Rp.out.cells
  have pl := Rp.out.lt
  go_wp2_with fail
  refine wp_region_noPanic ?_
  refine wp_region_held_drew (S := fun w' => w'.cell? ⟨bkt, 0, none⟩ = some (.int .u64 (uz t.a)) ∧ w'.cell? ⟨bkt, 1, none⟩ = some (.int .u64 (uz t.b)) ∧ w'.cell? ⟨bkt, 2, none⟩ = some (.int .u64 (uz t.c)) ∧ w'.cell? ⟨bko, 0, none⟩ = some (.int .u64 (uz o.d)) ∧ w'.cell? ⟨bko, 1, none⟩ = some (.int .u64 (uz o.e)) ∧ w'.cell? ⟨bkp, 0, none⟩ = some (.int .u64 (uz p.d)) ∧ w'.cell? ⟨bkp, 1, none⟩ = some (.int .u64 (uz p.e))) (by kernel_rfl) ⟨t0, t1, t2, o0, o1, p0, p1⟩ (fun hHeld => ?_)
  have hb := below_drew w2
  have B3 := Lib.hid (chain B2.out hb)
  replace Rt := Lib.hid (Rt.out.below hb)
  replace Ro := Lib.hid (Ro.out.below hb)
  replace Rp := Lib.hid (Rp.out.below hb)
  clear hb B2
  clear t0 t1 t2 tl
  obtain ⟨t0, t1, t2⟩ := Rt.out.cells
  have tl := Rt.out.lt
  clear o0 o1 ol
  obtain ⟨o0, o1⟩ := Ro.out.cells
  have ol := Ro.out.lt
  clear p0 p1 pl
  obtain ⟨p0, p1⟩ := Rp.out.cells
  have pl := Rp.out.lt
  clear t0 t1 t2 tl
  clear o0 o1 ol
  clear p0 p1 pl
  generalize w2.drew = w3 at hHeld B3 Rt Ro Rp ⊢
  obtain ⟨t0, t1, t2⟩ := Rt.out.cells
  have tl := Rt.out.lt
  obtain ⟨o0, o1⟩ := Ro.out.cells
  have ol := Ro.out.lt
  obtain ⟨p0, p1⟩ := Rp.out.cells
  have pl := Rp.out.lt
  refine wpAnyH_take (i := 0) (v := ?vv1) (by simp only [List.getElem?_toArray, List.getElem?_cons_zero]; rfl) (by kernel_rfl) (by kernel_rfl) (by kernel_rfl) (fun _ _ _ h => h) (Or.inl ⟨by rfl, ?yy1⟩) (by assumption) ?rr1
  case yy1 => (intro w hSw; (try dsimp only at hSw); go_simp; first | done | with_reducible rfl)
  simp only [Act.put, List.setIfInBounds_toArray, List.set_cons_zero, List.set_cons_succ]
  refine wpAnyH_take (i := 1) (v := ?vv2) (by simp only [List.getElem?_toArray, List.getElem?_cons_zero, List.getElem?_cons_succ]; rfl) (by kernel_rfl) (by kernel_rfl) (by kernel_rfl) (fun _ _ _ h => h) (Or.inl ⟨by rfl, ?yy2⟩) (by assumption) ?rr2
  case yy2 => (intro w hSw; (try dsimp only at hSw); go_simp; first | done | with_reducible rfl)
  simp only [Act.put, List.setIfInBounds_toArray, List.set_cons_zero, List.set_cons_succ]
  refine wpAnyH_take (i := 2) (v := ?vv3) (by simp only [List.getElem?_toArray, List.getElem?_cons_zero, List.getElem?_cons_succ]; rfl) (by kernel_rfl) (by kernel_rfl) (by kernel_rfl) (fun _ _ _ h => h) (Or.inl ⟨by rfl, ?yy3⟩) (by assumption) ?rr3
  case yy3 => (intro w hSw; (try dsimp only at hSw); go_simp; first | done | with_reducible rfl)
  simp only [Act.put, List.setIfInBounds_toArray, List.set_cons_zero, List.set_cons_succ]
  refine wpAnyH_take (i := 3) (v := ?vv4) (by simp only [List.getElem?_toArray, List.getElem?_cons_zero, List.getElem?_cons_succ]; rfl) (by kernel_rfl) (by kernel_rfl) (by kernel_rfl) (fun _ _ _ h => h) (Or.inl ⟨by rfl, ?yy4⟩) (by assumption) ?rr4
  case yy4 => (intro w hSw; (try dsimp only at hSw); go_simp; first | done | with_reducible rfl)
  simp only [Act.put, List.setIfInBounds_toArray, List.set_cons_zero, List.set_cons_succ]
  refine wpAnyH_take (i := 4) (v := ?vv5) (by simp only [List.getElem?_toArray, List.getElem?_cons_zero, List.getElem?_cons_succ]; rfl) (by kernel_rfl) (by kernel_rfl) (by kernel_rfl) (fun _ _ _ h => h) (Or.inl ⟨by rfl, ?yy5⟩) (by assumption) ?rr5
  case yy5 => (intro w hSw; (try dsimp only at hSw); go_simp; first | done | with_reducible rfl)
  simp only [Act.put, List.setIfInBounds_toArray, List.set_cons_zero, List.set_cons_succ]
  refine wpAnyH_take (i := 6) (v := ?vv6) (by simp only [List.getElem?_toArray, List.getElem?_cons_zero, List.getElem?_cons_succ]; rfl) (by kernel_rfl) (by kernel_rfl) (by kernel_rfl) (fun _ _ _ h => h) (Or.inl ⟨by rfl, ?yy6⟩) (by assumption) ?rr6
  case yy6 => (intro w hSw; (try dsimp only at hSw); go_simp; first | done | with_reducible rfl)
  simp only [Act.put, List.setIfInBounds_toArray, List.set_cons_zero, List.set_cons_succ]
  refine wpAnyH_take (i := 7) (v := ?vv7) (by simp only [List.getElem?_toArray, List.getElem?_cons_zero, List.getElem?_cons_succ]; rfl) (by kernel_rfl) (by kernel_rfl) (by kernel_rfl) (fun _ _ _ h => h) (Or.inl ⟨by rfl, ?yy7⟩) (by assumption) ?rr7
  case yy7 => (intro w hSw; (try dsimp only at hSw); go_simp; first | done | with_reducible rfl)
  simp only [Act.put, List.setIfInBounds_toArray, List.set_cons_zero, List.set_cons_succ]
  refine wpAnyH_take (i := 8) (v := ?vv8) (by simp only [List.getElem?_toArray, List.getElem?_cons_zero, List.getElem?_cons_succ]; rfl) (by kernel_rfl) (by kernel_rfl) (by kernel_rfl) (fun _ _ _ h => h) (Or.inl ⟨by rfl, ?yy8⟩) (by assumption) ?rr8
  case yy8 => (intro w hSw; (try dsimp only at hSw); go_simp; first | done | with_reducible rfl)
  simp only [Act.put, List.setIfInBounds_toArray, List.set_cons_zero, List.set_cons_succ]
  refine wpAnyH_ready (rs := [5]) (by kernel_rfl) (by simp) ?_
  refine AllReadyH.cons (by simp only [List.getElem?_toArray, List.getElem?_cons_zero, List.getElem?_cons_succ]; rfl) (fun K hK => ?_) AllReadyH.nil
  go_simp
  go_at_call 43
  (with_reducible refine (C1.out _).mono ?_)
  rintro e w4 ⟨rfl, hb⟩
  clear hHeld
  have B4 := Lib.hid (chain B3.out hb)
  replace Rt := Lib.hid (Rt.out.below hb)
  replace Ro := Lib.hid (Ro.out.below hb)
  replace Rp := Lib.hid (Rp.out.below hb)
  clear hb B3
  clear t0 t1 t2 tl
  obtain ⟨t0, t1, t2⟩ := Rt.out.cells
  have tl := Rt.out.lt
  clear o0 o1 ol
  obtain ⟨o0, o1⟩ := Ro.out.cells
  have ol := Ro.out.lt
  clear p0 p1 pl
  obtain ⟨p0, p1⟩ := Rp.out.cells
  have pl := Rp.out.lt
  go_wp2_with fail
  refine hK.out _ _ ⟨t0, t1, t2, o0, o1, p0, p1⟩ (fun hHeld => ?_)
  clear hK K
  try simp only [Act.put, List.setIfInBounds_toArray, List.set_cons_zero, List.set_cons_succ]
  refine wpAnyH_ready (rs := [9]) (by kernel_rfl) (by simp) ?_
  refine AllReadyH.cons (by simp only [List.getElem?_toArray, List.getElem?_cons_zero, List.getElem?_cons_succ]; rfl) (fun K hK => ?_) AllReadyH.nil
  go_simp
  go_at_call 44
  (with_reducible refine (C1r.out _).mono ?_)
  rintro e w5 ⟨rfl, hb⟩
  clear hHeld
  have B5 := Lib.hid (chain B4.out hb)
  replace Rt := Lib.hid (Rt.out.below hb)
  replace Ro := Lib.hid (Ro.out.below hb)
  replace Rp := Lib.hid (Rp.out.below hb)
  clear hb B4
  clear t0 t1 t2 tl
  obtain ⟨t0, t1, t2⟩ := Rt.out.cells
  have tl := Rt.out.lt
  clear o0 o1 ol
  obtain ⟨o0, o1⟩ := Ro.out.cells
  have ol := Ro.out.lt
  clear p0 p1 pl
  obtain ⟨p0, p1⟩ := Rp.out.cells
  have pl := Rp.out.lt
  go_wp2_with fail
  refine hK.out _ _ ⟨t0, t1, t2, o0, o1, p0, p1⟩ (fun hHeld => ?_)
  clear hK K
  try simp only [Act.put, List.setIfInBounds_toArray, List.set_cons_zero, List.set_cons_succ]
  refine wpAnyH_take (i := 10) (v := ?vv9) (by simp only [List.getElem?_toArray, List.getElem?_cons_zero, List.getElem?_cons_succ]; rfl) (by kernel_rfl) (by kernel_rfl) (by kernel_rfl) (fun _ _ _ h => h) (Or.inl ⟨by rfl, ?yy9⟩) (by assumption) ?rr9
  case yy9 => (intro w hSw; (try dsimp only at hSw); go_simp; first | done | with_reducible rfl)
  simp only [Act.put, List.setIfInBounds_toArray, List.set_cons_zero, List.set_cons_succ]
  refine wpAnyH_take (i := 11) (v := ?vv10) (by simp only [List.getElem?_toArray, List.getElem?_cons_zero, List.getElem?_cons_succ]; rfl) (by kernel_rfl) (by kernel_rfl) (by kernel_rfl) (fun _ _ _ h => h) (Or.inl ⟨by rfl, ?yy10⟩) (by assumption) ?rr10
  case yy10 => (intro w hSw; (try dsimp only at hSw); go_simp; first | done | with_reducible rfl)
  simp only [Act.put, List.setIfInBounds_toArray, List.set_cons_zero, List.set_cons_succ]
  refine wpAnyH_take (i := 12) (v := ?vv11) (by simp only [List.getElem?_toArray, List.getElem?_cons_zero, List.getElem?_cons_succ]; rfl) (by kernel_rfl) (by kernel_rfl) (by kernel_rfl) (fun _ _ _ h => h) (Or.inl ⟨by rfl, ?yy11⟩) (by assumption) ?rr11
  case yy11 => (intro w hSw; (try dsimp only at hSw); go_simp; first | done | with_reducible rfl)
  simp only [Act.put, List.setIfInBounds_toArray, List.set_cons_zero, List.set_cons_succ]
  refine wpAnyH_take (i := 13) (v := ?vv12) (by simp only [List.getElem?_toArray, List.getElem?_cons_zero, List.getElem?_cons_succ]; rfl) (by kernel_rfl) (by kernel_rfl) (by kernel_rfl) (fun _ _ _ h => h) (Or.inl ⟨by rfl, ?yy12⟩) (by assumption) ?rr12
  case yy12 => (intro w hSw; (try dsimp only at hSw); go_simp; first | done | with_reducible rfl)
  simp only [Act.put, List.setIfInBounds_toArray, List.set_cons_zero, List.set_cons_succ]
  refine wpAnyH_take (i := 14) (v := ?vv13) (by simp only [List.getElem?_toArray, List.getElem?_cons_zero, List.getElem?_cons_succ]; rfl) (by kernel_rfl) (by kernel_rfl) (by kernel_rfl) (fun _ _ _ h => h) (Or.inl ⟨by rfl, ?yy13⟩) (by assumption) ?rr13
  case yy13 => (intro w hSw; (try dsimp only at hSw); go_simp; first | done | with_reducible rfl)
  simp only [Act.put, List.setIfInBounds_toArray, List.set_cons_zero, List.set_cons_succ]
  refine wpAnyH_take (i := 16) (v := ?vv14) (by simp only [List.getElem?_toArray, List.getElem?_cons_zero, List.getElem?_cons_succ]; rfl) (by kernel_rfl) (by kernel_rfl) (by kernel_rfl) (fun _ _ _ h => h) (Or.inl ⟨by rfl, ?yy14⟩) (by assumption) ?rr14
  case yy14 => (intro w hSw; (try dsimp only at hSw); go_simp; first | done | with_reducible rfl)
  simp only [Act.put, List.setIfInBounds_toArray, List.set_cons_zero, List.set_cons_succ]
  refine wpAnyH_take (i := 17) (v := ?vv15) (by simp only [List.getElem?_toArray, List.getElem?_cons_zero, List.getElem?_cons_succ]; rfl) (by kernel_rfl) (by kernel_rfl) (by kernel_rfl) (fun _ _ _ h => h) (Or.inl ⟨by rfl, ?yy15⟩) (by assumption) ?rr15
  case yy15 => (intro w hSw; (try dsimp only at hSw); go_simp; first | done | with_reducible rfl)
  simp only [Act.put, List.setIfInBounds_toArray, List.set_cons_zero, List.set_cons_succ]
  refine wpAnyH_ready (rs := [15]) (by kernel_rfl) (by simp) ?_
  refine AllReadyH.cons (by simp only [List.getElem?_toArray, List.getElem?_cons_zero, List.getElem?_cons_succ]; rfl) (fun K hK => ?_) AllReadyH.nil
  go_simp
  go_at_call 45
  (with_reducible refine (C2.out _).mono ?_)
  rintro e w6 ⟨rfl, hb⟩
  clear hHeld
  have B6 := Lib.hid (chain B5.out hb)
  replace Rt := Lib.hid (Rt.out.below hb)
  replace Ro := Lib.hid (Ro.out.below hb)
  replace Rp := Lib.hid (Rp.out.below hb)
  clear hb B5
  clear t0 t1 t2 tl
  obtain ⟨t0, t1, t2⟩ := Rt.out.cells
  have tl := Rt.out.lt
  clear o0 o1 ol
  obtain ⟨o0, o1⟩ := Ro.out.cells
  have ol := Ro.out.lt
  clear p0 p1 pl
  obtain ⟨p0, p1⟩ := Rp.out.cells
  have pl := Rp.out.lt
  go_wp2_with fail
  refine hK.out _ _ ⟨t0, t1, t2, o0, o1, p0, p1⟩ (fun hHeld => ?_)
  clear hK K
  try simp only [Act.put, List.setIfInBounds_toArray, List.set_cons_zero, List.set_cons_succ]
  refine wpAnyH_ready (rs := [18]) (by kernel_rfl) (by simp) ?_
  refine AllReadyH.cons (by simp only [List.getElem?_toArray, List.getElem?_cons_zero, List.getElem?_cons_succ]; rfl) (fun K hK => ?_) AllReadyH.nil
  go_simp
  go_at_call 46
  (with_reducible refine (C2r.out _).mono ?_)
  rintro e w7 ⟨rfl, hb⟩
  clear hHeld
  have B7 := Lib.hid (chain B6.out hb)
  replace Rt := Lib.hid (Rt.out.below hb)
  replace Ro := Lib.hid (Ro.out.below hb)
  replace Rp := Lib.hid (Rp.out.below hb)
  clear hb B6
  clear t0 t1 t2 tl
  obtain ⟨t0, t1, t2⟩ := Rt.out.cells
  have tl := Rt.out.lt
  clear o0 o1 ol
  obtain ⟨o0, o1⟩ := Ro.out.cells
  have ol := Ro.out.lt
  clear p0 p1 pl
  obtain ⟨p0, p1⟩ := Rp.out.cells
  have pl := Rp.out.lt
  go_wp2_with fail
  refine hK.out _ _ ⟨t0, t1, t2, o0, o1, p0, p1⟩ (fun hHeld => ?_)
  clear hK K
  try simp only [Act.put, List.setIfInBounds_toArray, List.set_cons_zero, List.set_cons_succ]
  refine wpAnyH_take (i := 19) (v := ?vv16) (by simp only [List.getElem?_toArray, List.getElem?_cons_zero, List.getElem?_cons_succ]; rfl) (by kernel_rfl) (by kernel_rfl) (by kernel_rfl) (fun _ _ _ h => h) (Or.inl ⟨by rfl, ?yy16⟩) (by assumption) ?rr16
  case yy16 => (intro w hSw; (try dsimp only at hSw); go_simp; first | done | with_reducible rfl)
  simp only [Act.put, List.setIfInBounds_toArray, List.set_cons_zero, List.set_cons_succ]
  refine wpAnyH_take (i := 20) (v := ?vv17) (by simp only [List.getElem?_toArray, List.getElem?_cons_zero, List.getElem?_cons_succ]; rfl) (by kernel_rfl) (by kernel_rfl) (by kernel_rfl) (fun _ _ _ h => h) (Or.inl ⟨by rfl, ?yy17⟩) (by assumption) ?rr17
  case yy17 => (intro w hSw; (try dsimp only at hSw); go_simp; first | done | with_reducible rfl)
  simp only [Act.put, List.setIfInBounds_toArray, List.set_cons_zero, List.set_cons_succ]
  refine wpAnyH_take (i := 21) (v := ?vv18) (by simp only [List.getElem?_toArray, List.getElem?_cons_zero, List.getElem?_cons_succ]; rfl) (by kernel_rfl) (by kernel_rfl) (by kernel_rfl) (fun _ _ _ h => h) (Or.inl ⟨by rfl, ?yy18⟩) (by assumption) ?rr18
  case yy18 => (intro w hSw; (try dsimp only at hSw); go_simp; first | done | with_reducible rfl)
  simp only [Act.put, List.setIfInBounds_toArray, List.set_cons_zero, List.set_cons_succ]
  refine wpAnyH_take (i := 22) (v := ?vv19) (by simp only [List.getElem?_toArray, List.getElem?_cons_zero, List.getElem?_cons_succ]; rfl) (by kernel_rfl) (by kernel_rfl) (by kernel_rfl) (fun _ _ _ h => h) (Or.inl ⟨by rfl, ?yy19⟩) (by assumption) ?rr19
  case yy19 => (intro w hSw; (try dsimp only at hSw); go_simp; first | done | with_reducible rfl)
  simp only [Act.put, List.setIfInBounds_toArray, List.set_cons_zero, List.set_cons_succ]
  refine wpAnyH_take (i := 23) (v := ?vv20) (by simp only [List.getElem?_toArray, List.getElem?_cons_zero, List.getElem?_cons_succ]; rfl) (by kernel_rfl) (by kernel_rfl) (by kernel_rfl) (fun _ _ _ h => h) (Or.inl ⟨by rfl, ?yy20⟩) (by assumption) ?rr20
  case yy20 => (intro w hSw; (try dsimp only at hSw); go_simp; first | done | with_reducible rfl)
  simp only [Act.put, List.setIfInBounds_toArray, List.set_cons_zero, List.set_cons_succ]
  refine wpAnyH_take (i := 24) (v := ?vv21) (by simp only [List.getElem?_toArray, List.getElem?_cons_zero, List.getElem?_cons_succ]; rfl) (by kernel_rfl) (by kernel_rfl) (by kernel_rfl) (fun _ _ _ h => h) (Or.inl ⟨by rfl, ?yy21⟩) (by assumption) ?rr21
  case yy21 => (intro w hSw; (try dsimp only at hSw); go_simp; first | done | with_reducible rfl)
  simp only [Act.put, List.setIfInBounds_toArray, List.set_cons_zero, List.set_cons_succ]
  refine wpAnyH_take (i := 26) (v := ?vv22) (by simp only [List.getElem?_toArray, List.getElem?_cons_zero, List.getElem?_cons_succ]; rfl) (by kernel_rfl) (by kernel_rfl) (by kernel_rfl) (fun _ _ _ h => h) (Or.inl ⟨by rfl, ?yy22⟩) (by assumption) ?rr22
  case yy22 => (intro w hSw; (try dsimp only at hSw); go_simp; first | done | with_reducible rfl)
  simp only [Act.put, List.setIfInBounds_toArray, List.set_cons_zero, List.set_cons_succ]
  refine wpAnyH_take (i := 27) (v := ?vv23) (by simp only [List.getElem?_toArray, List.getElem?_cons_zero, List.getElem?_cons_succ]; rfl) (by kernel_rfl) (by kernel_rfl) (by kernel_rfl) (fun _ _ _ h => h) (Or.inl ⟨by rfl, ?yy23⟩) (by assumption) ?rr23
  case yy23 => (intro w hSw; (try dsimp only at hSw); go_simp; first | done | with_reducible rfl)
  simp only [Act.put, List.setIfInBounds_toArray, List.set_cons_zero, List.set_cons_succ]
  refine wpAnyH_take (i := 28) (v := ?vv24) (by simp only [List.getElem?_toArray, List.getElem?_cons_zero, List.getElem?_cons_succ]; rfl) (by kernel_rfl) (by kernel_rfl) (by kernel_rfl) (fun _ _ _ h => h) (Or.inl ⟨by rfl, ?yy24⟩) (by assumption) ?rr24
  case yy24 => (intro w hSw; (try dsimp only at hSw); go_simp; first | done | with_reducible rfl)
  simp only [Act.put, List.setIfInBounds_toArray, List.set_cons_zero, List.set_cons_succ]
  refine wpAnyH_ready (rs := [25]) (by kernel_rfl) (by simp) ?_
  refine AllReadyH.cons (by simp only [List.getElem?_toArray, List.getElem?_cons_zero, List.getElem?_cons_succ]; rfl) (fun K hK => ?_) AllReadyH.nil
  go_simp
  go_at_call 47
  (with_reducible refine (C3.out _).mono ?_)
  rintro e w8 ⟨rfl, hb⟩
  clear hHeld
  have B8 := Lib.hid (chain B7.out hb)
  replace Rt := Lib.hid (Rt.out.below hb)
  replace Ro := Lib.hid (Ro.out.below hb)
  replace Rp := Lib.hid (Rp.out.below hb)
  clear hb B7
  clear t0 t1 t2 tl
  obtain ⟨t0, t1, t2⟩ := Rt.out.cells
  have tl := Rt.out.lt
  clear o0 o1 ol
  obtain ⟨o0, o1⟩ := Ro.out.cells
  have ol := Ro.out.lt
  clear p0 p1 pl
  obtain ⟨p0, p1⟩ := Rp.out.cells
  have pl := Rp.out.lt
  go_wp2_with fail
  refine hK.out _ _ ⟨t0, t1, t2, o0, o1, p0, p1⟩ (fun hHeld => ?_)
  clear hK K
  try simp only [Act.put, List.setIfInBounds_toArray, List.set_cons_zero, List.set_cons_succ]
  refine wpAnyH_ready (rs := [29]) (by kernel_rfl) (by simp) ?_
  refine AllReadyH.cons (by simp only [List.getElem?_toArray, List.getElem?_cons_zero, List.getElem?_cons_succ]; rfl) (fun K hK => ?_) AllReadyH.nil
  go_simp
  go_at_call 48
  (with_reducible refine (C3r.out _).mono ?_)
  rintro e w9 ⟨rfl, hb⟩
  clear hHeld
  have B9 := Lib.hid (chain B8.out hb)
  replace Rt := Lib.hid (Rt.out.below hb)
  replace Ro := Lib.hid (Ro.out.below hb)
  replace Rp := Lib.hid (Rp.out.below hb)
  clear hb B8
  clear t0 t1 t2 tl
  obtain ⟨t0, t1, t2⟩ := Rt.out.cells
  have tl := Rt.out.lt
  clear o0 o1 ol
  obtain ⟨o0, o1⟩ := Ro.out.cells
  have ol := Ro.out.lt
  clear p0 p1 pl
  obtain ⟨p0, p1⟩ := Rp.out.cells
  have pl := Rp.out.lt
  go_wp2_with fail
  refine hK.out _ _ ⟨t0, t1, t2, o0, o1, p0, p1⟩ (fun hHeld => ?_)
  clear hK K
  try simp only [Act.put, List.setIfInBounds_toArray, List.set_cons_zero, List.set_cons_succ]
  refine wpAnyH_take (i := 30) (v := ?vv25) (by simp only [List.getElem?_toArray, List.getElem?_cons_zero, List.getElem?_cons_succ]; rfl) (by kernel_rfl) (by kernel_rfl) (by kernel_rfl) (fun _ _ _ h => h) (Or.inl ⟨by rfl, ?yy25⟩) (by assumption) ?rr25
  case yy25 => (intro w hSw; (try dsimp only at hSw); go_simp; first | done | with_reducible rfl)
  simp only [Act.put, List.setIfInBounds_toArray, List.set_cons_zero, List.set_cons_succ]
  refine wpAnyH_take (i := 31) (v := ?vv26) (by simp only [List.getElem?_toArray, List.getElem?_cons_zero, List.getElem?_cons_succ]; rfl) (by kernel_rfl) (by kernel_rfl) (by kernel_rfl) (fun _ _ _ h => h) (Or.inl ⟨by rfl, ?yy26⟩) (by assumption) ?rr26
  case yy26 => (intro w hSw; (try dsimp only at hSw); go_simp; first | done | with_reducible rfl)
  simp only [Act.put, List.setIfInBounds_toArray, List.set_cons_zero, List.set_cons_succ]
  refine wpAnyH_take (i := 32) (v := ?vv27) (by simp only [List.getElem?_toArray, List.getElem?_cons_zero, List.getElem?_cons_succ]; rfl) (by kernel_rfl) (by kernel_rfl) (by kernel_rfl) (fun _ _ _ h => h) (Or.inl ⟨by rfl, ?yy27⟩) (by assumption) ?rr27
  case yy27 => (intro w hSw; (try dsimp only at hSw); go_simp; first | done | with_reducible rfl)
  simp only [Act.put, List.setIfInBounds_toArray, List.set_cons_zero, List.set_cons_succ]
  refine wpAnyH_done (by kernel_rfl) ?_ _
  refine NoPanic.normal ?_
  go_wp2_with fail
  go_ret
  exact ⟨rfl, B9.out⟩

end Go.Proofs.Ytggbhoanffdjbaa
