/-
  BeaverAny: with any triple, right or not, it is the product, and as much more as the triple's third number is above the product of the others.
-/
import Derived.Test.YtggbhoanffdjbaaKHead
import Derived.Deep.RegionHeld3
import Derived.Deep.DeepCutAuto
namespace Go.Proofs.Ytggbhoanffdjbaa
open Go.RowKit Go

set_option maxHeartbeats 4000000 in
set_option maxRecDepth 100000 in
theorem law_kany (x u y v : UInt64) (ts tt : Tp) (w : World) :
    Calls Try.prog 8 #[.int .u64 (uz x), .int .u64 (uz u), .int .u64 (uz y), .int .u64 (uz v), tpv ts, tpv tt] w fun e w' => e = .returned (.bool true) ∧ Below w.heap.size w w' := by
  obtain ⟨p, hp⟩ : ∃ p, p = openU x y ts := ⟨_, rfl⟩
  obtain ⟨q, hq⟩ : ∃ q, q = openU u v tt := ⟨_, rfl⟩
  obtain ⟨o, ho⟩ : ∃ o, o = sumO p q := ⟨_, rfl⟩
  obtain ⟨c, hc⟩ : ∃ c, c = closeU 0 o ts := ⟨_, rfl⟩
  obtain ⟨d, hd⟩ : ∃ d, d = closeU 1 o tt := ⟨_, rfl⟩
  have E : c + d = (x + u) * (y + v) + (ts.c + tt.c - (ts.a + tt.a) * (ts.b + tt.b)) := by rw [hc, hd, ho, hp, hq]; exact close_any x u y v ts tt
  have C1 : Hid (∀ w, Calls Try.prog 43 #[.int .u64 (uz x), .int .u64 (uz y), .agg #[.int .u64 (uz ts.a), .int .u64 (uz ts.b), .int .u64 (uz ts.c)]] w fun e w' => e = .returned (.agg #[.int .u64 (uz p.d), .int .u64 (uz p.e)]) ∧ Below w.heap.size w w') := fun w => by rw [hp]; exact open12 x y ts w
  have C2 : Hid (∀ w, Calls Try.prog 43 #[.int .u64 (uz u), .int .u64 (uz v), .agg #[.int .u64 (uz tt.a), .int .u64 (uz tt.b), .int .u64 (uz tt.c)]] w fun e w' => e = .returned (.agg #[.int .u64 (uz q.d), .int .u64 (uz q.e)]) ∧ Below w.heap.size w w') := fun w => by rw [hq]; exact open12 u v tt w
  have C3 : Hid (∀ w, Calls Try.prog 45 #[.agg #[.int .u64 (uz p.d), .int .u64 (uz p.e)], .agg #[.int .u64 (uz q.d), .int .u64 (uz q.e)]] w fun e w' => e = .returned (.agg #[.int .u64 (uz o.d), .int .u64 (uz o.e)]) ∧ Below w.heap.size w w') := fun w => by rw [ho]; exact sum12 p q w
  have C4 : Hid (∀ w, Calls Try.prog 47 #[.int .i64 0, .agg #[.int .u64 (uz o.d), .int .u64 (uz o.e)], .agg #[.int .u64 (uz ts.a), .int .u64 (uz ts.b), .int .u64 (uz ts.c)]] w fun e w' => e = .returned (.int .u64 (uz c)) ∧ Below w.heap.size w w') := fun w => by rw [hc]; exact close12 0 o ts w
  have C5 : Hid (∀ w, Calls Try.prog 47 #[.int .i64 1, .agg #[.int .u64 (uz o.d), .int .u64 (uz o.e)], .agg #[.int .u64 (uz tt.a), .int .u64 (uz tt.b), .int .u64 (uz tt.c)]] w fun e w' => e = .returned (.int .u64 (uz d)) ∧ Below w.heap.size w w') := fun w => by rw [hd]; exact close12 1 o tt w
  have e1 : IntKind.u64.wrap (uz x + uz u) = uz (x + u) := uz_add _ _
  have e2 : IntKind.u64.wrap (uz y + uz v) = uz (y + v) := uz_add _ _
  obtain ⟨g, hg⟩ : ∃ g, g = c + d := ⟨_, rfl⟩
  have e3 : IntKind.u64.wrap (uz c + uz d) = uz g := by rw [hg]; exact uz_add _ _
  have e4 : IntKind.u64.wrap (uz (x + u) * uz (y + v)) = uz ((x + u) * (y + v)) := uz_mul _ _
  have e5 : IntKind.u64.wrap (uz ts.c + uz tt.c) = uz (ts.c + tt.c) := uz_add _ _
  have e6 : IntKind.u64.wrap (uz ts.a + uz tt.a) = uz (ts.a + tt.a) := uz_add _ _
  have e7 : IntKind.u64.wrap (uz ts.b + uz tt.b) = uz (ts.b + tt.b) := uz_add _ _
  have e8 : IntKind.u64.wrap (uz (ts.a + tt.a) * uz (ts.b + tt.b)) = uz ((ts.a + tt.a) * (ts.b + tt.b)) := uz_mul _ _
  have e9 : IntKind.u64.wrap (uz (ts.c + tt.c) - uz ((ts.a + tt.a) * (ts.b + tt.b))) = uz (ts.c + tt.c - (ts.a + tt.a) * (ts.b + tt.b)) := uz_sub _ _
  have e10 : IntKind.u64.wrap (uz ((x + u) * (y + v)) + uz (ts.c + tt.c - (ts.a + tt.a) * (ts.b + tt.b))) = uz g := by rw [hg, E]; exact uz_add _ _
  unfold tpv
  clear hp hq ho hc hd hg E
  go_enter Try.func8, Try.ntmps8
  go_wp2_with fail
  obtain ⟨E0, hE0⟩ : ∃ V, V = w.alloc (.cells #[.int .u64 (uz ts.a), .int .u64 (uz ts.b), .int .u64 (uz ts.c)] 37) := ⟨_, rfl⟩
  have hs0 : E0.heap.size = w.heap.size + 1 := by rw [hE0]; simp
  obtain ⟨E1, hE1⟩ : ∃ V, V = E0.alloc (.cells #[.int .u64 (uz tt.a), .int .u64 (uz tt.b), .int .u64 (uz tt.c)] 37) := ⟨_, rfl⟩
  have hs1 : E1.heap.size = w.heap.size + 2 := by rw [hE1]; simp [hs0]
  have Rs : Hid (TC E0 (w.heap.size) ts) := by
    have := TC.new w ts
    rw [← hE0] at this
    exact this
  replace Rs : Hid (TC E1 (w.heap.size) ts) := by
    have := Rs.out.below (w' := E1) (by rw [hE1]; exact chain_alloc (Below.refl _ _) _)
    exact this
  have Rt : Hid (TC E1 (w.heap.size + 1) tt) := by
    have := TC.new E0 tt
    rw [← hE1] at this
    rw [hs0] at this; exact this
  have B1 : Hid (Below w.heap.size w E1) := by
    rw [hE1, hE0]
    exact chain_alloc (chain_alloc (Below.refl _ w) _) _
  rw [← hE0, ← hE1]
  clear hE0 hs0 hE1 hs1
  obtain ⟨bkt, hB⟩ : ∃ b, b = w.heap.size + 1 := ⟨_, rfl⟩
  rw [← hB] at Rt ⊢
  clear hB
  obtain ⟨bks, hB⟩ : ∃ b, b = w.heap.size := ⟨_, rfl⟩
  rw [← hB] at Rs ⊢
  clear hB
  obtain ⟨w1, hV⟩ : ∃ V, V = E1 := ⟨_, rfl⟩
  rw [← hV] at B1 Rs Rt ⊢
  clear hV
  obtain ⟨s0, s1, s2⟩ := Rs.out.cells
  have sl := Rs.out.lt
  obtain ⟨t0, t1, t2⟩ := Rt.out.cells
  have tl := Rt.out.lt
  refine (head12_any _).mono ?_
  rintro e w2 ⟨rfl, hb⟩
  have B2 := Lib.hid (chain B1.out hb)
  replace Rs := Lib.hid (Rs.out.below hb)
  replace Rt := Lib.hid (Rt.out.below hb)
  clear hb B1
  clear s0 s1 s2 sl
  obtain ⟨s0, s1, s2⟩ := Rs.out.cells
  have sl := Rs.out.lt
  clear t0 t1 t2 tl
  obtain ⟨t0, t1, t2⟩ := Rt.out.cells
  have tl := Rt.out.lt
  go_upto_region 2 with fail
  go_cut [14] (fun s14 wx => ∃ z : Nat, s14 = .pointer (some ⟨z, 0, none⟩) ∧ Hid (OC wx z o) ∧ Hid (TC wx bks ts) ∧ Hid (TC wx bkt tt) ∧ Hid (Below w.heap.size w wx))
  case first =>
    go_wp2_with fail
    refine wp_region_noPanic ?_
    refine wp_region_held_drew (S := fun w' => w'.cell? ⟨bks, 0, none⟩ = some (.int .u64 (uz ts.a)) ∧ w'.cell? ⟨bks, 1, none⟩ = some (.int .u64 (uz ts.b)) ∧ w'.cell? ⟨bks, 2, none⟩ = some (.int .u64 (uz ts.c)) ∧ w'.cell? ⟨bkt, 0, none⟩ = some (.int .u64 (uz tt.a)) ∧ w'.cell? ⟨bkt, 1, none⟩ = some (.int .u64 (uz tt.b)) ∧ w'.cell? ⟨bkt, 2, none⟩ = some (.int .u64 (uz tt.c))) (by kernel_rfl) ⟨s0, s1, s2, t0, t1, t2⟩ (fun hHeld => ?_)
    have hb := below_drew w2
    have B3 := Lib.hid (chain B2.out hb)
    replace Rs := Lib.hid (Rs.out.below hb)
    replace Rt := Lib.hid (Rt.out.below hb)
    clear hb B2
    clear s0 s1 s2 sl
    obtain ⟨s0, s1, s2⟩ := Rs.out.cells
    have sl := Rs.out.lt
    clear t0 t1 t2 tl
    obtain ⟨t0, t1, t2⟩ := Rt.out.cells
    have tl := Rt.out.lt
    clear s0 s1 s2 sl
    clear t0 t1 t2 tl
    generalize w2.drew = w3 at hHeld B3 Rs Rt ⊢
    obtain ⟨s0, s1, s2⟩ := Rs.out.cells
    have sl := Rs.out.lt
    obtain ⟨t0, t1, t2⟩ := Rt.out.cells
    have tl := Rt.out.lt
    refine wpAnyH_take (i := 0) (v := ?vv1) (by simp only [List.getElem?_toArray, List.getElem?_cons_zero]; rfl) (by kernel_rfl) (by kernel_rfl) (by kernel_rfl) (fun _ _ _ h => h) (Or.inl ⟨by rfl, ?yy1⟩) (by assumption) ?rr1
    case yy1 => (intro w hSw; (try dsimp only at hSw); go_simp; first | done | with_reducible rfl)
    simp only [Act.put, List.setIfInBounds_toArray, List.set_cons_zero, List.set_cons_succ]
    refine wpAnyH_take (i := 1) (v := ?vv2) (by simp only [List.getElem?_toArray, List.getElem?_cons_zero, List.getElem?_cons_succ]; rfl) (by kernel_rfl) (by kernel_rfl) (by kernel_rfl) (fun _ _ _ h => h) (Or.inl ⟨by rfl, ?yy2⟩) (by assumption) ?rr2
    case yy2 => (intro w hSw; (try dsimp only at hSw); go_simp; first | done | with_reducible rfl)
    simp only [Act.put, List.setIfInBounds_toArray, List.set_cons_zero, List.set_cons_succ]
    refine wpAnyH_take (i := 2) (v := ?vv3) (by simp only [List.getElem?_toArray, List.getElem?_cons_zero, List.getElem?_cons_succ]; rfl) (by kernel_rfl) (by kernel_rfl) (by kernel_rfl) (fun _ _ _ h => h) (Or.inl ⟨by rfl, ?yy3⟩) (by assumption) ?rr3
    case yy3 => (intro w hSw; (try dsimp only at hSw); go_simp; first | done | with_reducible rfl)
    simp only [Act.put, List.setIfInBounds_toArray, List.set_cons_zero, List.set_cons_succ]
    refine wpAnyH_take (i := 4) (v := ?vv4) (by simp only [List.getElem?_toArray, List.getElem?_cons_zero, List.getElem?_cons_succ]; rfl) (by kernel_rfl) (by kernel_rfl) (by kernel_rfl) (fun _ _ _ h => h) (Or.inl ⟨by rfl, ?yy4⟩) (by assumption) ?rr4
    case yy4 => (intro w hSw; (try dsimp only at hSw); go_simp; first | done | with_reducible rfl)
    simp only [Act.put, List.setIfInBounds_toArray, List.set_cons_zero, List.set_cons_succ]
    refine wpAnyH_take (i := 5) (v := ?vv5) (by simp only [List.getElem?_toArray, List.getElem?_cons_zero, List.getElem?_cons_succ]; rfl) (by kernel_rfl) (by kernel_rfl) (by kernel_rfl) (fun _ _ _ h => h) (Or.inl ⟨by rfl, ?yy5⟩) (by assumption) ?rr5
    case yy5 => (intro w hSw; (try dsimp only at hSw); go_simp; first | done | with_reducible rfl)
    simp only [Act.put, List.setIfInBounds_toArray, List.set_cons_zero, List.set_cons_succ]
    refine wpAnyH_take (i := 6) (v := ?vv6) (by simp only [List.getElem?_toArray, List.getElem?_cons_zero, List.getElem?_cons_succ]; rfl) (by kernel_rfl) (by kernel_rfl) (by kernel_rfl) (fun _ _ _ h => h) (Or.inl ⟨by rfl, ?yy6⟩) (by assumption) ?rr6
    case yy6 => (intro w hSw; (try dsimp only at hSw); go_simp; first | done | with_reducible rfl)
    simp only [Act.put, List.setIfInBounds_toArray, List.set_cons_zero, List.set_cons_succ]
    refine wpAnyH_ready (rs := [3, 9]) (by kernel_rfl) (by simp) ?_
    refine AllReadyH.cons (by simp only [List.getElem?_toArray, List.getElem?_cons_zero, List.getElem?_cons_succ]; rfl) (fun K hK => ?_) ?_
    · skip
      go_simp
      go_at_call 43
      (with_reducible refine (C1.out _).mono ?_)
      rintro e w4 ⟨rfl, hb⟩
      clear hHeld
      have B4 := Lib.hid (chain B3.out hb)
      replace Rs := Lib.hid (Rs.out.below hb)
      replace Rt := Lib.hid (Rt.out.below hb)
      clear hb B3
      clear s0 s1 s2 sl
      obtain ⟨s0, s1, s2⟩ := Rs.out.cells
      have sl := Rs.out.lt
      clear t0 t1 t2 tl
      obtain ⟨t0, t1, t2⟩ := Rt.out.cells
      have tl := Rt.out.lt
      go_wp2_with fail
      refine hK.out _ _ ⟨s0, s1, s2, t0, t1, t2⟩ (fun hHeld => ?_)
      clear hK K
      try simp only [Act.put, List.setIfInBounds_toArray, List.set_cons_zero, List.set_cons_succ]
      refine wpAnyH_ready (rs := [7, 9]) (by kernel_rfl) (by simp) ?_
      refine AllReadyH.cons (by simp only [List.getElem?_toArray, List.getElem?_cons_zero, List.getElem?_cons_succ]; rfl) (fun K hK => ?_) ?_
      · skip
        go_simp
        go_at_call 43
        (with_reducible refine (C2.out _).mono ?_)
        rintro e w5 ⟨rfl, hb⟩
        clear hHeld
        have B5 := Lib.hid (chain B4.out hb)
        replace Rs := Lib.hid (Rs.out.below hb)
        replace Rt := Lib.hid (Rt.out.below hb)
        clear hb B4
        clear s0 s1 s2 sl
        obtain ⟨s0, s1, s2⟩ := Rs.out.cells
        have sl := Rs.out.lt
        clear t0 t1 t2 tl
        obtain ⟨t0, t1, t2⟩ := Rt.out.cells
        have tl := Rt.out.lt
        go_wp2_with fail
        refine hK.out _ _ ⟨s0, s1, s2, t0, t1, t2⟩ (fun hHeld => ?_)
        clear hK K
        try simp only [Act.put, List.setIfInBounds_toArray, List.set_cons_zero, List.set_cons_succ]
        refine wpAnyH_ready (rs := [8, 9]) (by kernel_rfl) (by simp) ?_
        refine AllReadyH.cons (by simp only [List.getElem?_toArray, List.getElem?_cons_zero, List.getElem?_cons_succ]; rfl) (fun K hK => ?_) ?_
        · skip
          go_simp
          go_at_call 45
          (with_reducible refine (C3.out _).mono ?_)
          rintro e w6 ⟨rfl, hb⟩
          clear hHeld
          have B6 := Lib.hid (chain B5.out hb)
          replace Rs := Lib.hid (Rs.out.below hb)
          replace Rt := Lib.hid (Rt.out.below hb)
          clear hb B5
          clear s0 s1 s2 sl
          obtain ⟨s0, s1, s2⟩ := Rs.out.cells
          have sl := Rs.out.lt
          clear t0 t1 t2 tl
          obtain ⟨t0, t1, t2⟩ := Rt.out.cells
          have tl := Rt.out.lt
          go_wp2_with fail
          refine hK.out _ _ ⟨s0, s1, s2, t0, t1, t2⟩ (fun hHeld => ?_)
          clear hK K
          try simp only [Act.put, List.setIfInBounds_toArray, List.set_cons_zero, List.set_cons_succ]
          refine wpAnyH_ready (rs := [9]) (by kernel_rfl) (by simp) ?_
          refine AllReadyH.cons (by simp only [List.getElem?_toArray, List.getElem?_cons_zero, List.getElem?_cons_succ]; rfl) (fun K hK => ?_) ?_
          · skip
            go_simp
            clear hHeld
            have hb : Below w6.heap.size w6 (w6.alloc (.cells #[.int .u64 0, .int .u64 0] 44)) := (Below.refl _ _).alloc (Nat.le_refl _) _
            obtain ⟨z, hB⟩ : ∃ b, b = w6.heap.size := ⟨_, rfl⟩
            have zl : w.heap.size ≤ z := by rw [hB]; exact B6.out.size
            have nes : bks ≠ z := by have := Rs.out.lt; omega
            have net : bkt ≠ z := by have := Rt.out.lt; omega
            have Rz : Hid (OC (w6.alloc (.cells #[.int .u64 0, .int .u64 0] 44)) z On.z) := by rw [hB]; exact heap_alloc_new w6 _
            rw [← hB]
            clear hB
            have B7 := Lib.hid (chain B6.out hb)
            replace Rs := Lib.hid (Rs.out.below hb)
            replace Rt := Lib.hid (Rt.out.below hb)
            clear hb B6
            clear s0 s1 s2 sl
            obtain ⟨s0, s1, s2⟩ := Rs.out.cells
            have sl := Rs.out.lt
            clear t0 t1 t2 tl
            obtain ⟨t0, t1, t2⟩ := Rt.out.cells
            have tl := Rt.out.lt
            refine hK.out _ _ ⟨s0, s1, s2, t0, t1, t2⟩ (fun hHeld => ?_)
            clear hK K
            try simp only [Act.put, List.setIfInBounds_toArray, List.set_cons_zero, List.set_cons_succ]
            clear s0 s1 s2 sl
            clear t0 t1 t2 tl
            generalize w6.alloc (.cells #[.int .u64 0, .int .u64 0] 44) = w7 at hHeld Rz B7 Rs Rt ⊢
            obtain ⟨s0, s1, s2⟩ := Rs.out.cells
            have sl := Rs.out.lt
            obtain ⟨t0, t1, t2⟩ := Rt.out.cells
            have tl := Rt.out.lt
            refine wpAnyH_ready (rs := [10]) (by kernel_rfl) (by simp) ?_
            refine AllReadyH.cons (by simp only [List.getElem?_toArray, List.getElem?_cons_zero, List.getElem?_cons_succ]; rfl) (fun K hK => ?_) ?_
            · skip
              obtain ⟨z0, z1⟩ := Rz.out.cells
              have f0 := Rz.out.frozen 0
              have f1 := Rz.out.frozen 1
              go_simp
              clear hHeld
              replace Rz := Lib.hid (Rz.out.set o)
              have B8 := Lib.hid (below_set2 B7.out zl (.int .u64 (uz o.d)) (.int .u64 (uz o.e)))
              replace Rs := Lib.hid ((Rs.out.other ⟨z, 0, none⟩ (.int .u64 (uz o.d)) nes).other ⟨z, 1, none⟩ (.int .u64 (uz o.e)) nes)
              clear s0 s1 s2 sl
              obtain ⟨s0, s1, s2⟩ := Rs.out.cells
              have sl := Rs.out.lt
              replace Rt := Lib.hid ((Rt.out.other ⟨z, 0, none⟩ (.int .u64 (uz o.d)) net).other ⟨z, 1, none⟩ (.int .u64 (uz o.e)) net)
              clear t0 t1 t2 tl
              obtain ⟨t0, t1, t2⟩ := Rt.out.cells
              have tl := Rt.out.lt
              refine hK.out _ _ ⟨s0, s1, s2, t0, t1, t2⟩ (fun hHeld => ?_)
              clear hK K
              try simp only [Act.put, List.setIfInBounds_toArray, List.set_cons_zero, List.set_cons_succ]
              refine wpAnyH_done (by kernel_rfl) ?_ _
              refine NoPanic.normal ?_
              go_wp2_with fail
              go_meet
              exact ⟨_, rfl, Rz, Rs, Rt, B8⟩
            exact AllReadyH.nil
          exact AllReadyH.nil
        refine AllReadyH.cons (by simp only [List.getElem?_toArray, List.getElem?_cons_zero, List.getElem?_cons_succ]; rfl) (fun K hK => ?_) ?_
        · skip
          go_simp
          clear hHeld
          have hb : Below w5.heap.size w5 (w5.alloc (.cells #[.int .u64 0, .int .u64 0] 44)) := (Below.refl _ _).alloc (Nat.le_refl _) _
          obtain ⟨z, hB⟩ : ∃ b, b = w5.heap.size := ⟨_, rfl⟩
          have zl : w.heap.size ≤ z := by rw [hB]; exact B5.out.size
          have nes : bks ≠ z := by have := Rs.out.lt; omega
          have net : bkt ≠ z := by have := Rt.out.lt; omega
          have Rz : Hid (OC (w5.alloc (.cells #[.int .u64 0, .int .u64 0] 44)) z On.z) := by rw [hB]; exact heap_alloc_new w5 _
          rw [← hB]
          clear hB
          have B6 := Lib.hid (chain B5.out hb)
          replace Rs := Lib.hid (Rs.out.below hb)
          replace Rt := Lib.hid (Rt.out.below hb)
          clear hb B5
          clear s0 s1 s2 sl
          obtain ⟨s0, s1, s2⟩ := Rs.out.cells
          have sl := Rs.out.lt
          clear t0 t1 t2 tl
          obtain ⟨t0, t1, t2⟩ := Rt.out.cells
          have tl := Rt.out.lt
          refine hK.out _ _ ⟨s0, s1, s2, t0, t1, t2⟩ (fun hHeld => ?_)
          clear hK K
          try simp only [Act.put, List.setIfInBounds_toArray, List.set_cons_zero, List.set_cons_succ]
          clear s0 s1 s2 sl
          clear t0 t1 t2 tl
          generalize w5.alloc (.cells #[.int .u64 0, .int .u64 0] 44) = w6 at hHeld Rz B6 Rs Rt ⊢
          obtain ⟨s0, s1, s2⟩ := Rs.out.cells
          have sl := Rs.out.lt
          obtain ⟨t0, t1, t2⟩ := Rt.out.cells
          have tl := Rt.out.lt
          refine wpAnyH_ready (rs := [8]) (by kernel_rfl) (by simp) ?_
          refine AllReadyH.cons (by simp only [List.getElem?_toArray, List.getElem?_cons_zero, List.getElem?_cons_succ]; rfl) (fun K hK => ?_) ?_
          · skip
            go_simp
            go_at_call 45
            (with_reducible refine (C3.out _).mono ?_)
            rintro e w7 ⟨rfl, hb⟩
            clear hHeld
            replace Rz := Lib.hid (Rz.out.below hb)
            have B7 := Lib.hid (chain B6.out hb)
            replace Rs := Lib.hid (Rs.out.below hb)
            replace Rt := Lib.hid (Rt.out.below hb)
            clear hb B6
            clear s0 s1 s2 sl
            obtain ⟨s0, s1, s2⟩ := Rs.out.cells
            have sl := Rs.out.lt
            clear t0 t1 t2 tl
            obtain ⟨t0, t1, t2⟩ := Rt.out.cells
            have tl := Rt.out.lt
            go_wp2_with fail
            refine hK.out _ _ ⟨s0, s1, s2, t0, t1, t2⟩ (fun hHeld => ?_)
            clear hK K
            try simp only [Act.put, List.setIfInBounds_toArray, List.set_cons_zero, List.set_cons_succ]
            refine wpAnyH_ready (rs := [10]) (by kernel_rfl) (by simp) ?_
            refine AllReadyH.cons (by simp only [List.getElem?_toArray, List.getElem?_cons_zero, List.getElem?_cons_succ]; rfl) (fun K hK => ?_) ?_
            · skip
              obtain ⟨z0, z1⟩ := Rz.out.cells
              have f0 := Rz.out.frozen 0
              have f1 := Rz.out.frozen 1
              go_simp
              clear hHeld
              replace Rz := Lib.hid (Rz.out.set o)
              have B8 := Lib.hid (below_set2 B7.out zl (.int .u64 (uz o.d)) (.int .u64 (uz o.e)))
              replace Rs := Lib.hid ((Rs.out.other ⟨z, 0, none⟩ (.int .u64 (uz o.d)) nes).other ⟨z, 1, none⟩ (.int .u64 (uz o.e)) nes)
              clear s0 s1 s2 sl
              obtain ⟨s0, s1, s2⟩ := Rs.out.cells
              have sl := Rs.out.lt
              replace Rt := Lib.hid ((Rt.out.other ⟨z, 0, none⟩ (.int .u64 (uz o.d)) net).other ⟨z, 1, none⟩ (.int .u64 (uz o.e)) net)
              clear t0 t1 t2 tl
              obtain ⟨t0, t1, t2⟩ := Rt.out.cells
              have tl := Rt.out.lt
              refine hK.out _ _ ⟨s0, s1, s2, t0, t1, t2⟩ (fun hHeld => ?_)
              clear hK K
              try simp only [Act.put, List.setIfInBounds_toArray, List.set_cons_zero, List.set_cons_succ]
              refine wpAnyH_done (by kernel_rfl) ?_ _
              refine NoPanic.normal ?_
              go_wp2_with fail
              go_meet
              exact ⟨_, rfl, Rz, Rs, Rt, B8⟩
            exact AllReadyH.nil
          exact AllReadyH.nil
        exact AllReadyH.nil
      refine AllReadyH.cons (by simp only [List.getElem?_toArray, List.getElem?_cons_zero, List.getElem?_cons_succ]; rfl) (fun K hK => ?_) ?_
      · skip
        go_simp
        clear hHeld
        have hb : Below w4.heap.size w4 (w4.alloc (.cells #[.int .u64 0, .int .u64 0] 44)) := (Below.refl _ _).alloc (Nat.le_refl _) _
        obtain ⟨z, hB⟩ : ∃ b, b = w4.heap.size := ⟨_, rfl⟩
        have zl : w.heap.size ≤ z := by rw [hB]; exact B4.out.size
        have nes : bks ≠ z := by have := Rs.out.lt; omega
        have net : bkt ≠ z := by have := Rt.out.lt; omega
        have Rz : Hid (OC (w4.alloc (.cells #[.int .u64 0, .int .u64 0] 44)) z On.z) := by rw [hB]; exact heap_alloc_new w4 _
        rw [← hB]
        clear hB
        have B5 := Lib.hid (chain B4.out hb)
        replace Rs := Lib.hid (Rs.out.below hb)
        replace Rt := Lib.hid (Rt.out.below hb)
        clear hb B4
        clear s0 s1 s2 sl
        obtain ⟨s0, s1, s2⟩ := Rs.out.cells
        have sl := Rs.out.lt
        clear t0 t1 t2 tl
        obtain ⟨t0, t1, t2⟩ := Rt.out.cells
        have tl := Rt.out.lt
        refine hK.out _ _ ⟨s0, s1, s2, t0, t1, t2⟩ (fun hHeld => ?_)
        clear hK K
        try simp only [Act.put, List.setIfInBounds_toArray, List.set_cons_zero, List.set_cons_succ]
        clear s0 s1 s2 sl
        clear t0 t1 t2 tl
        generalize w4.alloc (.cells #[.int .u64 0, .int .u64 0] 44) = w5 at hHeld Rz B5 Rs Rt ⊢
        obtain ⟨s0, s1, s2⟩ := Rs.out.cells
        have sl := Rs.out.lt
        obtain ⟨t0, t1, t2⟩ := Rt.out.cells
        have tl := Rt.out.lt
        refine wpAnyH_ready (rs := [7]) (by kernel_rfl) (by simp) ?_
        refine AllReadyH.cons (by simp only [List.getElem?_toArray, List.getElem?_cons_zero, List.getElem?_cons_succ]; rfl) (fun K hK => ?_) ?_
        · skip
          go_simp
          go_at_call 43
          (with_reducible refine (C2.out _).mono ?_)
          rintro e w6 ⟨rfl, hb⟩
          clear hHeld
          replace Rz := Lib.hid (Rz.out.below hb)
          have B6 := Lib.hid (chain B5.out hb)
          replace Rs := Lib.hid (Rs.out.below hb)
          replace Rt := Lib.hid (Rt.out.below hb)
          clear hb B5
          clear s0 s1 s2 sl
          obtain ⟨s0, s1, s2⟩ := Rs.out.cells
          have sl := Rs.out.lt
          clear t0 t1 t2 tl
          obtain ⟨t0, t1, t2⟩ := Rt.out.cells
          have tl := Rt.out.lt
          go_wp2_with fail
          refine hK.out _ _ ⟨s0, s1, s2, t0, t1, t2⟩ (fun hHeld => ?_)
          clear hK K
          try simp only [Act.put, List.setIfInBounds_toArray, List.set_cons_zero, List.set_cons_succ]
          refine wpAnyH_ready (rs := [8]) (by kernel_rfl) (by simp) ?_
          refine AllReadyH.cons (by simp only [List.getElem?_toArray, List.getElem?_cons_zero, List.getElem?_cons_succ]; rfl) (fun K hK => ?_) ?_
          · skip
            go_simp
            go_at_call 45
            (with_reducible refine (C3.out _).mono ?_)
            rintro e w7 ⟨rfl, hb⟩
            clear hHeld
            replace Rz := Lib.hid (Rz.out.below hb)
            have B7 := Lib.hid (chain B6.out hb)
            replace Rs := Lib.hid (Rs.out.below hb)
            replace Rt := Lib.hid (Rt.out.below hb)
            clear hb B6
            clear s0 s1 s2 sl
            obtain ⟨s0, s1, s2⟩ := Rs.out.cells
            have sl := Rs.out.lt
            clear t0 t1 t2 tl
            obtain ⟨t0, t1, t2⟩ := Rt.out.cells
            have tl := Rt.out.lt
            go_wp2_with fail
            refine hK.out _ _ ⟨s0, s1, s2, t0, t1, t2⟩ (fun hHeld => ?_)
            clear hK K
            try simp only [Act.put, List.setIfInBounds_toArray, List.set_cons_zero, List.set_cons_succ]
            refine wpAnyH_ready (rs := [10]) (by kernel_rfl) (by simp) ?_
            refine AllReadyH.cons (by simp only [List.getElem?_toArray, List.getElem?_cons_zero, List.getElem?_cons_succ]; rfl) (fun K hK => ?_) ?_
            · skip
              obtain ⟨z0, z1⟩ := Rz.out.cells
              have f0 := Rz.out.frozen 0
              have f1 := Rz.out.frozen 1
              go_simp
              clear hHeld
              replace Rz := Lib.hid (Rz.out.set o)
              have B8 := Lib.hid (below_set2 B7.out zl (.int .u64 (uz o.d)) (.int .u64 (uz o.e)))
              replace Rs := Lib.hid ((Rs.out.other ⟨z, 0, none⟩ (.int .u64 (uz o.d)) nes).other ⟨z, 1, none⟩ (.int .u64 (uz o.e)) nes)
              clear s0 s1 s2 sl
              obtain ⟨s0, s1, s2⟩ := Rs.out.cells
              have sl := Rs.out.lt
              replace Rt := Lib.hid ((Rt.out.other ⟨z, 0, none⟩ (.int .u64 (uz o.d)) net).other ⟨z, 1, none⟩ (.int .u64 (uz o.e)) net)
              clear t0 t1 t2 tl
              obtain ⟨t0, t1, t2⟩ := Rt.out.cells
              have tl := Rt.out.lt
              refine hK.out _ _ ⟨s0, s1, s2, t0, t1, t2⟩ (fun hHeld => ?_)
              clear hK K
              try simp only [Act.put, List.setIfInBounds_toArray, List.set_cons_zero, List.set_cons_succ]
              refine wpAnyH_done (by kernel_rfl) ?_ _
              refine NoPanic.normal ?_
              go_wp2_with fail
              go_meet
              exact ⟨_, rfl, Rz, Rs, Rt, B8⟩
            exact AllReadyH.nil
          exact AllReadyH.nil
        exact AllReadyH.nil
      exact AllReadyH.nil
    refine AllReadyH.cons (by simp only [List.getElem?_toArray, List.getElem?_cons_zero, List.getElem?_cons_succ]; rfl) (fun K hK => ?_) ?_
    · skip
      go_simp
      clear hHeld
      have hb : Below w3.heap.size w3 (w3.alloc (.cells #[.int .u64 0, .int .u64 0] 44)) := (Below.refl _ _).alloc (Nat.le_refl _) _
      obtain ⟨z, hB⟩ : ∃ b, b = w3.heap.size := ⟨_, rfl⟩
      have zl : w.heap.size ≤ z := by rw [hB]; exact B3.out.size
      have nes : bks ≠ z := by have := Rs.out.lt; omega
      have net : bkt ≠ z := by have := Rt.out.lt; omega
      have Rz : Hid (OC (w3.alloc (.cells #[.int .u64 0, .int .u64 0] 44)) z On.z) := by rw [hB]; exact heap_alloc_new w3 _
      rw [← hB]
      clear hB
      have B4 := Lib.hid (chain B3.out hb)
      replace Rs := Lib.hid (Rs.out.below hb)
      replace Rt := Lib.hid (Rt.out.below hb)
      clear hb B3
      clear s0 s1 s2 sl
      obtain ⟨s0, s1, s2⟩ := Rs.out.cells
      have sl := Rs.out.lt
      clear t0 t1 t2 tl
      obtain ⟨t0, t1, t2⟩ := Rt.out.cells
      have tl := Rt.out.lt
      refine hK.out _ _ ⟨s0, s1, s2, t0, t1, t2⟩ (fun hHeld => ?_)
      clear hK K
      try simp only [Act.put, List.setIfInBounds_toArray, List.set_cons_zero, List.set_cons_succ]
      clear s0 s1 s2 sl
      clear t0 t1 t2 tl
      generalize w3.alloc (.cells #[.int .u64 0, .int .u64 0] 44) = w4 at hHeld Rz B4 Rs Rt ⊢
      obtain ⟨s0, s1, s2⟩ := Rs.out.cells
      have sl := Rs.out.lt
      obtain ⟨t0, t1, t2⟩ := Rt.out.cells
      have tl := Rt.out.lt
      refine wpAnyH_ready (rs := [3]) (by kernel_rfl) (by simp) ?_
      refine AllReadyH.cons (by simp only [List.getElem?_toArray, List.getElem?_cons_zero, List.getElem?_cons_succ]; rfl) (fun K hK => ?_) ?_
      · skip
        go_simp
        go_at_call 43
        (with_reducible refine (C1.out _).mono ?_)
        rintro e w5 ⟨rfl, hb⟩
        clear hHeld
        replace Rz := Lib.hid (Rz.out.below hb)
        have B5 := Lib.hid (chain B4.out hb)
        replace Rs := Lib.hid (Rs.out.below hb)
        replace Rt := Lib.hid (Rt.out.below hb)
        clear hb B4
        clear s0 s1 s2 sl
        obtain ⟨s0, s1, s2⟩ := Rs.out.cells
        have sl := Rs.out.lt
        clear t0 t1 t2 tl
        obtain ⟨t0, t1, t2⟩ := Rt.out.cells
        have tl := Rt.out.lt
        go_wp2_with fail
        refine hK.out _ _ ⟨s0, s1, s2, t0, t1, t2⟩ (fun hHeld => ?_)
        clear hK K
        try simp only [Act.put, List.setIfInBounds_toArray, List.set_cons_zero, List.set_cons_succ]
        refine wpAnyH_ready (rs := [7]) (by kernel_rfl) (by simp) ?_
        refine AllReadyH.cons (by simp only [List.getElem?_toArray, List.getElem?_cons_zero, List.getElem?_cons_succ]; rfl) (fun K hK => ?_) ?_
        · skip
          go_simp
          go_at_call 43
          (with_reducible refine (C2.out _).mono ?_)
          rintro e w6 ⟨rfl, hb⟩
          clear hHeld
          replace Rz := Lib.hid (Rz.out.below hb)
          have B6 := Lib.hid (chain B5.out hb)
          replace Rs := Lib.hid (Rs.out.below hb)
          replace Rt := Lib.hid (Rt.out.below hb)
          clear hb B5
          clear s0 s1 s2 sl
          obtain ⟨s0, s1, s2⟩ := Rs.out.cells
          have sl := Rs.out.lt
          clear t0 t1 t2 tl
          obtain ⟨t0, t1, t2⟩ := Rt.out.cells
          have tl := Rt.out.lt
          go_wp2_with fail
          refine hK.out _ _ ⟨s0, s1, s2, t0, t1, t2⟩ (fun hHeld => ?_)
          clear hK K
          try simp only [Act.put, List.setIfInBounds_toArray, List.set_cons_zero, List.set_cons_succ]
          refine wpAnyH_ready (rs := [8]) (by kernel_rfl) (by simp) ?_
          refine AllReadyH.cons (by simp only [List.getElem?_toArray, List.getElem?_cons_zero, List.getElem?_cons_succ]; rfl) (fun K hK => ?_) ?_
          · skip
            go_simp
            go_at_call 45
            (with_reducible refine (C3.out _).mono ?_)
            rintro e w7 ⟨rfl, hb⟩
            clear hHeld
            replace Rz := Lib.hid (Rz.out.below hb)
            have B7 := Lib.hid (chain B6.out hb)
            replace Rs := Lib.hid (Rs.out.below hb)
            replace Rt := Lib.hid (Rt.out.below hb)
            clear hb B6
            clear s0 s1 s2 sl
            obtain ⟨s0, s1, s2⟩ := Rs.out.cells
            have sl := Rs.out.lt
            clear t0 t1 t2 tl
            obtain ⟨t0, t1, t2⟩ := Rt.out.cells
            have tl := Rt.out.lt
            go_wp2_with fail
            refine hK.out _ _ ⟨s0, s1, s2, t0, t1, t2⟩ (fun hHeld => ?_)
            clear hK K
            try simp only [Act.put, List.setIfInBounds_toArray, List.set_cons_zero, List.set_cons_succ]
            refine wpAnyH_ready (rs := [10]) (by kernel_rfl) (by simp) ?_
            refine AllReadyH.cons (by simp only [List.getElem?_toArray, List.getElem?_cons_zero, List.getElem?_cons_succ]; rfl) (fun K hK => ?_) ?_
            · skip
              obtain ⟨z0, z1⟩ := Rz.out.cells
              have f0 := Rz.out.frozen 0
              have f1 := Rz.out.frozen 1
              go_simp
              clear hHeld
              replace Rz := Lib.hid (Rz.out.set o)
              have B8 := Lib.hid (below_set2 B7.out zl (.int .u64 (uz o.d)) (.int .u64 (uz o.e)))
              replace Rs := Lib.hid ((Rs.out.other ⟨z, 0, none⟩ (.int .u64 (uz o.d)) nes).other ⟨z, 1, none⟩ (.int .u64 (uz o.e)) nes)
              clear s0 s1 s2 sl
              obtain ⟨s0, s1, s2⟩ := Rs.out.cells
              have sl := Rs.out.lt
              replace Rt := Lib.hid ((Rt.out.other ⟨z, 0, none⟩ (.int .u64 (uz o.d)) net).other ⟨z, 1, none⟩ (.int .u64 (uz o.e)) net)
              clear t0 t1 t2 tl
              obtain ⟨t0, t1, t2⟩ := Rt.out.cells
              have tl := Rt.out.lt
              refine hK.out _ _ ⟨s0, s1, s2, t0, t1, t2⟩ (fun hHeld => ?_)
              clear hK K
              try simp only [Act.put, List.setIfInBounds_toArray, List.set_cons_zero, List.set_cons_succ]
              refine wpAnyH_done (by kernel_rfl) ?_ _
              refine NoPanic.normal ?_
              go_wp2_with fail
              go_meet
              exact ⟨_, rfl, Rz, Rs, Rt, B8⟩
            exact AllReadyH.nil
          exact AllReadyH.nil
        exact AllReadyH.nil
      exact AllReadyH.nil
    exact AllReadyH.nil
  case rest =>
    obtain ⟨bko, rfl, Ro, Qs, Qt, B22⟩ := hcut
    obtain ⟨w22, hV⟩ : ∃ V, V = wc := ⟨_, rfl⟩
    subst hV
    replace Rs := Qs
    clear Qs s0 s1 s2 sl
    obtain ⟨s0, s1, s2⟩ := Rs.out.cells
    have sl := Rs.out.lt
    replace Rt := Qt
    clear Qt t0 t1 t2 tl
    obtain ⟨t0, t1, t2⟩ := Rt.out.cells
    have tl := Rt.out.lt
    obtain ⟨o0, o1⟩ := Ro.out.cells
    have ol := Ro.out.lt
    clear B2
    go_wp2_with fail
    refine wp_region_noPanic ?_
    refine wp_region_held_drew (S := fun w' => w'.cell? ⟨bks, 0, none⟩ = some (.int .u64 (uz ts.a)) ∧ w'.cell? ⟨bks, 1, none⟩ = some (.int .u64 (uz ts.b)) ∧ w'.cell? ⟨bks, 2, none⟩ = some (.int .u64 (uz ts.c)) ∧ w'.cell? ⟨bkt, 0, none⟩ = some (.int .u64 (uz tt.a)) ∧ w'.cell? ⟨bkt, 1, none⟩ = some (.int .u64 (uz tt.b)) ∧ w'.cell? ⟨bkt, 2, none⟩ = some (.int .u64 (uz tt.c)) ∧ w'.cell? ⟨bko, 0, none⟩ = some (.int .u64 (uz o.d)) ∧ w'.cell? ⟨bko, 1, none⟩ = some (.int .u64 (uz o.e))) (by kernel_rfl) ⟨s0, s1, s2, t0, t1, t2, o0, o1⟩ (fun hHeld => ?_)
    have hb := below_drew w22
    have B23 := Lib.hid (chain B22.out hb)
    replace Rs := Lib.hid (Rs.out.below hb)
    replace Rt := Lib.hid (Rt.out.below hb)
    replace Ro := Lib.hid (Ro.out.below hb)
    clear hb B22
    clear s0 s1 s2 sl
    obtain ⟨s0, s1, s2⟩ := Rs.out.cells
    have sl := Rs.out.lt
    clear t0 t1 t2 tl
    obtain ⟨t0, t1, t2⟩ := Rt.out.cells
    have tl := Rt.out.lt
    clear o0 o1 ol
    obtain ⟨o0, o1⟩ := Ro.out.cells
    have ol := Ro.out.lt
    clear s0 s1 s2 sl
    clear t0 t1 t2 tl
    clear o0 o1 ol
    generalize w22.drew = w23 at hHeld B23 Rs Rt Ro ⊢
    obtain ⟨s0, s1, s2⟩ := Rs.out.cells
    have sl := Rs.out.lt
    obtain ⟨t0, t1, t2⟩ := Rt.out.cells
    have tl := Rt.out.lt
    obtain ⟨o0, o1⟩ := Ro.out.cells
    have ol := Ro.out.lt
    refine wpAnyH_take (i := 0) (v := ?vv7) (by simp only [List.getElem?_toArray, List.getElem?_cons_zero]; rfl) (by kernel_rfl) (by kernel_rfl) (by kernel_rfl) (fun _ _ _ h => h) (Or.inl ⟨by rfl, ?yy7⟩) (by assumption) ?rr7
    case yy7 => (intro w hSw; (try dsimp only at hSw); go_simp; first | done | with_reducible rfl)
    simp only [Act.put, List.setIfInBounds_toArray, List.set_cons_zero, List.set_cons_succ]
    refine wpAnyH_take (i := 1) (v := ?vv8) (by simp only [List.getElem?_toArray, List.getElem?_cons_zero, List.getElem?_cons_succ]; rfl) (by kernel_rfl) (by kernel_rfl) (by kernel_rfl) (fun _ _ _ h => h) (Or.inl ⟨by rfl, ?yy8⟩) (by assumption) ?rr8
    case yy8 => (intro w hSw; (try dsimp only at hSw); go_simp; first | done | with_reducible rfl)
    simp only [Act.put, List.setIfInBounds_toArray, List.set_cons_zero, List.set_cons_succ]
    refine wpAnyH_take (i := 2) (v := ?vv9) (by simp only [List.getElem?_toArray, List.getElem?_cons_zero, List.getElem?_cons_succ]; rfl) (by kernel_rfl) (by kernel_rfl) (by kernel_rfl) (fun _ _ _ h => h) (Or.inl ⟨by rfl, ?yy9⟩) (by assumption) ?rr9
    case yy9 => (intro w hSw; (try dsimp only at hSw); go_simp; first | done | with_reducible rfl)
    simp only [Act.put, List.setIfInBounds_toArray, List.set_cons_zero, List.set_cons_succ]
    refine wpAnyH_take (i := 3) (v := ?vv10) (by simp only [List.getElem?_toArray, List.getElem?_cons_zero, List.getElem?_cons_succ]; rfl) (by kernel_rfl) (by kernel_rfl) (by kernel_rfl) (fun _ _ _ h => h) (Or.inl ⟨by rfl, ?yy10⟩) (by assumption) ?rr10
    case yy10 => (intro w hSw; (try dsimp only at hSw); go_simp; first | done | with_reducible rfl)
    simp only [Act.put, List.setIfInBounds_toArray, List.set_cons_zero, List.set_cons_succ]
    refine wpAnyH_take (i := 5) (v := ?vv11) (by simp only [List.getElem?_toArray, List.getElem?_cons_zero, List.getElem?_cons_succ]; rfl) (by kernel_rfl) (by kernel_rfl) (by kernel_rfl) (fun _ _ _ h => h) (Or.inl ⟨by rfl, ?yy11⟩) (by assumption) ?rr11
    case yy11 => (intro w hSw; (try dsimp only at hSw); go_simp; first | done | with_reducible rfl)
    simp only [Act.put, List.setIfInBounds_toArray, List.set_cons_zero, List.set_cons_succ]
    refine wpAnyH_take (i := 6) (v := ?vv12) (by simp only [List.getElem?_toArray, List.getElem?_cons_zero, List.getElem?_cons_succ]; rfl) (by kernel_rfl) (by kernel_rfl) (by kernel_rfl) (fun _ _ _ h => h) (Or.inl ⟨by rfl, ?yy12⟩) (by assumption) ?rr12
    case yy12 => (intro w hSw; (try dsimp only at hSw); go_simp; first | done | with_reducible rfl)
    simp only [Act.put, List.setIfInBounds_toArray, List.set_cons_zero, List.set_cons_succ]
    refine wpAnyH_take (i := 9) (v := ?vv13) (by simp only [List.getElem?_toArray, List.getElem?_cons_zero, List.getElem?_cons_succ]; rfl) (by kernel_rfl) (by kernel_rfl) (by kernel_rfl) (fun _ _ _ h => h) (Or.inl ⟨by rfl, ?yy13⟩) (by assumption) ?rr13
    case yy13 => (intro w hSw; (try dsimp only at hSw); go_simp; first | done | with_reducible rfl)
    simp only [Act.put, List.setIfInBounds_toArray, List.set_cons_zero, List.set_cons_succ]
    refine wpAnyH_take (i := 10) (v := ?vv14) (by simp only [List.getElem?_toArray, List.getElem?_cons_zero, List.getElem?_cons_succ]; rfl) (by kernel_rfl) (by kernel_rfl) (by kernel_rfl) (fun _ _ _ h => h) (Or.inl ⟨by rfl, ?yy14⟩) (by assumption) ?rr14
    case yy14 => (intro w hSw; (try dsimp only at hSw); go_simp; first | done | with_reducible rfl)
    simp only [Act.put, List.setIfInBounds_toArray, List.set_cons_zero, List.set_cons_succ]
    refine wpAnyH_take (i := 12) (v := ?vv15) (by simp only [List.getElem?_toArray, List.getElem?_cons_zero, List.getElem?_cons_succ]; rfl) (by kernel_rfl) (by kernel_rfl) (by kernel_rfl) (fun _ _ _ h => h) (Or.inl ⟨by rfl, ?yy15⟩) (by assumption) ?rr15
    case yy15 => (intro w hSw; (try dsimp only at hSw); go_simp; first | done | with_reducible rfl)
    simp only [Act.put, List.setIfInBounds_toArray, List.set_cons_zero, List.set_cons_succ]
    refine wpAnyH_take (i := 13) (v := ?vv16) (by simp only [List.getElem?_toArray, List.getElem?_cons_zero, List.getElem?_cons_succ]; rfl) (by kernel_rfl) (by kernel_rfl) (by kernel_rfl) (fun _ _ _ h => h) (Or.inl ⟨by rfl, ?yy16⟩) (by assumption) ?rr16
    case yy16 => (intro w hSw; (try dsimp only at hSw); go_simp; first | done | with_reducible rfl)
    simp only [Act.put, List.setIfInBounds_toArray, List.set_cons_zero, List.set_cons_succ]
    refine wpAnyH_take (i := 16) (v := ?vv17) (by simp only [List.getElem?_toArray, List.getElem?_cons_zero, List.getElem?_cons_succ]; rfl) (by kernel_rfl) (by kernel_rfl) (by kernel_rfl) (fun _ _ _ h => h) (Or.inl ⟨by rfl, ?yy17⟩) (by assumption) ?rr17
    case yy17 => (intro w hSw; (try dsimp only at hSw); go_simp; first | done | with_reducible rfl)
    simp only [Act.put, List.setIfInBounds_toArray, List.set_cons_zero, List.set_cons_succ]
    refine wpAnyH_take (i := 11) (v := ?vv18) (by simp only [List.getElem?_toArray, List.getElem?_cons_zero, List.getElem?_cons_succ]; rfl) (by kernel_rfl) (by kernel_rfl) (by kernel_rfl) (fun _ _ _ h => h) (Or.inl ⟨by rfl, ?yy18⟩) (by assumption) ?rr18
    case yy18 => (intro w hSw; (try dsimp only at hSw); go_simp; first | done | with_reducible rfl)
    simp only [Act.put, List.setIfInBounds_toArray, List.set_cons_zero, List.set_cons_succ]
    refine wpAnyH_take (i := 14) (v := ?vv19) (by simp only [List.getElem?_toArray, List.getElem?_cons_zero, List.getElem?_cons_succ]; rfl) (by kernel_rfl) (by kernel_rfl) (by kernel_rfl) (fun _ _ _ h => h) (Or.inl ⟨by rfl, ?yy19⟩) (by assumption) ?rr19
    case yy19 => (intro w hSw; (try dsimp only at hSw); go_simp; first | done | with_reducible rfl)
    simp only [Act.put, List.setIfInBounds_toArray, List.set_cons_zero, List.set_cons_succ]
    refine wpAnyH_take (i := 15) (v := ?vv20) (by simp only [List.getElem?_toArray, List.getElem?_cons_zero, List.getElem?_cons_succ]; rfl) (by kernel_rfl) (by kernel_rfl) (by kernel_rfl) (fun _ _ _ h => h) (Or.inl ⟨by rfl, ?yy20⟩) (by assumption) ?rr20
    case yy20 => (intro w hSw; (try dsimp only at hSw); go_simp; first | done | with_reducible rfl)
    simp only [Act.put, List.setIfInBounds_toArray, List.set_cons_zero, List.set_cons_succ]
    refine wpAnyH_take (i := 17) (v := ?vv21) (by simp only [List.getElem?_toArray, List.getElem?_cons_zero, List.getElem?_cons_succ]; rfl) (by kernel_rfl) (by kernel_rfl) (by kernel_rfl) (fun _ _ _ h => h) (Or.inl ⟨by rfl, ?yy21⟩) (by assumption) ?rr21
    case yy21 => (intro w hSw; (try dsimp only at hSw); go_simp; first | done | with_reducible rfl)
    simp only [Act.put, List.setIfInBounds_toArray, List.set_cons_zero, List.set_cons_succ]
    refine wpAnyH_ready (rs := [4]) (by kernel_rfl) (by simp) ?_
    refine AllReadyH.cons (by simp only [List.getElem?_toArray, List.getElem?_cons_zero, List.getElem?_cons_succ]; rfl) (fun K hK => ?_) AllReadyH.nil
    go_simp
    go_at_call 47
    (with_reducible refine (C4.out _).mono ?_)
    rintro e w24 ⟨rfl, hb⟩
    clear hHeld
    have B24 := Lib.hid (chain B23.out hb)
    replace Rs := Lib.hid (Rs.out.below hb)
    replace Rt := Lib.hid (Rt.out.below hb)
    replace Ro := Lib.hid (Ro.out.below hb)
    clear hb B23
    clear s0 s1 s2 sl
    obtain ⟨s0, s1, s2⟩ := Rs.out.cells
    have sl := Rs.out.lt
    clear t0 t1 t2 tl
    obtain ⟨t0, t1, t2⟩ := Rt.out.cells
    have tl := Rt.out.lt
    clear o0 o1 ol
    obtain ⟨o0, o1⟩ := Ro.out.cells
    have ol := Ro.out.lt
    go_wp2_with fail
    refine hK.out _ _ ⟨s0, s1, s2, t0, t1, t2, o0, o1⟩ (fun hHeld => ?_)
    clear hK K
    try simp only [Act.put, List.setIfInBounds_toArray, List.set_cons_zero, List.set_cons_succ]
    refine wpAnyH_ready (rs := [7]) (by kernel_rfl) (by simp) ?_
    refine AllReadyH.cons (by simp only [List.getElem?_toArray, List.getElem?_cons_zero, List.getElem?_cons_succ]; rfl) (fun K hK => ?_) AllReadyH.nil
    go_simp
    go_at_call 47
    (with_reducible refine (C5.out _).mono ?_)
    rintro e w25 ⟨rfl, hb⟩
    clear hHeld
    have B25 := Lib.hid (chain B24.out hb)
    replace Rs := Lib.hid (Rs.out.below hb)
    replace Rt := Lib.hid (Rt.out.below hb)
    replace Ro := Lib.hid (Ro.out.below hb)
    clear hb B24
    clear s0 s1 s2 sl
    obtain ⟨s0, s1, s2⟩ := Rs.out.cells
    have sl := Rs.out.lt
    clear t0 t1 t2 tl
    obtain ⟨t0, t1, t2⟩ := Rt.out.cells
    have tl := Rt.out.lt
    clear o0 o1 ol
    obtain ⟨o0, o1⟩ := Ro.out.cells
    have ol := Ro.out.lt
    go_wp2_with fail
    refine hK.out _ _ ⟨s0, s1, s2, t0, t1, t2, o0, o1⟩ (fun hHeld => ?_)
    clear hK K
    try simp only [Act.put, List.setIfInBounds_toArray, List.set_cons_zero, List.set_cons_succ]
    refine wpAnyH_take (i := 8) (v := ?vv22) (by simp only [List.getElem?_toArray, List.getElem?_cons_zero, List.getElem?_cons_succ]; rfl) (by kernel_rfl) (by kernel_rfl) (by kernel_rfl) (fun _ _ _ h => h) (Or.inl ⟨by rfl, ?yy22⟩) (by assumption) ?rr22
    case yy22 => (intro w hSw; (try dsimp only at hSw); go_simp; first | done | with_reducible rfl)
    simp only [Act.put, List.setIfInBounds_toArray, List.set_cons_zero, List.set_cons_succ]
    refine wpAnyH_take (i := 18) (v := ?vv23) (by simp only [List.getElem?_toArray, List.getElem?_cons_zero, List.getElem?_cons_succ]; rfl) (by kernel_rfl) (by kernel_rfl) (by kernel_rfl) (fun _ _ _ h => h) (Or.inl ⟨by rfl, ?yy23⟩) (by assumption) ?rr23
    case yy23 => (intro w hSw; (try dsimp only at hSw); go_simp; first | done | with_reducible rfl)
    simp only [Act.put, List.setIfInBounds_toArray, List.set_cons_zero, List.set_cons_succ]
    refine wpAnyH_take (i := 19) (v := ?vv24) (by simp only [List.getElem?_toArray, List.getElem?_cons_zero, List.getElem?_cons_succ]; rfl) (by kernel_rfl) (by kernel_rfl) (by kernel_rfl) (fun _ _ _ h => h) (Or.inl ⟨by rfl, ?yy24⟩) (by assumption) ?rr24
    case yy24 => (intro w hSw; (try dsimp only at hSw); go_simp; first | done | with_reducible rfl)
    simp only [Act.put, List.setIfInBounds_toArray, List.set_cons_zero, List.set_cons_succ]
    refine wpAnyH_take (i := 20) (v := ?vv25) (by simp only [List.getElem?_toArray, List.getElem?_cons_zero, List.getElem?_cons_succ]; rfl) (by kernel_rfl) (by kernel_rfl) (by kernel_rfl) (fun _ _ _ h => h) (Or.inl ⟨by rfl, ?yy25⟩) (by assumption) ?rr25
    case yy25 => (intro w hSw; (try dsimp only at hSw); go_simp; first | done | with_reducible rfl)
    simp only [Act.put, List.setIfInBounds_toArray, List.set_cons_zero, List.set_cons_succ]
    refine wpAnyH_done (by kernel_rfl) ?_ _
    refine NoPanic.normal ?_
    go_wp2_with fail
    go_ret
    exact ⟨rfl, B25.out⟩

end Go.Proofs.Ytggbhoanffdjbaa
