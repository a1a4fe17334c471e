/-
  SectorNoughts: noughts are no sector; nor are bytes that are cut, or have one more; nor such that have another one than a nought behind a Body.
-/
import Derived.Test.YtjokaaekliapmaaDoorQHead
import Derived.Deep.AppendLies
namespace Go.Proofs.YtjokaaekliapmaaDoor
open Go.RowKit

theorem same_zero2 (A : Option Addr) (c : Nat) (w : World) : Calls Tryd.prog 16 #[.agg #[.int .i64 0, .int .i64 0, .int .i64 0, .int .i64 0, .slice A 0 c], .agg #[.int .i64 0, .int .i64 0, .int .i64 0, .int .i64 0, .slice none 0 0]] w fun e w' => e = .returned (.bool true) ∧ Below w.heap.size w w' :=
  rsame16 Sec.z A none 0 c 0 0 w rfl rfl (Rg.nil _ _ _) (Rg.nil _ _ _)

theorem wrap_few (r : Nat) (h : r ≤ 50) : IntKind.i64.wrap (r : Int) = (r : Int) := IntWalk.i64_in _ (by omega)
theorem wrap_few2 (r : Nat) (h : r ≤ 50) : wrap64 (r : Int) = (r : Int) := IntWalk.wrap64_in _ (by omega)
theorem wrap_two (a r k : Nat) (h : a ≤ 64) (h2 : r ≤ 50) (e : k = a + r) : IntKind.i64.wrap ((a : Int) + (r : Int)) = (k : Int) := by rw [IntWalk.i64_in _ (by omega)]; omega
theorem wrap_two2 (a r k : Nat) (h : a ≤ 64) (h2 : r ≤ 50) (e : k = a + r) : wrap64 ((a : Int) + (r : Int)) = (k : Int) := by rw [IntWalk.wrap64_in _ (by omega)]; omega
set_option maxHeartbeats 8000000 in
set_option maxRecDepth 100000 in
theorem law_qnoughts (gs ps ts ks : Int) (As : Option Addr) (cs ns : Nat) (xs : List UInt8) (y : Int) (c : Int) (w : World) (hT : Wd w) (hs : Rg bcells w As xs) (ls : ns = xs.length) (qs : ns ≤ cs) (hby : 0 ≤ y ∧ y ≤ 255) (bc : 0 ≤ c ∧ c ≤ 255) :
    Calls Tryd.prog 6 #[.agg #[.int .i64 gs, .int .i64 ps, .int .i64 ts, .int .i64 ks, .slice As ns cs], .int .u8 y, .int .u8 c] w fun e w' => e = .returned (.bool true) ∧ Below w.heap.size w w' := by
  have HT := Lib.hid hT
  clear hT
  have Rs := Lib.hid hs; have Ms := Lib.hid ls; have Ks := Lib.hid qs
  clear hs ls qs
  obtain ⟨i0, hi, hz0, hz1, hz2⟩ := info_parts Tryd.infoB
  obtain ⟨b0, b1⟩  := hby
  obtain ⟨n, rfl⟩ : ∃ n : Nat, y = n := ⟨y.toNat, by omega⟩
  have n255 : n ≤ 255 := by omega
  obtain ⟨cy, rfl⟩ := bz_of bc.1 (by have := bc.2; omega)
  have hmk : ∀ w : World, (Instr.makeSlice 22 (.int .i64 (n : Int)) (.int .i64 (n : Int))).run Tryd.prog w = .ok (.slice (some ⟨w.heap.size, 0, none⟩) n n) (w.alloc (.cells (madeCells #[.int .u8 0] n) 5)) := fun w => by
    have := run_make (P := Tryd.prog) w 22 5 i0 _ Tryd.underlying22 hi hz0 .i64 .i64 (n : Int) (n : Int) (by omega) (Int.le_refl _) (by rw [hz2]; omega) (by omega)
    rw [hz1, Nat.mul_one] at this
    exact this
  clear hi hz0 hz1 hz2 b0 b1 bc
  by_cases g0 : 900 < ns
  · skip
    have d0 : decide (900 < (ns : Int)) = true := decide_eq_true (by omega)
    clear g0
    go_enter Tryd.func6, Tryd.ntmps6
    go_wp2_with fail
    have hqs := QB.new (w) ⟨gs, ps, ts, ks, xs⟩ As ns cs
    dsimp only at hqs
    have hb := chain_alloc (Below.refl _ w) (.cells #[.int .i64 gs, .int .i64 ps, .int .i64 ts, .int .i64 ks, .slice As ns cs] 24)
    obtain ⟨zs, hzs⟩ : ∃ z, z = w.heap.size := ⟨_, rfl⟩
    rw [← hzs] at hqs ⊢
    generalize (w).alloc (.cells #[.int .i64 gs, .int .i64 ps, .int .i64 ts, .int .i64 ks, .slice As ns cs] 24) = w1 at hb hqs ⊢
    have Rzs := Lib.hid hqs
    clear hqs hzs
    have B1 := Lib.hid hb
    replace Rs := Lib.hid (Rs.out.below hb)
    clear hb
    refine (head16_any _).mono ?_
    rintro e w2 ⟨rfl, hb⟩
    have B2 := Lib.hid (chain B1.out hb)
    replace Rs := Lib.hid (Rs.out.below hb)
    replace Rzs := Lib.hid (Rzs.out.below hb)
    clear hb B1
    obtain ⟨zs0, zs1, zs2, zs3, zs4⟩ := Rzs.out.cells
    have zsl := Rzs.out.lt
    try dsimp only at zs0 zs1 zs2 zs3 zs4
    go_wp2_with fail
    go_ret
    exact ⟨rfl, B2.out⟩
  have d0 : decide (900 < (ns : Int)) = false := decide_eq_false (by omega)
  clear g0
  have CRs : Hid (∀ w, Calls Tryd.prog 12 #[secv ⟨gs, ps, ts, ks, xs⟩ As ns cs] w fun e w' => e = .returned (.bool (rightQ ⟨gs, ps, ts, ks, xs⟩)) ∧ Below w.heap.size w w') := fun w => right16 ⟨gs, ps, ts, ks, xs⟩ As ns cs w Ms.out
  have CPs : Hid (∀ w, Rg bcells w As xs → Wd w → Calls Tryd.prog 14 #[secv ⟨gs, ps, ts, ks, xs⟩ As ns cs] w (BOwn (putQ ⟨gs, ps, ts, ks, xs⟩) w)) := fun w h t => put16 ⟨gs, ps, ts, ks, xs⟩ As ns cs w Ms.out h t
  unfold secv at CRs CPs
  dsimp only at CRs CPs
  rcases oks : rightQ ⟨gs, ps, ts, ks, xs⟩ with _ | _
  · skip
    have PNs := Lib.hid (putq_no oks)
    rw [PNs.out] at CPs
    clear oks CRs
    go_enter Tryd.func6, Tryd.ntmps6
    go_wp2_with fail
    have hqs := QB.new (w) ⟨gs, ps, ts, ks, xs⟩ As ns cs
    dsimp only at hqs
    have hb := chain_alloc (Below.refl _ w) (.cells #[.int .i64 gs, .int .i64 ps, .int .i64 ts, .int .i64 ks, .slice As ns cs] 24)
    obtain ⟨zs, hzs⟩ : ∃ z, z = w.heap.size := ⟨_, rfl⟩
    rw [← hzs] at hqs ⊢
    generalize (w).alloc (.cells #[.int .i64 gs, .int .i64 ps, .int .i64 ts, .int .i64 ks, .slice As ns cs] 24) = w1 at hb hqs ⊢
    have Rzs := Lib.hid hqs
    clear hqs hzs
    have B1 := Lib.hid hb
    replace Rs := Lib.hid (Rs.out.below hb)
    clear hb
    refine (head16_any _).mono ?_
    rintro e w2 ⟨rfl, hb⟩
    have B2 := Lib.hid (chain B1.out hb)
    replace Rs := Lib.hid (Rs.out.below hb)
    replace Rzs := Lib.hid (Rzs.out.below hb)
    clear hb B1
    obtain ⟨zs0, zs1, zs2, zs3, zs4⟩ := Rzs.out.cells
    have zsl := Rzs.out.lt
    try dsimp only at zs0 zs1 zs2 zs3 zs4
    go_wp2_with fail
    refine (CPs.out _ Rs.out (by first | assumption | exact Hid.out (by assumption) | exact Wd.below (Hid.out (by assumption)) (Hid.out (by assumption)) | exact Wd.below (by assumption) (Hid.out (by assumption)))).mono ?_
    rintro e w3 ⟨v, rfl, ho, hb⟩
    obtain ⟨Ab, kb, rfl, y9, rp, y8, y7⟩ := own_cap bcells_len (by decide) ho
    have Rb := Lib.hid rp
    rw [List.length_nil]
    clear ho y9 rp y8 y7
    clear zs0 zs1 zs2 zs3 zs4 zsl
    have B3 := Lib.hid (chain B2.out hb)
    replace Rs := Lib.hid (Rs.out.below hb)
    replace Rzs := Lib.hid (Rzs.out.below hb)
    clear hb B2
    obtain ⟨zs0, zs1, zs2, zs3, zs4⟩ := Rzs.out.cells
    have zsl := Rzs.out.lt
    try dsimp only at zs0 zs1 zs2 zs3 zs4
    go_wp2_with fail
    clear zs0 zs1 zs2 zs3 zs4 zsl
    have hm := b_made w3 n
    have hb := chain_alloc (Below.refl _ w3) (.cells (madeCells #[.int .u8 0] n) 5)
    obtain ⟨C, hC⟩ : ∃ C : Option Addr, C = some ⟨w3.heap.size, 0, none⟩ := ⟨_, rfl⟩
    rw [← hC] at hm ⊢
    generalize w3.alloc (.cells (madeCells #[.int .u8 0] n) 5) = w4 at hm hb ⊢
    clear hC
    have Rm := Lib.hid hm
    have Mm : Hid (n = (List.replicate n (0 : UInt8)).length) := by show _ = _; simp
    have ON := Lib.hid (okq_noughts n)
    clear hm
    have B4 := Lib.hid (chain B3.out hb)
    replace Rs := Lib.hid (Rs.out.below hb)
    replace Rzs := Lib.hid (Rzs.out.below hb)
    replace Rb := Lib.hid (Rb.out.below hb)
    clear hb B3
    obtain ⟨zs0, zs1, zs2, zs3, zs4⟩ := Rzs.out.cells
    have zsl := Rzs.out.lt
    try dsimp only at zs0 zs1 zs2 zs3 zs4
    refine (get16 C n n (List.replicate n 0) _ Rm.out Mm.out (Nat.le_refl _) (by omega)).mono ?_
    rintro e w5 ⟨Ax, kx, nx, rfl, h1, h2, hb, h4, _⟩
    rw [getq_no ON.out] at h1 h2
    rw [getq_no ON.out, ON.out]
    unfold secv Sec.z
    dsimp only
    have Mx := Lib.hid h1; have Rx := Lib.hid h2; have Kx := Lib.hid h4
    clear h1 h2 h4
    clear zs0 zs1 zs2 zs3 zs4 zsl
    have B5 := Lib.hid (chain B4.out hb)
    replace Rs := Lib.hid (Rs.out.below hb)
    replace Rzs := Lib.hid (Rzs.out.below hb)
    replace Rb := Lib.hid (Rb.out.below hb)
    replace Rm := Lib.hid (Rm.out.below hb)
    clear hb B4
    obtain rfl : nx = 0 := Mx.out
    clear ON
    obtain ⟨zs0, zs1, zs2, zs3, zs4⟩ := Rzs.out.cells
    have zsl := Rzs.out.lt
    try dsimp only at zs0 zs1 zs2 zs3 zs4
    clear zs0 zs1 zs2 zs3 zs4 zsl
    obtain ⟨w6, hw6⟩ : ∃ W, W = (w5).alloc (.cells #[.int .i64 0, .int .i64 0, .int .i64 0, .int .i64 0, .slice Ax 0 kx] 24) := ⟨_, rfl⟩
    have hq : QB w6 (w5).heap.size Sec.z Ax 0 kx := by rw [hw6]; exact QB.new (w5) Sec.z Ax 0 kx
    have hb : Below (w5).heap.size (w5) w6 := by rw [hw6]; exact chain_alloc (Below.refl _ _) _
    obtain ⟨zx, hzx⟩ : ∃ z, z = (w5).heap.size := ⟨_, rfl⟩
    rw [← hzx] at hq
    have Rzx := Lib.hid hq
    clear hq
    have B6 := Lib.hid (chain B5.out hb)
    replace Rs := Lib.hid (Rs.out.below hb)
    replace Rzs := Lib.hid (Rzs.out.below hb)
    replace Rb := Lib.hid (Rb.out.below hb)
    replace Rm := Lib.hid (Rm.out.below hb)
    replace Rx := Lib.hid (Rx.out.below hb)
    clear hb B5
    obtain ⟨zs0, zs1, zs2, zs3, zs4⟩ := Rzs.out.cells
    have zsl := Rzs.out.lt
    try dsimp only at zs0 zs1 zs2 zs3 zs4
    obtain ⟨zx0, zx1, zx2, zx3, zx4⟩ := Rzx.out.cells
    have zxl := Rzx.out.lt
    try dsimp only at zx0 zx1 zx2 zx3 zx4
    subst hw6
    subst hzx
    clear Rm
    clear Rx
    clear Rzx zx0 zx1 zx2 zx3 zx4 zxl
    go_wp2_with fail
    go_ret
    exact ⟨rfl, B6.out⟩
  have PLs := Lib.hid (putq_len oks)
  have S50 : Hid (ns ≤ 50) := by show ns ≤ 50; rw [Ms.out]; exact (right_q.1 oks).2.2.2.2.2.2.2.2.2
  have SET : Hid (∀ k, 14 + ns ≤ k → k < 64 → okQ ((putQ ⟨gs, ps, ts, ks, xs⟩).set k cy) = (cy == 0)) := fun k h1 h2 => okq_set oks (by dsimp only; rw [← Ms.out]; exact h1) h2 cy
  obtain ⟨L, hL⟩ : ∃ L, L = putQ ⟨gs, ps, ts, ks, xs⟩ := ⟨_, rfl⟩
  rw [← hL] at CPs PLs SET
  clear oks CRs hL
  go_enter Tryd.func6, Tryd.ntmps6
  go_wp2_with fail
  have hqs := QB.new (w) ⟨gs, ps, ts, ks, xs⟩ As ns cs
  dsimp only at hqs
  have hb := chain_alloc (Below.refl _ w) (.cells #[.int .i64 gs, .int .i64 ps, .int .i64 ts, .int .i64 ks, .slice As ns cs] 24)
  obtain ⟨zs, hzs⟩ : ∃ z, z = w.heap.size := ⟨_, rfl⟩
  rw [← hzs] at hqs ⊢
  generalize (w).alloc (.cells #[.int .i64 gs, .int .i64 ps, .int .i64 ts, .int .i64 ks, .slice As ns cs] 24) = w1 at hb hqs ⊢
  have Rzs := Lib.hid hqs
  clear hqs hzs
  have B1 := Lib.hid hb
  replace Rs := Lib.hid (Rs.out.below hb)
  clear hb
  refine (head16_any _).mono ?_
  rintro e w2 ⟨rfl, hb⟩
  have B2 := Lib.hid (chain B1.out hb)
  replace Rs := Lib.hid (Rs.out.below hb)
  replace Rzs := Lib.hid (Rzs.out.below hb)
  clear hb B1
  obtain ⟨zs0, zs1, zs2, zs3, zs4⟩ := Rzs.out.cells
  have zsl := Rzs.out.lt
  try dsimp only at zs0 zs1 zs2 zs3 zs4
  go_wp2_with fail
  refine (CPs.out _ Rs.out (by first | assumption | exact Hid.out (by assumption) | exact Wd.below (Hid.out (by assumption)) (Hid.out (by assumption)) | exact Wd.below (by assumption) (Hid.out (by assumption)))).mono ?_
  rintro e w3 ⟨v, rfl, ho, hb⟩
  rw [PLs.out] at ho
  obtain ⟨Ab, kb, rfl, y9, rp, y8, y7⟩ := own_cap bcells_len (by decide) ho
  have Rb := Lib.hid rp
  have Mb : Hid (64 = L.length) := PLs.out.symm
  have Kb := Lib.hid y8
  clear ho y9 rp y8 y7
  clear zs0 zs1 zs2 zs3 zs4 zsl
  have B3 := Lib.hid (chain B2.out hb)
  replace Rs := Lib.hid (Rs.out.below hb)
  replace Rzs := Lib.hid (Rzs.out.below hb)
  clear hb B2
  obtain ⟨zs0, zs1, zs2, zs3, zs4⟩ := Rzs.out.cells
  have zsl := Rzs.out.lt
  try dsimp only at zs0 zs1 zs2 zs3 zs4
  go_wp2_with fail
  clear zs0 zs1 zs2 zs3 zs4 zsl
  have hm := b_made w3 n
  have hb := chain_alloc (Below.refl _ w3) (.cells (madeCells #[.int .u8 0] n) 5)
  obtain ⟨C, hC⟩ : ∃ C : Option Addr, C = some ⟨w3.heap.size, 0, none⟩ := ⟨_, rfl⟩
  rw [← hC] at hm ⊢
  generalize w3.alloc (.cells (madeCells #[.int .u8 0] n) 5) = w4 at hm hb ⊢
  clear hC
  have Rm := Lib.hid hm
  have Mm : Hid (n = (List.replicate n (0 : UInt8)).length) := by show _ = _; simp
  have ON := Lib.hid (okq_noughts n)
  clear hm
  have B4 := Lib.hid (chain B3.out hb)
  replace Rs := Lib.hid (Rs.out.below hb)
  replace Rzs := Lib.hid (Rzs.out.below hb)
  replace Rb := Lib.hid (Rb.out.below hb)
  clear hb B3
  obtain ⟨zs0, zs1, zs2, zs3, zs4⟩ := Rzs.out.cells
  have zsl := Rzs.out.lt
  try dsimp only at zs0 zs1 zs2 zs3 zs4
  refine (get16 C n n (List.replicate n 0) _ Rm.out Mm.out (Nat.le_refl _) (by omega)).mono ?_
  rintro e w5 ⟨Ax, kx, nx, rfl, h1, h2, hb, h4, _⟩
  rw [getq_no ON.out] at h1 h2
  rw [getq_no ON.out, ON.out]
  unfold secv Sec.z
  dsimp only
  have Mx := Lib.hid h1; have Rx := Lib.hid h2; have Kx := Lib.hid h4
  clear h1 h2 h4
  clear zs0 zs1 zs2 zs3 zs4 zsl
  have B5 := Lib.hid (chain B4.out hb)
  replace Rs := Lib.hid (Rs.out.below hb)
  replace Rzs := Lib.hid (Rzs.out.below hb)
  replace Rb := Lib.hid (Rb.out.below hb)
  replace Rm := Lib.hid (Rm.out.below hb)
  clear hb B4
  obtain rfl : nx = 0 := Mx.out
  clear ON
  obtain ⟨zs0, zs1, zs2, zs3, zs4⟩ := Rzs.out.cells
  have zsl := Rzs.out.lt
  try dsimp only at zs0 zs1 zs2 zs3 zs4
  clear zs0 zs1 zs2 zs3 zs4 zsl
  obtain ⟨w6, hw6⟩ : ∃ W, W = (w5).alloc (.cells #[.int .i64 0, .int .i64 0, .int .i64 0, .int .i64 0, .slice Ax 0 kx] 24) := ⟨_, rfl⟩
  have hq : QB w6 (w5).heap.size Sec.z Ax 0 kx := by rw [hw6]; exact QB.new (w5) Sec.z Ax 0 kx
  have hb : Below (w5).heap.size (w5) w6 := by rw [hw6]; exact chain_alloc (Below.refl _ _) _
  obtain ⟨zx, hzx⟩ : ∃ z, z = (w5).heap.size := ⟨_, rfl⟩
  rw [← hzx] at hq
  have Rzx := Lib.hid hq
  clear hq
  have B6 := Lib.hid (chain B5.out hb)
  replace Rs := Lib.hid (Rs.out.below hb)
  replace Rzs := Lib.hid (Rzs.out.below hb)
  replace Rb := Lib.hid (Rb.out.below hb)
  replace Rm := Lib.hid (Rm.out.below hb)
  replace Rx := Lib.hid (Rx.out.below hb)
  clear hb B5
  obtain ⟨zs0, zs1, zs2, zs3, zs4⟩ := Rzs.out.cells
  have zsl := Rzs.out.lt
  try dsimp only at zs0 zs1 zs2 zs3 zs4
  obtain ⟨zx0, zx1, zx2, zx3, zx4⟩ := Rzx.out.cells
  have zxl := Rzx.out.lt
  try dsimp only at zx0 zx1 zx2 zx3 zx4
  subst hw6
  subst hzx
  clear Rm
  clear Rx
  clear Rzx zx0 zx1 zx2 zx3 zx4 zxl
  clear Rs
  obtain ⟨q, hq⟩ : ∃ q : Nat, q = n % 64 := ⟨_, rfl⟩
  have eq64 : (n : Int) % 64 = (q : Int) := by omega
  have q64 : q < 64 := by omega
  have qle : q ≤ 64 := by omega
  have tob := b_to16 Ab 64 kb q qle Kb.out
  have Rt := Lib.hid (bg_take16 Rb.out q)
  have Mt : Hid (q = (L.take q).length) := by show _ = _; rw [List.length_take, PLs.out]; omega
  have Kt : Hid (q ≤ kb) := Nat.le_trans qle Kb.out
  have ON := Lib.hid (okq_len (l := L.take q) (by rw [← Mt.out]; omega))
  clear hq
  go_wp2_with fail
  refine (get16 Ab kb q (L.take q) _ Rt.out Mt.out Kt.out (by omega)).mono ?_
  rintro e w7 ⟨Au, ku, nu, rfl, h1, h2, hb, h4, _⟩
  rw [getq_no ON.out] at h1 h2
  rw [getq_no ON.out, ON.out]
  unfold secv Sec.z
  dsimp only
  have Mu := Lib.hid h1
  clear h1 h2 h4
  clear zs0 zs1 zs2 zs3 zs4 zsl tob q64 qle eq64
  have B7 := Lib.hid (chain B6.out hb)
  replace Rzs := Lib.hid (Rzs.out.below hb)
  replace Rb := Lib.hid (Rb.out.below hb)
  clear hb B6 Rt Mt Kt
  obtain rfl : nu = 0 := Mu.out
  clear ON Mu
  have bz8 := chain_alloc (Below.refl _ w7) (.cells #[.int .i64 0, .int .i64 0, .int .i64 0, .int .i64 0, .slice Au 0 ku] 24)
  have hbl := chain_alloc bz8 (.cells #[] 5)
  have ol : ((w7.alloc (.cells #[.int .i64 0, .int .i64 0, .int .i64 0, .int .i64 0, .slice Au 0 ku] 24)).alloc (.cells #[] 5)).ownsRow (w7.heap.size + 1) 5 1 (.slice (some ⟨w7.heap.size + 1, 0, none⟩) 0 0) 0 (([] : List UInt8).flatMap bcells) := by
    have := World.ownsRow_lit (base := (w7.alloc (.cells #[.int .i64 0, .int .i64 0, .int .i64 0, .int .i64 0, .slice Au 0 ku] 24)).heap.size) (e := 5) (size := 1) (w7.alloc (.cells #[.int .i64 0, .int .i64 0, .int .i64 0, .int .i64 0, .slice Au 0 ku] 24)) #[] 0 (Nat.le_refl _) (by decide) rfl
    have e : (w7.alloc (.cells #[.int .i64 0, .int .i64 0, .int .i64 0, .int .i64 0, .slice Au 0 ku] 24)).heap.size = w7.heap.size + 1 := by simp
    rw [e] at this
    exact this
  have sl : ((w7.alloc (.cells #[.int .i64 0, .int .i64 0, .int .i64 0, .int .i64 0, .slice Au 0 ku] 24)).alloc (.cells #[] 5)).heap.size = w7.heap.size + 2 := by simp
  obtain ⟨oav, wa, runa, oa, oab⟩ := b_append_run (m := 64) ol Ab kb (Rb.out.below hbl) Mb.out (by decide) (by omega)
  rw [List.nil_append, Nat.zero_add] at oa
  have oah : Below w7.heap.size w7 wa := hbl.trans (oab.mono (by omega))
  have oas := oab.size
  obtain ⟨vb2, wb, runb, ob, bb⟩ := b_append_run (m := 1) (oa.alloc (.cells #[.int .u8 (bz cy)] 5)) (some ⟨wa.heap.size, 0, none⟩) 1 (rg_byte wa cy rfl) rfl (by decide) (by simp; omega)
  obtain ⟨Ag, kg, rfl, yg, rg, y8, y7⟩ := own_cap bcells_len (by decide) ob
  have Rg9 := Lib.hid rg
  have Mg : Hid (65 = (L ++ [cy]).length) := by show _ = _; rw [List.length_append, PLs.out]; rfl
  have Kg : Hid (65 ≤ kg) := y8
  have ON := Lib.hid (okq_len (l := L ++ [cy]) (by rw [← Mg.out]; decide))
  have hbb := Lib.hid ((chain_alloc oah (.cells #[.int .u8 (bz cy)] 5)).trans (bb.mono (by omega)))
  have RA := Lib.hid runa; have RB := Lib.hid runb
  clear oa ob oah oab oas bb yg rg y8 y7 bz8 hbl ol sl runa runb
  go_wp2_with (first | refine Lib.wpList_append_run _ rfl (.tmp 49) (.tmp 50) _ _ rfl (.slice (some ⟨w7.heap.size + 1, 0, none⟩) 0 0) (.slice Ab 64 kb) rfl rfl oav wa RA.out ?_ | refine Lib.wpList_append_run _ rfl (.tmp 51) (.tmp 53) _ _ rfl oav (.slice (some ⟨wa.heap.size, 0, none⟩) 1 1) rfl rfl (.slice Ag (64 + 1) kg) wb RB.out ?_ | fail)
  clear RA RB
  refine (get16 Ag kg 65 (L ++ [cy]) _ Rg9.out Mg.out Kg.out (by decide) (HT.out.below (chain B7.out hbb.out))).mono ?_
  rintro e wc ⟨Av, kv, nv, rfl, h1, h2, hb, h4, _⟩
  rw [getq_no ON.out] at h1 h2
  rw [getq_no ON.out, ON.out]
  unfold secv Sec.z
  dsimp only
  have Mv := Lib.hid h1
  have BC := Lib.hid (chain hbb.out hb)
  clear h1 h2 h4 hb
  obtain rfl : nv = 0 := Mv.out
  have bz9 := chain_alloc BC.out (.cells #[.int .i64 0, .int .i64 0, .int .i64 0, .int .i64 0, .slice Av 0 kv] 24)
  have B9 := Lib.hid (chain B7.out bz9)
  replace Rzs := Lib.hid (Rzs.out.below bz9)
  replace Rb := Lib.hid (Rb.out.below bz9)
  clear bz9 BC hbb B7 Mv ON Rg9 Mg Kg
  go_wp2_with fail
  generalize wc.alloc (.cells #[.int .i64 0, .int .i64 0, .int .i64 0, .int .i64 0, .slice Av 0 kv] 24) = w9 at B9 Rzs Rb ⊢
  obtain ⟨m, hm⟩ : ∃ m, m = 50 - ns := ⟨_, rfl⟩
  have em := S50.out
  have e1 : (50 : Int) - (ns : Int) = (m : Int) := by omega
  have v1 : IntKind.i64.wrap ((50 : Int) - (ns : Int)) = (m : Int) := by rw [IntWalk.i64_in _ (by omega)]; omega
  have v2 : wrap64 ((50 : Int) - (ns : Int)) = (m : Int) := by rw [IntWalk.wrap64_in _ (by omega)]; omega
  obtain ⟨a, ha⟩ : ∃ a, a = 14 + ns := ⟨_, rfl⟩
  have v3 : IntKind.i64.wrap (14 + (ns : Int)) = (a : Int) := by rw [IntWalk.i64_in _ (by omega)]; omega
  have v4 : wrap64 (14 + (ns : Int)) = (a : Int) := by rw [IntWalk.wrap64_in _ (by omega)]; omega
  have v5 : IntKind.i64.wrap (n : Int) = (n : Int) := IntWalk.i64_in _ (by omega)
  have v6 : wrap64 (n : Int) = (n : Int) := IntWalk.wrap64_in _ (by omega)
  have HM := Lib.hid hm; have HA := Lib.hid ha
  by_cases m0 : m = 0
  · have a64 : a = 64 := by omega
    subst m0
    subst a64
    have w64 : IntKind.i64.wrap 64 = 64 := IntWalk.i64_in 64 (by omega)
    have w65 : wrap64 64 = 64 := IntWalk.wrap64_in 64 (by omega)
    clear hm em ha e1
    refine wp_region_noPanic ?_
    refine wp_region_held_drew (S := fun w' => Below w9.heap.size w9 w') (by kernel_rfl) (below_drew w9) (fun hHeld => ?_)
    refine wpAnyH_take (i := 0) (v := ?vw1) (by simp only [List.getElem?_toArray, List.getElem?_cons_zero]; rfl) (by kernel_rfl) (by kernel_rfl) (by kernel_rfl) (fun _ _ _ h => h) (Or.inl ⟨by rfl, ?yw1⟩) (by assumption) ?rw1
    case yw1 => (intro w hSw; have zz := (Rzs.out.below hSw).cells; obtain ⟨zs0, zs1, zs2, zs3, zs4⟩ := zz; (try dsimp only at zs0 zs1 zs2 zs3 zs4); (try dsimp only at hSw); go_simp; first | done | with_reducible rfl)
    simp only [Act.put, List.setIfInBounds_toArray, List.set_cons_zero, List.set_cons_succ]
    refine wpAnyH_take (i := 1) (v := ?vw2) (by simp only [List.getElem?_toArray, List.getElem?_cons_zero, List.getElem?_cons_succ]; rfl) (by kernel_rfl) (by kernel_rfl) (by kernel_rfl) (fun _ _ _ h => h) (Or.inl ⟨by rfl, ?yw2⟩) (by assumption) ?rw2
    case yw2 => (intro w hSw; have zz := (Rzs.out.below hSw).cells; obtain ⟨zs0, zs1, zs2, zs3, zs4⟩ := zz; (try dsimp only at zs0 zs1 zs2 zs3 zs4); (try dsimp only at hSw); go_simp; first | done | with_reducible rfl)
    simp only [Act.put, List.setIfInBounds_toArray, List.set_cons_zero, List.set_cons_succ]
    refine wpAnyH_take (i := 2) (v := ?vw3) (by simp only [List.getElem?_toArray, List.getElem?_cons_zero, List.getElem?_cons_succ]; rfl) (by kernel_rfl) (by kernel_rfl) (by kernel_rfl) (fun _ _ _ h => h) (Or.inl ⟨by rfl, ?yw3⟩) (by assumption) ?rw3
    case yw3 => (intro w hSw; have zz := (Rzs.out.below hSw).cells; obtain ⟨zs0, zs1, zs2, zs3, zs4⟩ := zz; (try dsimp only at zs0 zs1 zs2 zs3 zs4); (try dsimp only at hSw); go_simp; first | done | with_reducible rfl)
    simp only [Act.put, List.setIfInBounds_toArray, List.set_cons_zero, List.set_cons_succ]
    refine wpAnyH_take (i := 3) (v := ?vw4) (by simp only [List.getElem?_toArray, List.getElem?_cons_zero, List.getElem?_cons_succ]; rfl) (by kernel_rfl) (by kernel_rfl) (by kernel_rfl) (fun _ _ _ h => h) (Or.inl ⟨by rfl, ?yw4⟩) (by assumption) ?rw4
    case yw4 => (intro w hSw; have zz := (Rzs.out.below hSw).cells; obtain ⟨zs0, zs1, zs2, zs3, zs4⟩ := zz; (try dsimp only at zs0 zs1 zs2 zs3 zs4); (try dsimp only at hSw); go_simp; first | done | with_reducible rfl)
    simp only [Act.put, List.setIfInBounds_toArray, List.set_cons_zero, List.set_cons_succ]
    refine wpAnyH_take (i := 4) (v := ?vw5) (by simp only [List.getElem?_toArray, List.getElem?_cons_zero, List.getElem?_cons_succ]; rfl) (by kernel_rfl) (by kernel_rfl) (by kernel_rfl) (fun _ _ _ h => h) (Or.inl ⟨by rfl, ?yw5⟩) (by assumption) ?rw5
    case yw5 => (intro w hSw; have zz := (Rzs.out.below hSw).cells; obtain ⟨zs0, zs1, zs2, zs3, zs4⟩ := zz; (try dsimp only at zs0 zs1 zs2 zs3 zs4); (try dsimp only at hSw); go_simp; first | done | with_reducible rfl)
    simp only [Act.put, List.setIfInBounds_toArray, List.set_cons_zero, List.set_cons_succ]
    refine wpAnyH_take (i := 5) (v := ?vw6) (by simp only [List.getElem?_toArray, List.getElem?_cons_zero, List.getElem?_cons_succ]; rfl) (by kernel_rfl) (by kernel_rfl) (by kernel_rfl) (fun _ _ _ h => h) (Or.inl ⟨by rfl, ?yw6⟩) (by assumption) ?rw6
    case yw6 => (intro w hSw; have zz := (Rzs.out.below hSw).cells; obtain ⟨zs0, zs1, zs2, zs3, zs4⟩ := zz; (try dsimp only at zs0 zs1 zs2 zs3 zs4); (try dsimp only at hSw); go_simp; first | done | with_reducible rfl)
    simp only [Act.put, List.setIfInBounds_toArray, List.set_cons_zero, List.set_cons_succ]
    refine wpAnyH_take (i := 6) (v := ?vw7) (by simp only [List.getElem?_toArray, List.getElem?_cons_zero, List.getElem?_cons_succ]; rfl) (by kernel_rfl) (by kernel_rfl) (by kernel_rfl) (fun _ _ _ h => h) (Or.inl ⟨by rfl, ?yw7⟩) (by assumption) ?rw7
    case yw7 => (intro w hSw; have zz := (Rzs.out.below hSw).cells; obtain ⟨zs0, zs1, zs2, zs3, zs4⟩ := zz; (try dsimp only at zs0 zs1 zs2 zs3 zs4); (try dsimp only at hSw); go_simp; first | done | with_reducible rfl)
    simp only [Act.put, List.setIfInBounds_toArray, List.set_cons_zero, List.set_cons_succ]
    refine wpAnyH_take (i := 7) (v := ?vw8) (by simp only [List.getElem?_toArray, List.getElem?_cons_zero, List.getElem?_cons_succ]; rfl) (by kernel_rfl) (by kernel_rfl) (by kernel_rfl) (fun _ _ _ h => h) (Or.inl ⟨by rfl, ?yw8⟩) (by assumption) ?rw8
    case yw8 => (intro w hSw; have zz := (Rzs.out.below hSw).cells; obtain ⟨zs0, zs1, zs2, zs3, zs4⟩ := zz; (try dsimp only at zs0 zs1 zs2 zs3 zs4); (try dsimp only at hSw); go_simp; first | done | with_reducible rfl)
    simp only [Act.put, List.setIfInBounds_toArray, List.set_cons_zero, List.set_cons_succ]
    refine wpAnyH_take (i := 8) (v := ?vw9) (by simp only [List.getElem?_toArray, List.getElem?_cons_zero, List.getElem?_cons_succ]; rfl) (by kernel_rfl) (by kernel_rfl) (by kernel_rfl) (fun _ _ _ h => h) (Or.inl ⟨by rfl, ?yw9⟩) (by assumption) ?rw9
    case yw9 => (intro w hSw; have zz := (Rzs.out.below hSw).cells; obtain ⟨zs0, zs1, zs2, zs3, zs4⟩ := zz; (try dsimp only at zs0 zs1 zs2 zs3 zs4); (try dsimp only at hSw); go_simp; first | done | with_reducible rfl)
    simp only [Act.put, List.setIfInBounds_toArray, List.set_cons_zero, List.set_cons_succ]
    refine wpAnyH_take (i := 9) (v := ?vw10) (by simp only [List.getElem?_toArray, List.getElem?_cons_zero, List.getElem?_cons_succ]; rfl) (by kernel_rfl) (by kernel_rfl) (by kernel_rfl) (fun _ _ _ h => h) (Or.inl ⟨by rfl, ?yw10⟩) (by assumption) ?rw10
    case yw10 => (intro w hSw; have zz := (Rzs.out.below hSw).cells; obtain ⟨zs0, zs1, zs2, zs3, zs4⟩ := zz; (try dsimp only at zs0 zs1 zs2 zs3 zs4); (try dsimp only at hSw); go_simp; first | done | with_reducible rfl)
    simp only [Act.put, List.setIfInBounds_toArray, List.set_cons_zero, List.set_cons_succ]
    refine wpAnyH_take (i := 10) (v := ?vw11) (by simp only [List.getElem?_toArray, List.getElem?_cons_zero, List.getElem?_cons_succ]; rfl) (by kernel_rfl) (by kernel_rfl) (by kernel_rfl) (fun _ _ _ h => h) (Or.inl ⟨by rfl, ?yw11⟩) (by assumption) ?rw11
    case yw11 => (intro w hSw; have zz := (Rzs.out.below hSw).cells; obtain ⟨zs0, zs1, zs2, zs3, zs4⟩ := zz; (try dsimp only at zs0 zs1 zs2 zs3 zs4); (try dsimp only at hSw); go_simp; first | done | with_reducible rfl)
    simp only [Act.put, List.setIfInBounds_toArray, List.set_cons_zero, List.set_cons_succ]
    refine wpAnyH_take (i := 11) (v := ?vw12) (by simp only [List.getElem?_toArray, List.getElem?_cons_zero, List.getElem?_cons_succ]; rfl) (by kernel_rfl) (by kernel_rfl) (by kernel_rfl) (fun _ _ _ h => h) (Or.inl ⟨by rfl, ?yw12⟩) (by assumption) ?rw12
    case yw12 => (intro w hSw; have zz := (Rzs.out.below hSw).cells; obtain ⟨zs0, zs1, zs2, zs3, zs4⟩ := zz; (try dsimp only at zs0 zs1 zs2 zs3 zs4); (try dsimp only at hSw); go_simp; first | done | with_reducible rfl)
    simp only [Act.put, List.setIfInBounds_toArray, List.set_cons_zero, List.set_cons_succ]
    refine wpAnyH_take (i := 12) (v := ?vw13) (by simp only [List.getElem?_toArray, List.getElem?_cons_zero, List.getElem?_cons_succ]; rfl) (by kernel_rfl) (by kernel_rfl) (by kernel_rfl) (fun _ _ _ h => h) (Or.inl ⟨by rfl, ?yw13⟩) (by assumption) ?rw13
    case yw13 => (intro w hSw; have zz := (Rzs.out.below hSw).cells; obtain ⟨zs0, zs1, zs2, zs3, zs4⟩ := zz; (try dsimp only at zs0 zs1 zs2 zs3 zs4); (try dsimp only at hSw); go_simp; first | done | with_reducible rfl)
    simp only [Act.put, List.setIfInBounds_toArray, List.set_cons_zero, List.set_cons_succ]
    refine wpAnyH_take (i := 13) (v := ?vw14) (by simp only [List.getElem?_toArray, List.getElem?_cons_zero, List.getElem?_cons_succ]; rfl) (by kernel_rfl) (by kernel_rfl) (by kernel_rfl) (fun _ _ _ h => h) (Or.inl ⟨by rfl, ?yw14⟩) (by assumption) ?rw14
    case yw14 => (intro w hSw; have zz := (Rzs.out.below hSw).cells; obtain ⟨zs0, zs1, zs2, zs3, zs4⟩ := zz; (try dsimp only at zs0 zs1 zs2 zs3 zs4); (try dsimp only at hSw); go_simp; first | done | with_reducible rfl)
    simp only [Act.put, List.setIfInBounds_toArray, List.set_cons_zero, List.set_cons_succ]
    refine wpAnyH_done (by kernel_rfl) ?_ _
    refine NoPanic.normal ?_
    clear hHeld
    have BD := Lib.hid (below_drew w9)
    generalize w9.drew = w10 at BD ⊢
    go_wp2_with fail
    go_ret
    exact ⟨rfl, chain B9.out BD.out⟩
  · have d1 : decide ((m : Int) < 1) = false := decide_eq_false (by omega)
    have d2 : decide ((1 : Int) > (m : Int)) = false := decide_eq_false (by omega)
    have d3 : max (m : Int) 1 = (m : Int) := by omega
    have d4 : decide (m < 1) = false := decide_eq_false (by omega)
    have mz : ¬ (m : Int) = 0 := by omega
    have mlt : ¬ (m : Int) < 1 := by omega
    have mif : (if (m : Int) < 1 then (1 : Int) else (m : Int)) = (m : Int) := if_neg mlt
    have mz1 : ((m : Int) == 0) = false := by simp; omega
    have mz2 : ¬ m = 0 := m0
    obtain ⟨r, rm, e3⟩ : ∃ r : Nat, r < m ∧ (n : Int) % (m : Int) = (r : Int) := ⟨n % m, Nat.mod_lt _ (Nat.pos_of_ne_zero m0), (Int.natCast_emod n m).symm⟩
    have e2 : (n : Int).tmod (m : Int) = (r : Int) := (Int.tmod_eq_emod_of_nonneg (Int.natCast_nonneg n)).trans e3
    have E2 := Lib.hid e2; have E3 := Lib.hid e3
    clear e2 e3
    obtain ⟨kk, hkk⟩ : ∃ kk, kk = a + r := ⟨_, rfl⟩
    have k64 : kk < 64 := by omega
    have r50 : r ≤ 50 := by omega
    have d5 : decide ((kk : Int) ≥ 64) = false := decide_eq_false (by omega)
    have d6 : decide ((64 : Int) ≤ (kk : Int)) = false := decide_eq_false (by omega)
    have d7 : decide (64 ≤ kk) = false := decide_eq_false (by omega)
    have K1 : Hid (14 + ns ≤ kk) := by show _ ≤ _; omega
    have K2 := Lib.hid k64
    have a99 : a ≤ 64 := by omega
    have v7 := wrap_two a r kk a99 r50 hkk
    have v8 := wrap_two2 a r kk a99 r50 hkk
    have v9 := wrap_few r r50
    have v10 := wrap_few2 r r50
    have e2 := E2.out; have e3 := E3.out
    clear hm em ha e1 m0 rm hkk k64 E2 E3 r50 a99
    refine wp_region_noPanic ?_
    refine wp_region_held_drew (S := fun w' => Below w9.heap.size w9 w') (by kernel_rfl) (below_drew w9) (fun hHeld => ?_)
    refine wpAnyH_take (i := 0) (v := ?vw15) (by simp only [List.getElem?_toArray, List.getElem?_cons_zero]; rfl) (by kernel_rfl) (by kernel_rfl) (by kernel_rfl) (fun _ _ _ h => h) (Or.inl ⟨by rfl, ?yw15⟩) (by assumption) ?rw15
    case yw15 => (intro w hSw; have zz := (Rzs.out.below hSw).cells; obtain ⟨zs0, zs1, zs2, zs3, zs4⟩ := zz; (try dsimp only at zs0 zs1 zs2 zs3 zs4); (try dsimp only at hSw); go_simp; first | done | with_reducible rfl)
    simp only [Act.put, List.setIfInBounds_toArray, List.set_cons_zero, List.set_cons_succ]
    refine wpAnyH_take (i := 1) (v := ?vw16) (by simp only [List.getElem?_toArray, List.getElem?_cons_zero, List.getElem?_cons_succ]; rfl) (by kernel_rfl) (by kernel_rfl) (by kernel_rfl) (fun _ _ _ h => h) (Or.inl ⟨by rfl, ?yw16⟩) (by assumption) ?rw16
    case yw16 => (intro w hSw; have zz := (Rzs.out.below hSw).cells; obtain ⟨zs0, zs1, zs2, zs3, zs4⟩ := zz; (try dsimp only at zs0 zs1 zs2 zs3 zs4); (try dsimp only at hSw); go_simp; first | done | with_reducible rfl)
    simp only [Act.put, List.setIfInBounds_toArray, List.set_cons_zero, List.set_cons_succ]
    refine wpAnyH_take (i := 2) (v := ?vw17) (by simp only [List.getElem?_toArray, List.getElem?_cons_zero, List.getElem?_cons_succ]; rfl) (by kernel_rfl) (by kernel_rfl) (by kernel_rfl) (fun _ _ _ h => h) (Or.inl ⟨by rfl, ?yw17⟩) (by assumption) ?rw17
    case yw17 => (intro w hSw; have zz := (Rzs.out.below hSw).cells; obtain ⟨zs0, zs1, zs2, zs3, zs4⟩ := zz; (try dsimp only at zs0 zs1 zs2 zs3 zs4); (try dsimp only at hSw); go_simp; first | done | with_reducible rfl)
    simp only [Act.put, List.setIfInBounds_toArray, List.set_cons_zero, List.set_cons_succ]
    refine wpAnyH_take (i := 3) (v := ?vw18) (by simp only [List.getElem?_toArray, List.getElem?_cons_zero, List.getElem?_cons_succ]; rfl) (by kernel_rfl) (by kernel_rfl) (by kernel_rfl) (fun _ _ _ h => h) (Or.inl ⟨by rfl, ?yw18⟩) (by assumption) ?rw18
    case yw18 => (intro w hSw; have zz := (Rzs.out.below hSw).cells; obtain ⟨zs0, zs1, zs2, zs3, zs4⟩ := zz; (try dsimp only at zs0 zs1 zs2 zs3 zs4); (try dsimp only at hSw); go_simp; first | done | with_reducible rfl)
    simp only [Act.put, List.setIfInBounds_toArray, List.set_cons_zero, List.set_cons_succ]
    refine wpAnyH_take (i := 4) (v := ?vw19) (by simp only [List.getElem?_toArray, List.getElem?_cons_zero, List.getElem?_cons_succ]; rfl) (by kernel_rfl) (by kernel_rfl) (by kernel_rfl) (fun _ _ _ h => h) (Or.inl ⟨by rfl, ?yw19⟩) (by assumption) ?rw19
    case yw19 => (intro w hSw; have zz := (Rzs.out.below hSw).cells; obtain ⟨zs0, zs1, zs2, zs3, zs4⟩ := zz; (try dsimp only at zs0 zs1 zs2 zs3 zs4); (try dsimp only at hSw); go_simp; first | done | with_reducible rfl)
    simp only [Act.put, List.setIfInBounds_toArray, List.set_cons_zero, List.set_cons_succ]
    refine wpAnyH_take (i := 5) (v := ?vw20) (by simp only [List.getElem?_toArray, List.getElem?_cons_zero, List.getElem?_cons_succ]; rfl) (by kernel_rfl) (by kernel_rfl) (by kernel_rfl) (fun _ _ _ h => h) (Or.inl ⟨by rfl, ?yw20⟩) (by assumption) ?rw20
    case yw20 => (intro w hSw; have zz := (Rzs.out.below hSw).cells; obtain ⟨zs0, zs1, zs2, zs3, zs4⟩ := zz; (try dsimp only at zs0 zs1 zs2 zs3 zs4); (try dsimp only at hSw); go_simp; first | done | with_reducible rfl)
    simp only [Act.put, List.setIfInBounds_toArray, List.set_cons_zero, List.set_cons_succ]
    refine wpAnyH_take (i := 6) (v := ?vw21) (by simp only [List.getElem?_toArray, List.getElem?_cons_zero, List.getElem?_cons_succ]; rfl) (by kernel_rfl) (by kernel_rfl) (by kernel_rfl) (fun _ _ _ h => h) (Or.inl ⟨by rfl, ?yw21⟩) (by assumption) ?rw21
    case yw21 => (intro w hSw; have zz := (Rzs.out.below hSw).cells; obtain ⟨zs0, zs1, zs2, zs3, zs4⟩ := zz; (try dsimp only at zs0 zs1 zs2 zs3 zs4); (try dsimp only at hSw); go_simp; first | done | with_reducible rfl)
    simp only [Act.put, List.setIfInBounds_toArray, List.set_cons_zero, List.set_cons_succ]
    refine wpAnyH_take (i := 7) (v := ?vw22) (by simp only [List.getElem?_toArray, List.getElem?_cons_zero, List.getElem?_cons_succ]; rfl) (by kernel_rfl) (by kernel_rfl) (by kernel_rfl) (fun _ _ _ h => h) (Or.inl ⟨by rfl, ?yw22⟩) (by assumption) ?rw22
    case yw22 => (intro w hSw; have zz := (Rzs.out.below hSw).cells; obtain ⟨zs0, zs1, zs2, zs3, zs4⟩ := zz; (try dsimp only at zs0 zs1 zs2 zs3 zs4); (try dsimp only at hSw); go_simp; first | done | with_reducible rfl)
    simp only [Act.put, List.setIfInBounds_toArray, List.set_cons_zero, List.set_cons_succ]
    refine wpAnyH_take (i := 8) (v := ?vw23) (by simp only [List.getElem?_toArray, List.getElem?_cons_zero, List.getElem?_cons_succ]; rfl) (by kernel_rfl) (by kernel_rfl) (by kernel_rfl) (fun _ _ _ h => h) (Or.inl ⟨by rfl, ?yw23⟩) (by assumption) ?rw23
    case yw23 => (intro w hSw; have zz := (Rzs.out.below hSw).cells; obtain ⟨zs0, zs1, zs2, zs3, zs4⟩ := zz; (try dsimp only at zs0 zs1 zs2 zs3 zs4); (try dsimp only at hSw); go_simp; first | done | with_reducible rfl)
    simp only [Act.put, List.setIfInBounds_toArray, List.set_cons_zero, List.set_cons_succ]
    refine wpAnyH_take (i := 9) (v := ?vw24) (by simp only [List.getElem?_toArray, List.getElem?_cons_zero, List.getElem?_cons_succ]; rfl) (by kernel_rfl) (by kernel_rfl) (by kernel_rfl) (fun _ _ _ h => h) (Or.inl ⟨by rfl, ?yw24⟩) (by assumption) ?rw24
    case yw24 => (intro w hSw; have zz := (Rzs.out.below hSw).cells; obtain ⟨zs0, zs1, zs2, zs3, zs4⟩ := zz; (try dsimp only at zs0 zs1 zs2 zs3 zs4); (try dsimp only at hSw); go_simp; first | done | with_reducible rfl)
    simp only [Act.put, List.setIfInBounds_toArray, List.set_cons_zero, List.set_cons_succ]
    refine wpAnyH_take (i := 10) (v := ?vw25) (by simp only [List.getElem?_toArray, List.getElem?_cons_zero, List.getElem?_cons_succ]; rfl) (by kernel_rfl) (by kernel_rfl) (by kernel_rfl) (fun _ _ _ h => h) (Or.inl ⟨by rfl, ?yw25⟩) (by assumption) ?rw25
    case yw25 => (intro w hSw; have zz := (Rzs.out.below hSw).cells; obtain ⟨zs0, zs1, zs2, zs3, zs4⟩ := zz; (try dsimp only at zs0 zs1 zs2 zs3 zs4); (try dsimp only at hSw); go_simp; first | done | with_reducible rfl)
    simp only [Act.put, List.setIfInBounds_toArray, List.set_cons_zero, List.set_cons_succ]
    refine wpAnyH_take (i := 11) (v := ?vw26) (by simp only [List.getElem?_toArray, List.getElem?_cons_zero, List.getElem?_cons_succ]; rfl) (by kernel_rfl) (by kernel_rfl) (by kernel_rfl) (fun _ _ _ h => h) (Or.inl ⟨by rfl, ?yw26⟩) (by assumption) ?rw26
    case yw26 => (intro w hSw; have zz := (Rzs.out.below hSw).cells; obtain ⟨zs0, zs1, zs2, zs3, zs4⟩ := zz; (try dsimp only at zs0 zs1 zs2 zs3 zs4); (try dsimp only at hSw); go_simp; first | done | with_reducible rfl)
    simp only [Act.put, List.setIfInBounds_toArray, List.set_cons_zero, List.set_cons_succ]
    refine wpAnyH_take (i := 12) (v := ?vw27) (by simp only [List.getElem?_toArray, List.getElem?_cons_zero, List.getElem?_cons_succ]; rfl) (by kernel_rfl) (by kernel_rfl) (by kernel_rfl) (fun _ _ _ h => h) (Or.inl ⟨by rfl, ?yw27⟩) (by assumption) ?rw27
    case yw27 => (intro w hSw; have zz := (Rzs.out.below hSw).cells; obtain ⟨zs0, zs1, zs2, zs3, zs4⟩ := zz; (try dsimp only at zs0 zs1 zs2 zs3 zs4); (try dsimp only at hSw); go_simp; first | done | with_reducible rfl)
    simp only [Act.put, List.setIfInBounds_toArray, List.set_cons_zero, List.set_cons_succ]
    refine wpAnyH_take (i := 13) (v := ?vw28) (by simp only [List.getElem?_toArray, List.getElem?_cons_zero, List.getElem?_cons_succ]; rfl) (by kernel_rfl) (by kernel_rfl) (by kernel_rfl) (fun _ _ _ h => h) (Or.inl ⟨by rfl, ?yw28⟩) (by assumption) ?rw28
    case yw28 => (intro w hSw; have zz := (Rzs.out.below hSw).cells; obtain ⟨zs0, zs1, zs2, zs3, zs4⟩ := zz; (try dsimp only at zs0 zs1 zs2 zs3 zs4); (try dsimp only at hSw); go_simp; first | done | with_reducible rfl)
    simp only [Act.put, List.setIfInBounds_toArray, List.set_cons_zero, List.set_cons_succ]
    refine wpAnyH_done (by kernel_rfl) ?_ _
    refine NoPanic.normal ?_
    clear hHeld
    have BD := Lib.hid (below_drew w9)
    generalize w9.drew = w10 at BD ⊢
    have BT := Lib.hid (chain B9.out BD.out)
    replace Rb := Lib.hid (Rb.out.below BD.out)
    have hbl2 := chain_alloc (Below.refl _ w10) (.cells #[] 5)
    have ol2 : (w10.alloc (.cells #[] 5)).ownsRow w10.heap.size 5 1 (.slice (some ⟨w10.heap.size, 0, none⟩) 0 0) 0 (([] : List UInt8).flatMap bcells) := World.ownsRow_lit w10 #[] 0 (Nat.le_refl _) (by decide) rfl
    obtain ⟨ocv, wd, runc, oc, ocb⟩ := b_append_run (m := 64) ol2 Ab kb (Rb.out.below hbl2) Mb.out (by decide) hbl2.size
    rw [List.nil_append, Nat.zero_add] at oc
    obtain ⟨gc, cc, rfl, gc1, gc2⟩ := World.ownsRow.form oc (by decide)
    have RC := Lib.hid runc
    have BD2 : Hid (Below w10.heap.size w10 wd) := hbl2.trans ocb
    have k64 := K2.out
    have cx := World.ownsRow.cellAt oc kk (by rw [Nat.mul_one]; exact k64)
    obtain ⟨u, hu⟩ : ∃ u, (L.flatMap bcells)[kk]? = some u := ⟨_, List.getElem?_eq_getElem (by rw [flat_len bcells_len, PLs.out, Nat.mul_one]; exact k64)⟩
    rw [hu] at cx
    have fx := World.ownsRow.frozenAt oc kk
    have OS := Lib.hid (own_byte (y := cy) oc k64)
    have ki : (kk : Int) < 64 := Int.ofNat_lt.2 k64
    have k0 : (0 : Int) ≤ (kk : Int) := Int.natCast_nonneg _
    have GC := Lib.hid gc1
    clear oc ocb hbl2 ol2 runc hu gc1
    go_wp2_with (first | refine Lib.wpList_append_run _ rfl (.tmp 82) (.tmp 83) _ _ rfl (.slice (some ⟨w10.heap.size, 0, none⟩) 0 0) (.slice Ab 64 kb) rfl rfl (.slice (some ⟨gc, 0, none⟩) 64 cc) wd RC.out ?_ | fail)
    have BE : Hid (Below w10.heap.size w10 (wd.setCell ⟨gc, kk, none⟩ (.int .u8 (bz cy)))) := BD2.out.setCell (p := ⟨gc, kk, none⟩) GC.out _
    generalize wd.setCell ⟨gc, kk, none⟩ (.int .u8 (bz cy)) = we at OS BE ⊢
    obtain ⟨A8, c8, e8, _, h8, h9, _⟩ := own_cap bcells_len (by decide) OS.out
    injection e8 with e8 _ e9
    subst e8 e9
    have R8 := Lib.hid h8
    have K8 := Lib.hid h9
    have M8 : Hid (64 = (L.set kk cy).length) := by show _ = _; rw [List.length_set, PLs.out]
    have S8 := Lib.hid (SET.out kk K1.out K2.out)
    clear h8 h9 cx fx k64
    refine (get16 _ cc 64 (L.set kk cy) _ R8.out M8.out K8.out (by decide) (HT.out.below (chain BT.out BE.out))).mono ?_
    rintro e wf ⟨Aw, kw, nw, rfl, h1, h2, hb, h4, _⟩
    have BF := Lib.hid (chain (chain BT.out BE.out) hb)
    by_cases zc : cy = 0
    · have e1 : okQ (L.set kk cy) = true := by rw [S8.out, zc]; rfl
      have b1 : (bz cy == 0) = true := by rw [zc]; rfl
      rw [e1]
      obtain ⟨sg, hsg⟩ : ∃ sg, sg = getQ (L.set kk cy) := ⟨_, rfl⟩
      rw [← hsg]
      obtain ⟨xg, xp, xt, xk, xb⟩ := sg
      unfold secv
      dsimp only
      have BG := Lib.hid (chain_alloc BF.out (.cells #[.int .i64 xg, .int .i64 xp, .int .i64 xt, .int .i64 xk, .slice Aw nw kw] 24))
      clear h1 h2 h4 hb hsg e1 zc
      go_wp2_with fail
      go_ret
      exact ⟨rfl, BG.out⟩
    · have e1 : okQ (L.set kk cy) = false := by rw [S8.out]; simpa using zc
      have b1 : (bz cy == 0) = false := by
        have : ¬ bz cy = 0 := fun e => zc (UInt8.toNat_inj.1 (by unfold bz at e; rw [Int.natCast_eq_zero.1 e]; rfl))
        simpa using this
      rw [e1, getq_no e1]
      rw [getq_no e1] at h1
      obtain rfl : nw = 0 := h1
      unfold secv Sec.z
      dsimp only
      have BG := Lib.hid (chain_alloc BF.out (.cells #[.int .i64 0, .int .i64 0, .int .i64 0, .int .i64 0, .slice Aw 0 kw] 24))
      clear h2 h4 hb e1 zc
      go_wp2_with fail
      refine (same_zero2 Aw kw _).mono ?_
      rintro e wh ⟨rfl, hb⟩
      have BH := Lib.hid (chain BG.out hb)
      clear hb
      go_wp2_with fail
      go_ret
      exact ⟨rfl, BH.out⟩

end Go.Proofs.YtjokaaekliapmaaDoor
