/-
  SectorBack: a right sector is got from its bytes, which are 64; bytes that are one's are those of what is got.
-/
import Derived.Test.YtjokaaekliapmaaDoorQHead
namespace Go.Proofs.YtjokaaekliapmaaDoor
open Go.RowKit

theorem q_nil : okQ [] = false := rfl
theorem same_zero (A : Option Addr) (c : Nat) (w : World) : Calls Tryd.prog 16 #[.agg #[.int .i64 0, .int .i64 0, .int .i64 0, .int .i64 0, .slice A 0 c], .agg #[.int .i64 0, .int .i64 0, .int .i64 0, .int .i64 0, .slice none 0 0]] w fun e w' => e = .returned (.bool true) ∧ Below w.heap.size w w' :=
  rsame16 Sec.z A none 0 c 0 0 w rfl rfl (Rg.nil _ _ _) (Rg.nil _ _ _)

set_option maxHeartbeats 8000000 in
set_option maxRecDepth 100000 in
theorem law_qback (gs ps ts ks : Int) (As : Option Addr) (cs ns : Nat) (xs : List UInt8) (Ab : Option Addr) (cb nb : Nat) (xb : List UInt8) (w : World) (hT : Wd w) (hs : Rg bcells w As xs) (ls : ns = xs.length) (qs : ns ≤ cs) (hb : Rg bcells w Ab xb) (lb : nb = xb.length) (qb : nb ≤ cb) :
    Calls Tryd.prog 4 #[.agg #[.int .i64 gs, .int .i64 ps, .int .i64 ts, .int .i64 ks, .slice As ns cs], .slice Ab nb cb] w fun e w' => e = .returned (.bool true) ∧ Below w.heap.size w w' := by
  have HT := Lib.hid hT
  clear hT
  have Rs := Lib.hid hs; have Ms := Lib.hid ls; have Ks := Lib.hid qs
  clear hs ls qs
  have Rb := Lib.hid hb; have Mb := Lib.hid lb; have Kb := Lib.hid qb
  clear hb lb qb
  by_cases g0 : 900 < ns
  · skip
    have d0 : decide (900 < (ns : Int)) = true := decide_eq_true (by omega)
    clear g0
    go_enter Tryd.func4, Tryd.ntmps4
    go_wp2_with fail
    have hqs := QB.new (w) ⟨gs, ps, ts, ks, xs⟩ As ns cs
    dsimp only at hqs
    have hb := chain_alloc (Below.refl _ w) (.cells #[.int .i64 gs, .int .i64 ps, .int .i64 ts, .int .i64 ks, .slice As ns cs] 24)
    obtain ⟨zs, hzs⟩ : ∃ z, z = w.heap.size := ⟨_, rfl⟩
    rw [← hzs] at hqs ⊢
    generalize (w).alloc (.cells #[.int .i64 gs, .int .i64 ps, .int .i64 ts, .int .i64 ks, .slice As ns cs] 24) = w1 at hb hqs ⊢
    have Rzs := Lib.hid hqs
    clear hqs hzs
    have B1 := Lib.hid hb
    replace Rs := Lib.hid (Rs.out.below hb)
    replace Rb := Lib.hid (Rb.out.below hb)
    clear hb
    refine (head16_any _).mono ?_
    rintro e w2 ⟨rfl, hb⟩
    have B2 := Lib.hid (chain B1.out hb)
    replace Rs := Lib.hid (Rs.out.below hb)
    replace Rb := Lib.hid (Rb.out.below hb)
    replace Rzs := Lib.hid (Rzs.out.below hb)
    clear hb B1
    obtain ⟨zs0, zs1, zs2, zs3, zs4⟩ := Rzs.out.cells
    have zsl := Rzs.out.lt
    try dsimp only at zs0 zs1 zs2 zs3 zs4
    go_wp2_with fail
    go_ret
    exact ⟨rfl, B2.out⟩
  have d0 : decide (900 < (ns : Int)) = false := decide_eq_false (by omega)
  by_cases g1 : 900 < nb
  · skip
    have d1 : decide (900 < (nb : Int)) = true := decide_eq_true (by omega)
    clear g0 g1
    go_enter Tryd.func4, Tryd.ntmps4
    go_wp2_with fail
    have hqs := QB.new (w) ⟨gs, ps, ts, ks, xs⟩ As ns cs
    dsimp only at hqs
    have hb := chain_alloc (Below.refl _ w) (.cells #[.int .i64 gs, .int .i64 ps, .int .i64 ts, .int .i64 ks, .slice As ns cs] 24)
    obtain ⟨zs, hzs⟩ : ∃ z, z = w.heap.size := ⟨_, rfl⟩
    rw [← hzs] at hqs ⊢
    generalize (w).alloc (.cells #[.int .i64 gs, .int .i64 ps, .int .i64 ts, .int .i64 ks, .slice As ns cs] 24) = w1 at hb hqs ⊢
    have Rzs := Lib.hid hqs
    clear hqs hzs
    have B1 := Lib.hid hb
    replace Rs := Lib.hid (Rs.out.below hb)
    replace Rb := Lib.hid (Rb.out.below hb)
    clear hb
    refine (head16_any _).mono ?_
    rintro e w2 ⟨rfl, hb⟩
    have B2 := Lib.hid (chain B1.out hb)
    replace Rs := Lib.hid (Rs.out.below hb)
    replace Rb := Lib.hid (Rb.out.below hb)
    replace Rzs := Lib.hid (Rzs.out.below hb)
    clear hb B1
    obtain ⟨zs0, zs1, zs2, zs3, zs4⟩ := Rzs.out.cells
    have zsl := Rzs.out.lt
    try dsimp only at zs0 zs1 zs2 zs3 zs4
    go_wp2_with fail
    go_ret
    exact ⟨rfl, B2.out⟩
  have d1 : decide (900 < (nb : Int)) = false := decide_eq_false (by omega)
  have s9 : ns ≤ 900 := by omega
  have b9 : nb ≤ 1000000 := by omega
  clear g0 g1
  have CR : Hid (∀ w, Calls Tryd.prog 12 #[secv ⟨gs, ps, ts, ks, xs⟩ As ns cs] w fun e w' => e = .returned (.bool (rightQ ⟨gs, ps, ts, ks, xs⟩)) ∧ Below w.heap.size w w') := fun w => right16 ⟨gs, ps, ts, ks, xs⟩ As ns cs w Ms.out
  have CP : Hid (∀ w, Rg bcells w As xs → Wd w → Calls Tryd.prog 14 #[secv ⟨gs, ps, ts, ks, xs⟩ As ns cs] w (BOwn (putQ ⟨gs, ps, ts, ks, xs⟩) w)) := fun w h t => put16 ⟨gs, ps, ts, ks, xs⟩ As ns cs w Ms.out h t
  unfold secv at CR CP
  dsimp only at CR CP
  rcases okp : rightQ ⟨gs, ps, ts, ks, xs⟩ with _ | _
  · skip
    have PN := Lib.hid (putq_no okp)
    rw [okp] at CR
    rw [PN.out] at CP
    clear okp
    go_enter Tryd.func4, Tryd.ntmps4
    go_wp2_with fail
    have hqs := QB.new (w) ⟨gs, ps, ts, ks, xs⟩ As ns cs
    dsimp only at hqs
    have hb := chain_alloc (Below.refl _ w) (.cells #[.int .i64 gs, .int .i64 ps, .int .i64 ts, .int .i64 ks, .slice As ns cs] 24)
    obtain ⟨zs, hzs⟩ : ∃ z, z = w.heap.size := ⟨_, rfl⟩
    rw [← hzs] at hqs ⊢
    generalize (w).alloc (.cells #[.int .i64 gs, .int .i64 ps, .int .i64 ts, .int .i64 ks, .slice As ns cs] 24) = w1 at hb hqs ⊢
    have Rzs := Lib.hid hqs
    clear hqs hzs
    have B1 := Lib.hid hb
    replace Rs := Lib.hid (Rs.out.below hb)
    replace Rb := Lib.hid (Rb.out.below hb)
    clear hb
    refine (head16_any _).mono ?_
    rintro e w2 ⟨rfl, hb⟩
    have B2 := Lib.hid (chain B1.out hb)
    replace Rs := Lib.hid (Rs.out.below hb)
    replace Rb := Lib.hid (Rb.out.below hb)
    replace Rzs := Lib.hid (Rzs.out.below hb)
    clear hb B1
    obtain ⟨zs0, zs1, zs2, zs3, zs4⟩ := Rzs.out.cells
    have zsl := Rzs.out.lt
    try dsimp only at zs0 zs1 zs2 zs3 zs4
    go_wp2_with fail
    refine (CP.out _ Rs.out (by first | assumption | exact Hid.out (by assumption) | exact Wd.below (Hid.out (by assumption)) (Hid.out (by assumption)) | exact Wd.below (by assumption) (Hid.out (by assumption)))).mono ?_
    rintro e w3 ⟨v, rfl, ho, hb⟩
    obtain ⟨Ap, kp, rfl, y9, rp, y8, y7⟩ := own_cap bcells_len (by decide) ho
    have Rp := Lib.hid rp
    rw [List.length_nil]
    clear ho y9 rp y8 y7
    clear zs0 zs1 zs2 zs3 zs4 zsl
    have B3 := Lib.hid (chain B2.out hb)
    replace Rs := Lib.hid (Rs.out.below hb)
    replace Rb := Lib.hid (Rb.out.below hb)
    replace Rzs := Lib.hid (Rzs.out.below hb)
    clear hb B2
    obtain ⟨zs0, zs1, zs2, zs3, zs4⟩ := Rzs.out.cells
    have zsl := Rzs.out.lt
    try dsimp only at zs0 zs1 zs2 zs3 zs4
    go_wp2_with fail
    refine (get16 Ap kp 0 [] _ Rp.out rfl (Nat.zero_le _) (by decide)).mono ?_
    rintro e w4 ⟨Ax, kx, nx, rfl, h1, h2, hb, h4, _⟩
    rw [getq_no q_nil] at h1 h2
    rw [getq_no q_nil, q_nil]
    unfold secv Sec.z
    dsimp only
    have Mx := Lib.hid h1; have Rx := Lib.hid h2; have Kx := Lib.hid h4
    clear h1 h2 h4
    clear zs0 zs1 zs2 zs3 zs4 zsl
    have B4 := Lib.hid (chain B3.out hb)
    replace Rs := Lib.hid (Rs.out.below hb)
    replace Rb := Lib.hid (Rb.out.below hb)
    replace Rzs := Lib.hid (Rzs.out.below hb)
    replace Rp := Lib.hid (Rp.out.below hb)
    clear hb B3
    obtain rfl : nx = 0 := Mx.out
    obtain ⟨zs0, zs1, zs2, zs3, zs4⟩ := Rzs.out.cells
    have zsl := Rzs.out.lt
    try dsimp only at zs0 zs1 zs2 zs3 zs4
    clear zs0 zs1 zs2 zs3 zs4 zsl
    obtain ⟨w5, hw5⟩ : ∃ W, W = (w4).alloc (.cells #[.int .i64 0, .int .i64 0, .int .i64 0, .int .i64 0, .slice Ax 0 kx] 24) := ⟨_, rfl⟩
    have hq : QB w5 (w4).heap.size Sec.z Ax 0 kx := by rw [hw5]; exact QB.new (w4) Sec.z Ax 0 kx
    have hb : Below (w4).heap.size (w4) w5 := by rw [hw5]; exact chain_alloc (Below.refl _ _) _
    obtain ⟨zx, hzx⟩ : ∃ z, z = (w4).heap.size := ⟨_, rfl⟩
    rw [← hzx] at hq
    have Rzx := Lib.hid hq
    clear hq
    have B5 := Lib.hid (chain B4.out hb)
    replace Rs := Lib.hid (Rs.out.below hb)
    replace Rb := Lib.hid (Rb.out.below hb)
    replace Rzs := Lib.hid (Rzs.out.below hb)
    replace Rp := Lib.hid (Rp.out.below hb)
    replace Rx := Lib.hid (Rx.out.below hb)
    clear hb B4
    obtain ⟨zs0, zs1, zs2, zs3, zs4⟩ := Rzs.out.cells
    have zsl := Rzs.out.lt
    try dsimp only at zs0 zs1 zs2 zs3 zs4
    obtain ⟨zx0, zx1, zx2, zx3, zx4⟩ := Rzx.out.cells
    have zxl := Rzx.out.lt
    try dsimp only at zx0 zx1 zx2 zx3 zx4
    subst hw5
    subst hzx
    go_wp2_with fail
    refine (CR.out _).mono ?_
    rintro e w6 ⟨rfl, hb⟩
    clear zs0 zs1 zs2 zs3 zs4 zsl zx0 zx1 zx2 zx3 zx4 zxl
    have B6 := Lib.hid (chain B5.out hb)
    replace Rs := Lib.hid (Rs.out.below hb)
    replace Rb := Lib.hid (Rb.out.below hb)
    replace Rzs := Lib.hid (Rzs.out.below hb)
    replace Rp := Lib.hid (Rp.out.below hb)
    replace Rx := Lib.hid (Rx.out.below hb)
    replace Rzx := Lib.hid (Rzx.out.below hb)
    clear hb B5
    obtain ⟨zs0, zs1, zs2, zs3, zs4⟩ := Rzs.out.cells
    have zsl := Rzs.out.lt
    try dsimp only at zs0 zs1 zs2 zs3 zs4
    obtain ⟨zx0, zx1, zx2, zx3, zx4⟩ := Rzx.out.cells
    have zxl := Rzx.out.lt
    try dsimp only at zx0 zx1 zx2 zx3 zx4
    clear Rp
    clear Rx
    clear Rzx zx0 zx1 zx2 zx3 zx4 zxl
    have tb := text_of (c := cb) Rb.out Mb.out
    rcases okb : okQ xb with _ | _
    · skip
      have Z := Lib.hid (getq_no okb); have Z3 := Lib.hid okb
      clear okb
      go_wp2_with fail
      refine (get16 Ab cb nb xb _ Rb.out Mb.out Kb.out b9).mono ?_
      rintro e w7 ⟨Ay, ky, ny, rfl, h1, h2, hb, h4, _⟩
      rw [Z.out] at h1 h2
      rw [Z.out, Z3.out]
      unfold secv Sec.z
      dsimp only
      have My := Lib.hid h1; have Ry := Lib.hid h2; have Ky := Lib.hid h4
      clear h1 h2 h4
      clear zs0 zs1 zs2 zs3 zs4 zsl
      have B7 := Lib.hid (chain B6.out hb)
      replace Rs := Lib.hid (Rs.out.below hb)
      replace Rb := Lib.hid (Rb.out.below hb)
      replace Rzs := Lib.hid (Rzs.out.below hb)
      clear tb
      clear hb B6
      have tb := text_of (c := cb) Rb.out Mb.out
      obtain ⟨zs0, zs1, zs2, zs3, zs4⟩ := Rzs.out.cells
      have zsl := Rzs.out.lt
      try dsimp only at zs0 zs1 zs2 zs3 zs4
      obtain rfl : ny = 0 := My.out
      clear zs0 zs1 zs2 zs3 zs4 zsl
      clear tb
      obtain ⟨w8, hw8⟩ : ∃ W, W = (w7).alloc (.cells #[.int .i64 0, .int .i64 0, .int .i64 0, .int .i64 0, .slice Ay 0 ky] 24) := ⟨_, rfl⟩
      have hq : QB w8 (w7).heap.size Sec.z Ay 0 ky := by rw [hw8]; exact QB.new (w7) Sec.z Ay 0 ky
      have hb : Below (w7).heap.size (w7) w8 := by rw [hw8]; exact chain_alloc (Below.refl _ _) _
      obtain ⟨zy, hzy⟩ : ∃ z, z = (w7).heap.size := ⟨_, rfl⟩
      rw [← hzy] at hq
      have Rzy := Lib.hid hq
      clear hq
      have B8 := Lib.hid (chain B7.out hb)
      replace Rs := Lib.hid (Rs.out.below hb)
      replace Rb := Lib.hid (Rb.out.below hb)
      replace Rzs := Lib.hid (Rzs.out.below hb)
      replace Ry := Lib.hid (Ry.out.below hb)
      clear hb B7
      have tb := text_of (c := cb) Rb.out Mb.out
      obtain ⟨zs0, zs1, zs2, zs3, zs4⟩ := Rzs.out.cells
      have zsl := Rzs.out.lt
      try dsimp only at zs0 zs1 zs2 zs3 zs4
      obtain ⟨zy0, zy1, zy2, zy3, zy4⟩ := Rzy.out.cells
      have zyl := Rzy.out.lt
      try dsimp only at zy0 zy1 zy2 zy3 zy4
      subst hw8
      subst hzy
      go_wp2_with fail
      refine (same_zero Ay ky _).mono ?_
      rintro e w9 ⟨rfl, hb⟩
      clear zs0 zs1 zs2 zs3 zs4 zsl zy0 zy1 zy2 zy3 zy4 zyl
      have B9 := Lib.hid (chain B8.out hb)
      replace Rs := Lib.hid (Rs.out.below hb)
      replace Rb := Lib.hid (Rb.out.below hb)
      replace Rzs := Lib.hid (Rzs.out.below hb)
      replace Ry := Lib.hid (Ry.out.below hb)
      replace Rzy := Lib.hid (Rzy.out.below hb)
      clear tb
      clear hb B8
      have tb := text_of (c := cb) Rb.out Mb.out
      obtain ⟨zs0, zs1, zs2, zs3, zs4⟩ := Rzs.out.cells
      have zsl := Rzs.out.lt
      try dsimp only at zs0 zs1 zs2 zs3 zs4
      obtain ⟨zy0, zy1, zy2, zy3, zy4⟩ := Rzy.out.cells
      have zyl := Rzy.out.lt
      try dsimp only at zy0 zy1 zy2 zy3 zy4
      go_wp2_with fail
      go_ret
      exact ⟨rfl, B9.out⟩
    · skip
      obtain ⟨z1, z2⟩ := putq_get okb
      have Z := Lib.hid (getq_yes okb); have Z3 := Lib.hid okb; have Z1 := Lib.hid z1; have Z2 := Lib.hid z2
      clear okb z1 z2
      obtain ⟨S, hS⟩ : ∃ S, S = secQ xb := ⟨_, rfl⟩
      rw [← hS] at Z Z1 Z2
      clear hS
      obtain ⟨gy, py, ty, ky0, xy⟩ := S
      go_wp2_with fail
      refine (get16 Ab cb nb xb _ Rb.out Mb.out Kb.out b9).mono ?_
      rintro e w7 ⟨Ay, ky, ny, rfl, h1, h2, hb, h4, _⟩
      rw [Z.out] at h1 h2
      rw [Z.out, Z3.out]
      unfold secv
      dsimp only at h1 h2 ⊢
      have My := Lib.hid h1; have Ry := Lib.hid h2; have Ky := Lib.hid h4
      clear h1 h2 h4
      clear zs0 zs1 zs2 zs3 zs4 zsl
      have B7 := Lib.hid (chain B6.out hb)
      replace Rs := Lib.hid (Rs.out.below hb)
      replace Rb := Lib.hid (Rb.out.below hb)
      replace Rzs := Lib.hid (Rzs.out.below hb)
      clear tb
      clear hb B6
      have tb := text_of (c := cb) Rb.out Mb.out
      obtain ⟨zs0, zs1, zs2, zs3, zs4⟩ := Rzs.out.cells
      have zsl := Rzs.out.lt
      try dsimp only at zs0 zs1 zs2 zs3 zs4
      have CR2 : Hid (∀ w, Calls Tryd.prog 12 #[secv ⟨gy, py, ty, ky0, xy⟩ Ay ny ky] w fun e w' => e = .returned (.bool (rightQ ⟨gy, py, ty, ky0, xy⟩)) ∧ Below w.heap.size w w') := fun w => right16 ⟨gy, py, ty, ky0, xy⟩ Ay ny ky w My.out
      have CP2 : Hid (∀ w, Rg bcells w Ay xy → Wd w → Calls Tryd.prog 14 #[secv ⟨gy, py, ty, ky0, xy⟩ Ay ny ky] w (BOwn (putQ ⟨gy, py, ty, ky0, xy⟩) w)) := fun w h t => put16 ⟨gy, py, ty, ky0, xy⟩ Ay ny ky w My.out h t
      rw [Z1.out] at CR2
      rw [Z2.out] at CP2
      unfold secv at CR2 CP2
      dsimp only at CR2 CP2
      have q1 : ((tx xb).toList == (tx xb).toList) = true := by simp
      clear zs0 zs1 zs2 zs3 zs4 zsl
      clear tb
      obtain ⟨w8, hw8⟩ : ∃ W, W = (w7).alloc (.cells #[.int .i64 gy, .int .i64 py, .int .i64 ty, .int .i64 ky0, .slice Ay ny ky] 24) := ⟨_, rfl⟩
      have hq : QB w8 (w7).heap.size ⟨gy, py, ty, ky0, xy⟩ Ay ny ky := by rw [hw8]; exact QB.new (w7) ⟨gy, py, ty, ky0, xy⟩ Ay ny ky
      have hb : Below (w7).heap.size (w7) w8 := by rw [hw8]; exact chain_alloc (Below.refl _ _) _
      obtain ⟨zy, hzy⟩ : ∃ z, z = (w7).heap.size := ⟨_, rfl⟩
      rw [← hzy] at hq
      have Rzy := Lib.hid hq
      clear hq
      have B8 := Lib.hid (chain B7.out hb)
      replace Rs := Lib.hid (Rs.out.below hb)
      replace Rb := Lib.hid (Rb.out.below hb)
      replace Rzs := Lib.hid (Rzs.out.below hb)
      replace Ry := Lib.hid (Ry.out.below hb)
      clear hb B7
      have tb := text_of (c := cb) Rb.out Mb.out
      obtain ⟨zs0, zs1, zs2, zs3, zs4⟩ := Rzs.out.cells
      have zsl := Rzs.out.lt
      try dsimp only at zs0 zs1 zs2 zs3 zs4
      obtain ⟨zy0, zy1, zy2, zy3, zy4⟩ := Rzy.out.cells
      have zyl := Rzy.out.lt
      try dsimp only at zy0 zy1 zy2 zy3 zy4
      subst hw8
      subst hzy
      go_wp2_with fail
      clear zs0 zs1 zs2 zs3 zs4 zsl zy0 zy1 zy2 zy3 zy4 zyl
      refine wp_region_noPanic ?_
      refine wp_region_held_drew (S := fun w' => Below (((w7).alloc (.cells #[.int .i64 gy, .int .i64 py, .int .i64 ty, .int .i64 ky0, .slice Ay ny ky] 24))).drew.heap.size (((w7).alloc (.cells #[.int .i64 gy, .int .i64 py, .int .i64 ty, .int .i64 ky0, .slice Ay ny ky] 24))).drew w') (by kernel_rfl) (Below.refl _ _) (fun hHeld => ?_)
      have hb := below_drew (((w7).alloc (.cells #[.int .i64 gy, .int .i64 py, .int .i64 ty, .int .i64 ky0, .slice Ay ny ky] 24)))
      generalize (((w7).alloc (.cells #[.int .i64 gy, .int .i64 py, .int .i64 ty, .int .i64 ky0, .slice Ay ny ky] 24))).drew = w9 at hb hHeld ⊢
      have B9 := Lib.hid (chain B8.out hb)
      replace Rs := Lib.hid (Rs.out.below hb)
      replace Rb := Lib.hid (Rb.out.below hb)
      replace Rzs := Lib.hid (Rzs.out.below hb)
      replace Ry := Lib.hid (Ry.out.below hb)
      replace Rzy := Lib.hid (Rzy.out.below hb)
      clear tb
      clear hb B8
      clear hHeld
      have hHeld : Below w9.heap.size w9 w9 := Below.refl _ _
      refine wpAnyH_take (i := 0) (v := ?vv1) (by simp only [List.getElem?_toArray, List.getElem?_cons_zero]; rfl) (by kernel_rfl) (by kernel_rfl) (by kernel_rfl) (fun _ _ _ h => h) (Or.inl ⟨by rfl, ?yy1⟩) (by assumption) ?rr1
      case yy1 => (intro w' hSw; go_simp; first | done | with_reducible rfl)
      simp only [Act.put, List.setIfInBounds_toArray, List.set_cons_zero, List.set_cons_succ]
      refine wpAnyH_take (i := 1) (v := ?vv2) (by simp only [List.getElem?_toArray, List.getElem?_cons_zero, List.getElem?_cons_succ]; rfl) (by kernel_rfl) (by kernel_rfl) (by kernel_rfl) (fun _ _ _ h => h) (Or.inl ⟨by rfl, ?yy2⟩) (by assumption) ?rr2
      case yy2 => (intro w' hSw; go_simp; first | done | with_reducible rfl)
      simp only [Act.put, List.setIfInBounds_toArray, List.set_cons_zero, List.set_cons_succ]
      refine wpAnyH_take (i := 2) (v := ?vv3) (by simp only [List.getElem?_toArray, List.getElem?_cons_zero, List.getElem?_cons_succ]; rfl) (by kernel_rfl) (by kernel_rfl) (by kernel_rfl) (fun _ _ _ h => h) (Or.inl ⟨by rfl, ?yy3⟩) (by assumption) ?rr3
      case yy3 => (intro w' hSw; obtain ⟨zs0, zs1, zs2, zs3, zs4⟩ := (Rzs.out.below hSw).cells; (try dsimp only at zs0 zs1 zs2 zs3 zs4); obtain ⟨zy0, zy1, zy2, zy3, zy4⟩ := (Rzy.out.below hSw).cells; (try dsimp only at zy0 zy1 zy2 zy3 zy4); go_simp; first | done | with_reducible rfl)
      simp only [Act.put, List.setIfInBounds_toArray, List.set_cons_zero, List.set_cons_succ]
      refine wpAnyH_ready (rs := [3]) (by kernel_rfl) (by simp) ?_
      refine AllReadyH.cons (by simp only [List.getElem?_toArray, List.getElem?_cons_zero, List.getElem?_cons_succ]; rfl) (fun K hK => ?_) AllReadyH.nil
      go_simp
      go_at_call 12
      (with_reducible refine (CR2.out _).mono ?_)
      rintro e w10 ⟨rfl, hb⟩
      have hb0 := hb
      go_wp2_with fail
      refine hK.out _ _ hb0 (fun hHeld => ?_)
      clear hK K hHeld
      refine wpAnyH_more (S' := fun w' => Below w10.heap.size w10 w') (fun _ h => chain hb0 h) _ _ _ _ ?_
      clear hb0
      have hHeld : Below w10.heap.size w10 w10 := Below.refl _ _
      try simp only [Act.put, List.setIfInBounds_toArray, List.set_cons_zero, List.set_cons_succ]
      have B10 := Lib.hid (chain B9.out hb)
      replace Rs := Lib.hid (Rs.out.below hb)
      replace Rb := Lib.hid (Rb.out.below hb)
      replace Rzs := Lib.hid (Rzs.out.below hb)
      replace Ry := Lib.hid (Ry.out.below hb)
      replace Rzy := Lib.hid (Rzy.out.below hb)
      clear hb B9
      refine wpAnyH_take (i := 4) (v := ?vv4) (by simp only [List.getElem?_toArray, List.getElem?_cons_zero, List.getElem?_cons_succ]; rfl) (by kernel_rfl) (by kernel_rfl) (by kernel_rfl) (fun _ _ _ h => h) (Or.inl ⟨by rfl, ?yy4⟩) (by assumption) ?rr4
      case yy4 => (intro w' hSw; go_simp; first | done | with_reducible rfl)
      simp only [Act.put, List.setIfInBounds_toArray, List.set_cons_zero, List.set_cons_succ]
      refine wpAnyH_take (i := 5) (v := ?vv5) (by simp only [List.getElem?_toArray, List.getElem?_cons_zero, List.getElem?_cons_succ]; rfl) (by kernel_rfl) (by kernel_rfl) (by kernel_rfl) (fun _ _ _ h => h) (Or.inl ⟨by rfl, ?yy5⟩) (by assumption) ?rr5
      case yy5 => (intro w' hSw; go_simp; first | done | with_reducible rfl)
      simp only [Act.put, List.setIfInBounds_toArray, List.set_cons_zero, List.set_cons_succ]
      refine wpAnyH_take (i := 6) (v := ?vv6) (by simp only [List.getElem?_toArray, List.getElem?_cons_zero, List.getElem?_cons_succ]; rfl) (by kernel_rfl) (by kernel_rfl) (by kernel_rfl) (fun _ _ _ h => h) (Or.inl ⟨by rfl, ?yy6⟩) (by assumption) ?rr6
      case yy6 => (intro w' hSw; obtain ⟨zs0, zs1, zs2, zs3, zs4⟩ := (Rzs.out.below hSw).cells; (try dsimp only at zs0 zs1 zs2 zs3 zs4); obtain ⟨zy0, zy1, zy2, zy3, zy4⟩ := (Rzy.out.below hSw).cells; (try dsimp only at zy0 zy1 zy2 zy3 zy4); go_simp; first | done | with_reducible rfl)
      simp only [Act.put, List.setIfInBounds_toArray, List.set_cons_zero, List.set_cons_succ]
      refine wpAnyH_take (i := 9) (v := ?vv7) (by simp only [List.getElem?_toArray, List.getElem?_cons_zero, List.getElem?_cons_succ]; rfl) (by kernel_rfl) (by kernel_rfl) (by kernel_rfl) (fun _ _ _ h => h) (Or.inl ⟨by rfl, ?yy7⟩) (by assumption) ?rr7
      case yy7 => (intro w' hSw; go_simp; first | done | with_reducible rfl)
      simp only [Act.put, List.setIfInBounds_toArray, List.set_cons_zero, List.set_cons_succ]
      refine wpAnyH_take (i := 10) (v := ?vv8) (by simp only [List.getElem?_toArray, List.getElem?_cons_zero, List.getElem?_cons_succ]; rfl) (by kernel_rfl) (by kernel_rfl) (by kernel_rfl) (fun _ _ _ h => h) (Or.inl ⟨by rfl, ?yy8⟩) (by assumption) ?rr8
      case yy8 => (intro w' hSw; have tb := text_of (c := cb) (Rb.out.below hSw) Mb.out; go_simp; first | done | with_reducible rfl)
      simp only [Act.put, List.setIfInBounds_toArray, List.set_cons_zero, List.set_cons_succ]
      refine wpAnyH_ready (rs := [7]) (by kernel_rfl) (by simp) ?_
      refine AllReadyH.cons (by simp only [List.getElem?_toArray, List.getElem?_cons_zero, List.getElem?_cons_succ]; rfl) (fun K hK => ?_) AllReadyH.nil
      go_simp
      go_at_call 14
      (with_reducible refine (CP2.out _ Ry.out (by first | assumption | exact Hid.out (by assumption) | exact Wd.below (Hid.out (by assumption)) (Hid.out (by assumption)) | exact Wd.below (by assumption) (Hid.out (by assumption)))).mono ?_)
      rintro e w11 ⟨v, rfl, ho, hb⟩
      rw [← Mb.out] at ho
      obtain ⟨Aq, kq, rfl, yq, rq, y8, y7⟩ := own_cap bcells_len (by decide) ho
      have Rq := Lib.hid rq
      clear ho yq rq y8 y7
      have hb0 := hb
      go_wp2_with fail
      refine hK.out _ _ hb0 (fun hHeld => ?_)
      clear hK K hHeld
      refine wpAnyH_more (S' := fun w' => Below w11.heap.size w11 w') (fun _ h => chain hb0 h) _ _ _ _ ?_
      clear hb0
      have hHeld : Below w11.heap.size w11 w11 := Below.refl _ _
      try simp only [Act.put, List.setIfInBounds_toArray, List.set_cons_zero, List.set_cons_succ]
      have B11 := Lib.hid (chain B10.out hb)
      replace Rs := Lib.hid (Rs.out.below hb)
      replace Rb := Lib.hid (Rb.out.below hb)
      replace Rzs := Lib.hid (Rzs.out.below hb)
      replace Ry := Lib.hid (Ry.out.below hb)
      replace Rzy := Lib.hid (Rzy.out.below hb)
      clear hb B10
      refine wpAnyH_take (i := 8) (v := ?vv9) (by simp only [List.getElem?_toArray, List.getElem?_cons_zero, List.getElem?_cons_succ]; rfl) (by kernel_rfl) (by kernel_rfl) (by kernel_rfl) (fun _ _ _ h => h) (Or.inl ⟨by rfl, ?yy9⟩) (by assumption) ?rr9
      case yy9 => (intro w' hSw; have tb := text_of (c := cb) (Rb.out.below hSw) Mb.out; have tq := text_of (c := kq) (Rq.out.below hSw) Mb.out; go_simp; first | done | with_reducible rfl)
      simp only [Act.put, List.setIfInBounds_toArray, List.set_cons_zero, List.set_cons_succ]
      refine wpAnyH_take (i := 11) (v := ?vv10) (by simp only [List.getElem?_toArray, List.getElem?_cons_zero, List.getElem?_cons_succ]; rfl) (by kernel_rfl) (by kernel_rfl) (by kernel_rfl) (fun _ _ _ h => h) (Or.inl ⟨by rfl, ?yy10⟩) (by assumption) ?rr10
      case yy10 => (intro w' hSw; go_simp; first | done | with_reducible rfl)
      simp only [Act.put, List.setIfInBounds_toArray, List.set_cons_zero, List.set_cons_succ]
      refine wpAnyH_take (i := 12) (v := ?vv11) (by simp only [List.getElem?_toArray, List.getElem?_cons_zero, List.getElem?_cons_succ]; rfl) (by kernel_rfl) (by kernel_rfl) (by kernel_rfl) (fun _ _ _ h => h) (Or.inl ⟨by rfl, ?yy11⟩) (by assumption) ?rr11
      case yy11 => (intro w' hSw; go_simp; first | done | with_reducible rfl)
      simp only [Act.put, List.setIfInBounds_toArray, List.set_cons_zero, List.set_cons_succ]
      refine wpAnyH_take (i := 13) (v := ?vv12) (by simp only [List.getElem?_toArray, List.getElem?_cons_zero, List.getElem?_cons_succ]; rfl) (by kernel_rfl) (by kernel_rfl) (by kernel_rfl) (fun _ _ _ h => h) (Or.inl ⟨by rfl, ?yy12⟩) (by assumption) ?rr12
      case yy12 => (intro w' hSw; go_simp; first | done | with_reducible rfl)
      simp only [Act.put, List.setIfInBounds_toArray, List.set_cons_zero, List.set_cons_succ]
      refine wpAnyH_done (by kernel_rfl) ?_ _
      refine NoPanic.normal ?_
      clear hHeld
      have tb := text_of (c := cb) Rb.out Mb.out
      have tq := text_of (c := kq) Rq.out Mb.out
      obtain ⟨zs0, zs1, zs2, zs3, zs4⟩ := Rzs.out.cells
      have zsl := Rzs.out.lt
      try dsimp only at zs0 zs1 zs2 zs3 zs4
      obtain ⟨zy0, zy1, zy2, zy3, zy4⟩ := Rzy.out.cells
      have zyl := Rzy.out.lt
      try dsimp only at zy0 zy1 zy2 zy3 zy4
      go_wp2_with fail
      go_ret
      exact ⟨rfl, B11.out⟩
  · skip
    obtain ⟨y1, y2⟩ := getq_put okp
    have Y1 := Lib.hid y1
    have Y2 := Lib.hid ((getq_yes y1).trans y2)
    have PL := Lib.hid (putq_len okp)
    rw [okp] at CR
    clear okp y1 y2
    obtain ⟨L, hL⟩ : ∃ L, L = putQ ⟨gs, ps, ts, ks, xs⟩ := ⟨_, rfl⟩
    rw [← hL] at CP Y1 Y2 PL
    clear hL
    go_enter Tryd.func4, Tryd.ntmps4
    go_wp2_with fail
    have hqs := QB.new (w) ⟨gs, ps, ts, ks, xs⟩ As ns cs
    dsimp only at hqs
    have hb := chain_alloc (Below.refl _ w) (.cells #[.int .i64 gs, .int .i64 ps, .int .i64 ts, .int .i64 ks, .slice As ns cs] 24)
    obtain ⟨zs, hzs⟩ : ∃ z, z = w.heap.size := ⟨_, rfl⟩
    rw [← hzs] at hqs ⊢
    generalize (w).alloc (.cells #[.int .i64 gs, .int .i64 ps, .int .i64 ts, .int .i64 ks, .slice As ns cs] 24) = w1 at hb hqs ⊢
    have Rzs := Lib.hid hqs
    clear hqs hzs
    have B1 := Lib.hid hb
    replace Rs := Lib.hid (Rs.out.below hb)
    replace Rb := Lib.hid (Rb.out.below hb)
    clear hb
    refine (head16_any _).mono ?_
    rintro e w2 ⟨rfl, hb⟩
    have B2 := Lib.hid (chain B1.out hb)
    replace Rs := Lib.hid (Rs.out.below hb)
    replace Rb := Lib.hid (Rb.out.below hb)
    replace Rzs := Lib.hid (Rzs.out.below hb)
    clear hb B1
    obtain ⟨zs0, zs1, zs2, zs3, zs4⟩ := Rzs.out.cells
    have zsl := Rzs.out.lt
    try dsimp only at zs0 zs1 zs2 zs3 zs4
    go_wp2_with fail
    refine (CP.out _ Rs.out (by first | assumption | exact Hid.out (by assumption) | exact Wd.below (Hid.out (by assumption)) (Hid.out (by assumption)) | exact Wd.below (by assumption) (Hid.out (by assumption)))).mono ?_
    rintro e w3 ⟨v, rfl, ho, hb⟩
    rw [PL.out] at ho
    obtain ⟨Ap, kp, rfl, y9, rp, y8, y7⟩ := own_cap bcells_len (by decide) ho
    have Rp := Lib.hid rp
    have Mp : Hid (64 = L.length) := PL.out.symm
    have Kp := Lib.hid y8
    clear ho y9 rp y8 y7
    clear zs0 zs1 zs2 zs3 zs4 zsl
    have B3 := Lib.hid (chain B2.out hb)
    replace Rs := Lib.hid (Rs.out.below hb)
    replace Rb := Lib.hid (Rb.out.below hb)
    replace Rzs := Lib.hid (Rzs.out.below hb)
    clear hb B2
    obtain ⟨zs0, zs1, zs2, zs3, zs4⟩ := Rzs.out.cells
    have zsl := Rzs.out.lt
    try dsimp only at zs0 zs1 zs2 zs3 zs4
    go_wp2_with fail
    refine (get16 Ap kp 64 L _ Rp.out Mp.out Kp.out (by decide)).mono ?_
    rintro e w4 ⟨Ax, kx, nx, rfl, h1, h2, hb, h4, _⟩
    rw [Y2.out] at h1 h2
    rw [Y2.out, Y1.out]
    unfold secv
    dsimp only at h1 h2 ⊢
    have Mx := Lib.hid h1; have Rx := Lib.hid h2; have Kx := Lib.hid h4
    clear h1 h2 h4
    clear zs0 zs1 zs2 zs3 zs4 zsl
    have B4 := Lib.hid (chain B3.out hb)
    replace Rs := Lib.hid (Rs.out.below hb)
    replace Rb := Lib.hid (Rb.out.below hb)
    replace Rzs := Lib.hid (Rzs.out.below hb)
    replace Rp := Lib.hid (Rp.out.below hb)
    clear hb B3
    obtain ⟨zs0, zs1, zs2, zs3, zs4⟩ := Rzs.out.cells
    have zsl := Rzs.out.lt
    try dsimp only at zs0 zs1 zs2 zs3 zs4
    clear zs0 zs1 zs2 zs3 zs4 zsl
    obtain ⟨w5, hw5⟩ : ∃ W, W = (w4).alloc (.cells #[.int .i64 gs, .int .i64 ps, .int .i64 ts, .int .i64 ks, .slice Ax nx kx] 24) := ⟨_, rfl⟩
    have hq : QB w5 (w4).heap.size ⟨gs, ps, ts, ks, xs⟩ Ax nx kx := by rw [hw5]; exact QB.new (w4) ⟨gs, ps, ts, ks, xs⟩ Ax nx kx
    have hb : Below (w4).heap.size (w4) w5 := by rw [hw5]; exact chain_alloc (Below.refl _ _) _
    obtain ⟨zx, hzx⟩ : ∃ z, z = (w4).heap.size := ⟨_, rfl⟩
    rw [← hzx] at hq
    have Rzx := Lib.hid hq
    clear hq
    have B5 := Lib.hid (chain B4.out hb)
    replace Rs := Lib.hid (Rs.out.below hb)
    replace Rb := Lib.hid (Rb.out.below hb)
    replace Rzs := Lib.hid (Rzs.out.below hb)
    replace Rp := Lib.hid (Rp.out.below hb)
    replace Rx := Lib.hid (Rx.out.below hb)
    clear hb B4
    obtain ⟨zs0, zs1, zs2, zs3, zs4⟩ := Rzs.out.cells
    have zsl := Rzs.out.lt
    try dsimp only at zs0 zs1 zs2 zs3 zs4
    obtain ⟨zx0, zx1, zx2, zx3, zx4⟩ := Rzx.out.cells
    have zxl := Rzx.out.lt
    try dsimp only at zx0 zx1 zx2 zx3 zx4
    subst hw5
    subst hzx
    go_wp2_with fail
    refine (CR.out _).mono ?_
    rintro e w6 ⟨rfl, hb⟩
    clear zs0 zs1 zs2 zs3 zs4 zsl zx0 zx1 zx2 zx3 zx4 zxl
    have B6 := Lib.hid (chain B5.out hb)
    replace Rs := Lib.hid (Rs.out.below hb)
    replace Rb := Lib.hid (Rb.out.below hb)
    replace Rzs := Lib.hid (Rzs.out.below hb)
    replace Rp := Lib.hid (Rp.out.below hb)
    replace Rx := Lib.hid (Rx.out.below hb)
    replace Rzx := Lib.hid (Rzx.out.below hb)
    clear hb B5
    obtain ⟨zs0, zs1, zs2, zs3, zs4⟩ := Rzs.out.cells
    have zsl := Rzs.out.lt
    try dsimp only at zs0 zs1 zs2 zs3 zs4
    obtain ⟨zx0, zx1, zx2, zx3, zx4⟩ := Rzx.out.cells
    have zxl := Rzx.out.lt
    try dsimp only at zx0 zx1 zx2 zx3 zx4
    go_wp2_with fail
    refine (rsame16 ⟨gs, ps, ts, ks, xs⟩ Ax As nx kx ns cs _ Mx.out Ms.out Rx.out Rs.out).mono ?_
    rintro e w7 ⟨rfl, hb⟩
    clear zs0 zs1 zs2 zs3 zs4 zsl zx0 zx1 zx2 zx3 zx4 zxl
    have B7 := Lib.hid (chain B6.out hb)
    replace Rs := Lib.hid (Rs.out.below hb)
    replace Rb := Lib.hid (Rb.out.below hb)
    replace Rzs := Lib.hid (Rzs.out.below hb)
    replace Rp := Lib.hid (Rp.out.below hb)
    replace Rx := Lib.hid (Rx.out.below hb)
    replace Rzx := Lib.hid (Rzx.out.below hb)
    clear hb B6
    obtain ⟨zs0, zs1, zs2, zs3, zs4⟩ := Rzs.out.cells
    have zsl := Rzs.out.lt
    try dsimp only at zs0 zs1 zs2 zs3 zs4
    obtain ⟨zx0, zx1, zx2, zx3, zx4⟩ := Rzx.out.cells
    have zxl := Rzx.out.lt
    try dsimp only at zx0 zx1 zx2 zx3 zx4
    clear Rp
    clear Rx
    clear Rzx zx0 zx1 zx2 zx3 zx4 zxl
    have tb := text_of (c := cb) Rb.out Mb.out
    rcases okb : okQ xb with _ | _
    · skip
      have Z := Lib.hid (getq_no okb); have Z3 := Lib.hid okb
      clear okb
      go_wp2_with fail
      refine (get16 Ab cb nb xb _ Rb.out Mb.out Kb.out b9).mono ?_
      rintro e w8 ⟨Ay, ky, ny, rfl, h1, h2, hb, h4, _⟩
      rw [Z.out] at h1 h2
      rw [Z.out, Z3.out]
      unfold secv Sec.z
      dsimp only
      have My := Lib.hid h1; have Ry := Lib.hid h2; have Ky := Lib.hid h4
      clear h1 h2 h4
      clear zs0 zs1 zs2 zs3 zs4 zsl
      have B8 := Lib.hid (chain B7.out hb)
      replace Rs := Lib.hid (Rs.out.below hb)
      replace Rb := Lib.hid (Rb.out.below hb)
      replace Rzs := Lib.hid (Rzs.out.below hb)
      clear tb
      clear hb B7
      have tb := text_of (c := cb) Rb.out Mb.out
      obtain ⟨zs0, zs1, zs2, zs3, zs4⟩ := Rzs.out.cells
      have zsl := Rzs.out.lt
      try dsimp only at zs0 zs1 zs2 zs3 zs4
      obtain rfl : ny = 0 := My.out
      clear zs0 zs1 zs2 zs3 zs4 zsl
      clear tb
      obtain ⟨w9, hw9⟩ : ∃ W, W = (w8).alloc (.cells #[.int .i64 0, .int .i64 0, .int .i64 0, .int .i64 0, .slice Ay 0 ky] 24) := ⟨_, rfl⟩
      have hq : QB w9 (w8).heap.size Sec.z Ay 0 ky := by rw [hw9]; exact QB.new (w8) Sec.z Ay 0 ky
      have hb : Below (w8).heap.size (w8) w9 := by rw [hw9]; exact chain_alloc (Below.refl _ _) _
      obtain ⟨zy, hzy⟩ : ∃ z, z = (w8).heap.size := ⟨_, rfl⟩
      rw [← hzy] at hq
      have Rzy := Lib.hid hq
      clear hq
      have B9 := Lib.hid (chain B8.out hb)
      replace Rs := Lib.hid (Rs.out.below hb)
      replace Rb := Lib.hid (Rb.out.below hb)
      replace Rzs := Lib.hid (Rzs.out.below hb)
      replace Ry := Lib.hid (Ry.out.below hb)
      clear hb B8
      have tb := text_of (c := cb) Rb.out Mb.out
      obtain ⟨zs0, zs1, zs2, zs3, zs4⟩ := Rzs.out.cells
      have zsl := Rzs.out.lt
      try dsimp only at zs0 zs1 zs2 zs3 zs4
      obtain ⟨zy0, zy1, zy2, zy3, zy4⟩ := Rzy.out.cells
      have zyl := Rzy.out.lt
      try dsimp only at zy0 zy1 zy2 zy3 zy4
      subst hw9
      subst hzy
      go_wp2_with fail
      refine (same_zero Ay ky _).mono ?_
      rintro e w10 ⟨rfl, hb⟩
      clear zs0 zs1 zs2 zs3 zs4 zsl zy0 zy1 zy2 zy3 zy4 zyl
      have B10 := Lib.hid (chain B9.out hb)
      replace Rs := Lib.hid (Rs.out.below hb)
      replace Rb := Lib.hid (Rb.out.below hb)
      replace Rzs := Lib.hid (Rzs.out.below hb)
      replace Ry := Lib.hid (Ry.out.below hb)
      replace Rzy := Lib.hid (Rzy.out.below hb)
      clear tb
      clear hb B9
      have tb := text_of (c := cb) Rb.out Mb.out
      obtain ⟨zs0, zs1, zs2, zs3, zs4⟩ := Rzs.out.cells
      have zsl := Rzs.out.lt
      try dsimp only at zs0 zs1 zs2 zs3 zs4
      obtain ⟨zy0, zy1, zy2, zy3, zy4⟩ := Rzy.out.cells
      have zyl := Rzy.out.lt
      try dsimp only at zy0 zy1 zy2 zy3 zy4
      go_wp2_with fail
      go_ret
      exact ⟨rfl, B10.out⟩
    · skip
      obtain ⟨z1, z2⟩ := putq_get okb
      have Z := Lib.hid (getq_yes okb); have Z3 := Lib.hid okb; have Z1 := Lib.hid z1; have Z2 := Lib.hid z2
      clear okb z1 z2
      obtain ⟨S, hS⟩ : ∃ S, S = secQ xb := ⟨_, rfl⟩
      rw [← hS] at Z Z1 Z2
      clear hS
      obtain ⟨gy, py, ty, ky0, xy⟩ := S
      go_wp2_with fail
      refine (get16 Ab cb nb xb _ Rb.out Mb.out Kb.out b9).mono ?_
      rintro e w8 ⟨Ay, ky, ny, rfl, h1, h2, hb, h4, _⟩
      rw [Z.out] at h1 h2
      rw [Z.out, Z3.out]
      unfold secv
      dsimp only at h1 h2 ⊢
      have My := Lib.hid h1; have Ry := Lib.hid h2; have Ky := Lib.hid h4
      clear h1 h2 h4
      clear zs0 zs1 zs2 zs3 zs4 zsl
      have B8 := Lib.hid (chain B7.out hb)
      replace Rs := Lib.hid (Rs.out.below hb)
      replace Rb := Lib.hid (Rb.out.below hb)
      replace Rzs := Lib.hid (Rzs.out.below hb)
      clear tb
      clear hb B7
      have tb := text_of (c := cb) Rb.out Mb.out
      obtain ⟨zs0, zs1, zs2, zs3, zs4⟩ := Rzs.out.cells
      have zsl := Rzs.out.lt
      try dsimp only at zs0 zs1 zs2 zs3 zs4
      have CR2 : Hid (∀ w, Calls Tryd.prog 12 #[secv ⟨gy, py, ty, ky0, xy⟩ Ay ny ky] w fun e w' => e = .returned (.bool (rightQ ⟨gy, py, ty, ky0, xy⟩)) ∧ Below w.heap.size w w') := fun w => right16 ⟨gy, py, ty, ky0, xy⟩ Ay ny ky w My.out
      have CP2 : Hid (∀ w, Rg bcells w Ay xy → Wd w → Calls Tryd.prog 14 #[secv ⟨gy, py, ty, ky0, xy⟩ Ay ny ky] w (BOwn (putQ ⟨gy, py, ty, ky0, xy⟩) w)) := fun w h t => put16 ⟨gy, py, ty, ky0, xy⟩ Ay ny ky w My.out h t
      rw [Z1.out] at CR2
      rw [Z2.out] at CP2
      unfold secv at CR2 CP2
      dsimp only at CR2 CP2
      have q1 : ((tx xb).toList == (tx xb).toList) = true := by simp
      clear zs0 zs1 zs2 zs3 zs4 zsl
      clear tb
      obtain ⟨w9, hw9⟩ : ∃ W, W = (w8).alloc (.cells #[.int .i64 gy, .int .i64 py, .int .i64 ty, .int .i64 ky0, .slice Ay ny ky] 24) := ⟨_, rfl⟩
      have hq : QB w9 (w8).heap.size ⟨gy, py, ty, ky0, xy⟩ Ay ny ky := by rw [hw9]; exact QB.new (w8) ⟨gy, py, ty, ky0, xy⟩ Ay ny ky
      have hb : Below (w8).heap.size (w8) w9 := by rw [hw9]; exact chain_alloc (Below.refl _ _) _
      obtain ⟨zy, hzy⟩ : ∃ z, z = (w8).heap.size := ⟨_, rfl⟩
      rw [← hzy] at hq
      have Rzy := Lib.hid hq
      clear hq
      have B9 := Lib.hid (chain B8.out hb)
      replace Rs := Lib.hid (Rs.out.below hb)
      replace Rb := Lib.hid (Rb.out.below hb)
      replace Rzs := Lib.hid (Rzs.out.below hb)
      replace Ry := Lib.hid (Ry.out.below hb)
      clear hb B8
      have tb := text_of (c := cb) Rb.out Mb.out
      obtain ⟨zs0, zs1, zs2, zs3, zs4⟩ := Rzs.out.cells
      have zsl := Rzs.out.lt
      try dsimp only at zs0 zs1 zs2 zs3 zs4
      obtain ⟨zy0, zy1, zy2, zy3, zy4⟩ := Rzy.out.cells
      have zyl := Rzy.out.lt
      try dsimp only at zy0 zy1 zy2 zy3 zy4
      subst hw9
      subst hzy
      go_wp2_with fail
      clear zs0 zs1 zs2 zs3 zs4 zsl zy0 zy1 zy2 zy3 zy4 zyl
      refine wp_region_noPanic ?_
      refine wp_region_held_drew (S := fun w' => Below (((w8).alloc (.cells #[.int .i64 gy, .int .i64 py, .int .i64 ty, .int .i64 ky0, .slice Ay ny ky] 24))).drew.heap.size (((w8).alloc (.cells #[.int .i64 gy, .int .i64 py, .int .i64 ty, .int .i64 ky0, .slice Ay ny ky] 24))).drew w') (by kernel_rfl) (Below.refl _ _) (fun hHeld => ?_)
      have hb := below_drew (((w8).alloc (.cells #[.int .i64 gy, .int .i64 py, .int .i64 ty, .int .i64 ky0, .slice Ay ny ky] 24)))
      generalize (((w8).alloc (.cells #[.int .i64 gy, .int .i64 py, .int .i64 ty, .int .i64 ky0, .slice Ay ny ky] 24))).drew = w10 at hb hHeld ⊢
      have B10 := Lib.hid (chain B9.out hb)
      replace Rs := Lib.hid (Rs.out.below hb)
      replace Rb := Lib.hid (Rb.out.below hb)
      replace Rzs := Lib.hid (Rzs.out.below hb)
      replace Ry := Lib.hid (Ry.out.below hb)
      replace Rzy := Lib.hid (Rzy.out.below hb)
      clear tb
      clear hb B9
      clear hHeld
      have hHeld : Below w10.heap.size w10 w10 := Below.refl _ _
      refine wpAnyH_take (i := 0) (v := ?vv13) (by simp only [List.getElem?_toArray, List.getElem?_cons_zero]; rfl) (by kernel_rfl) (by kernel_rfl) (by kernel_rfl) (fun _ _ _ h => h) (Or.inl ⟨by rfl, ?yy13⟩) (by assumption) ?rr13
      case yy13 => (intro w' hSw; go_simp; first | done | with_reducible rfl)
      simp only [Act.put, List.setIfInBounds_toArray, List.set_cons_zero, List.set_cons_succ]
      refine wpAnyH_take (i := 1) (v := ?vv14) (by simp only [List.getElem?_toArray, List.getElem?_cons_zero, List.getElem?_cons_succ]; rfl) (by kernel_rfl) (by kernel_rfl) (by kernel_rfl) (fun _ _ _ h => h) (Or.inl ⟨by rfl, ?yy14⟩) (by assumption) ?rr14
      case yy14 => (intro w' hSw; go_simp; first | done | with_reducible rfl)
      simp only [Act.put, List.setIfInBounds_toArray, List.set_cons_zero, List.set_cons_succ]
      refine wpAnyH_take (i := 2) (v := ?vv15) (by simp only [List.getElem?_toArray, List.getElem?_cons_zero, List.getElem?_cons_succ]; rfl) (by kernel_rfl) (by kernel_rfl) (by kernel_rfl) (fun _ _ _ h => h) (Or.inl ⟨by rfl, ?yy15⟩) (by assumption) ?rr15
      case yy15 => (intro w' hSw; obtain ⟨zs0, zs1, zs2, zs3, zs4⟩ := (Rzs.out.below hSw).cells; (try dsimp only at zs0 zs1 zs2 zs3 zs4); obtain ⟨zy0, zy1, zy2, zy3, zy4⟩ := (Rzy.out.below hSw).cells; (try dsimp only at zy0 zy1 zy2 zy3 zy4); go_simp; first | done | with_reducible rfl)
      simp only [Act.put, List.setIfInBounds_toArray, List.set_cons_zero, List.set_cons_succ]
      refine wpAnyH_ready (rs := [3]) (by kernel_rfl) (by simp) ?_
      refine AllReadyH.cons (by simp only [List.getElem?_toArray, List.getElem?_cons_zero, List.getElem?_cons_succ]; rfl) (fun K hK => ?_) AllReadyH.nil
      go_simp
      go_at_call 12
      (with_reducible refine (CR2.out _).mono ?_)
      rintro e w11 ⟨rfl, hb⟩
      have hb0 := hb
      go_wp2_with fail
      refine hK.out _ _ hb0 (fun hHeld => ?_)
      clear hK K hHeld
      refine wpAnyH_more (S' := fun w' => Below w11.heap.size w11 w') (fun _ h => chain hb0 h) _ _ _ _ ?_
      clear hb0
      have hHeld : Below w11.heap.size w11 w11 := Below.refl _ _
      try simp only [Act.put, List.setIfInBounds_toArray, List.set_cons_zero, List.set_cons_succ]
      have B11 := Lib.hid (chain B10.out hb)
      replace Rs := Lib.hid (Rs.out.below hb)
      replace Rb := Lib.hid (Rb.out.below hb)
      replace Rzs := Lib.hid (Rzs.out.below hb)
      replace Ry := Lib.hid (Ry.out.below hb)
      replace Rzy := Lib.hid (Rzy.out.below hb)
      clear hb B10
      refine wpAnyH_take (i := 4) (v := ?vv16) (by simp only [List.getElem?_toArray, List.getElem?_cons_zero, List.getElem?_cons_succ]; rfl) (by kernel_rfl) (by kernel_rfl) (by kernel_rfl) (fun _ _ _ h => h) (Or.inl ⟨by rfl, ?yy16⟩) (by assumption) ?rr16
      case yy16 => (intro w' hSw; go_simp; first | done | with_reducible rfl)
      simp only [Act.put, List.setIfInBounds_toArray, List.set_cons_zero, List.set_cons_succ]
      refine wpAnyH_take (i := 5) (v := ?vv17) (by simp only [List.getElem?_toArray, List.getElem?_cons_zero, List.getElem?_cons_succ]; rfl) (by kernel_rfl) (by kernel_rfl) (by kernel_rfl) (fun _ _ _ h => h) (Or.inl ⟨by rfl, ?yy17⟩) (by assumption) ?rr17
      case yy17 => (intro w' hSw; go_simp; first | done | with_reducible rfl)
      simp only [Act.put, List.setIfInBounds_toArray, List.set_cons_zero, List.set_cons_succ]
      refine wpAnyH_take (i := 6) (v := ?vv18) (by simp only [List.getElem?_toArray, List.getElem?_cons_zero, List.getElem?_cons_succ]; rfl) (by kernel_rfl) (by kernel_rfl) (by kernel_rfl) (fun _ _ _ h => h) (Or.inl ⟨by rfl, ?yy18⟩) (by assumption) ?rr18
      case yy18 => (intro w' hSw; obtain ⟨zs0, zs1, zs2, zs3, zs4⟩ := (Rzs.out.below hSw).cells; (try dsimp only at zs0 zs1 zs2 zs3 zs4); obtain ⟨zy0, zy1, zy2, zy3, zy4⟩ := (Rzy.out.below hSw).cells; (try dsimp only at zy0 zy1 zy2 zy3 zy4); go_simp; first | done | with_reducible rfl)
      simp only [Act.put, List.setIfInBounds_toArray, List.set_cons_zero, List.set_cons_succ]
      refine wpAnyH_take (i := 9) (v := ?vv19) (by simp only [List.getElem?_toArray, List.getElem?_cons_zero, List.getElem?_cons_succ]; rfl) (by kernel_rfl) (by kernel_rfl) (by kernel_rfl) (fun _ _ _ h => h) (Or.inl ⟨by rfl, ?yy19⟩) (by assumption) ?rr19
      case yy19 => (intro w' hSw; go_simp; first | done | with_reducible rfl)
      simp only [Act.put, List.setIfInBounds_toArray, List.set_cons_zero, List.set_cons_succ]
      refine wpAnyH_take (i := 10) (v := ?vv20) (by simp only [List.getElem?_toArray, List.getElem?_cons_zero, List.getElem?_cons_succ]; rfl) (by kernel_rfl) (by kernel_rfl) (by kernel_rfl) (fun _ _ _ h => h) (Or.inl ⟨by rfl, ?yy20⟩) (by assumption) ?rr20
      case yy20 => (intro w' hSw; have tb := text_of (c := cb) (Rb.out.below hSw) Mb.out; go_simp; first | done | with_reducible rfl)
      simp only [Act.put, List.setIfInBounds_toArray, List.set_cons_zero, List.set_cons_succ]
      refine wpAnyH_ready (rs := [7]) (by kernel_rfl) (by simp) ?_
      refine AllReadyH.cons (by simp only [List.getElem?_toArray, List.getElem?_cons_zero, List.getElem?_cons_succ]; rfl) (fun K hK => ?_) AllReadyH.nil
      go_simp
      go_at_call 14
      (with_reducible refine (CP2.out _ Ry.out (by first | assumption | exact Hid.out (by assumption) | exact Wd.below (Hid.out (by assumption)) (Hid.out (by assumption)) | exact Wd.below (by assumption) (Hid.out (by assumption)))).mono ?_)
      rintro e w12 ⟨v, rfl, ho, hb⟩
      rw [← Mb.out] at ho
      obtain ⟨Aq, kq, rfl, yq, rq, y8, y7⟩ := own_cap bcells_len (by decide) ho
      have Rq := Lib.hid rq
      clear ho yq rq y8 y7
      have hb0 := hb
      go_wp2_with fail
      refine hK.out _ _ hb0 (fun hHeld => ?_)
      clear hK K hHeld
      refine wpAnyH_more (S' := fun w' => Below w12.heap.size w12 w') (fun _ h => chain hb0 h) _ _ _ _ ?_
      clear hb0
      have hHeld : Below w12.heap.size w12 w12 := Below.refl _ _
      try simp only [Act.put, List.setIfInBounds_toArray, List.set_cons_zero, List.set_cons_succ]
      have B12 := Lib.hid (chain B11.out hb)
      replace Rs := Lib.hid (Rs.out.below hb)
      replace Rb := Lib.hid (Rb.out.below hb)
      replace Rzs := Lib.hid (Rzs.out.below hb)
      replace Ry := Lib.hid (Ry.out.below hb)
      replace Rzy := Lib.hid (Rzy.out.below hb)
      clear hb B11
      refine wpAnyH_take (i := 8) (v := ?vv21) (by simp only [List.getElem?_toArray, List.getElem?_cons_zero, List.getElem?_cons_succ]; rfl) (by kernel_rfl) (by kernel_rfl) (by kernel_rfl) (fun _ _ _ h => h) (Or.inl ⟨by rfl, ?yy21⟩) (by assumption) ?rr21
      case yy21 => (intro w' hSw; have tb := text_of (c := cb) (Rb.out.below hSw) Mb.out; have tq := text_of (c := kq) (Rq.out.below hSw) Mb.out; go_simp; first | done | with_reducible rfl)
      simp only [Act.put, List.setIfInBounds_toArray, List.set_cons_zero, List.set_cons_succ]
      refine wpAnyH_take (i := 11) (v := ?vv22) (by simp only [List.getElem?_toArray, List.getElem?_cons_zero, List.getElem?_cons_succ]; rfl) (by kernel_rfl) (by kernel_rfl) (by kernel_rfl) (fun _ _ _ h => h) (Or.inl ⟨by rfl, ?yy22⟩) (by assumption) ?rr22
      case yy22 => (intro w' hSw; go_simp; first | done | with_reducible rfl)
      simp only [Act.put, List.setIfInBounds_toArray, List.set_cons_zero, List.set_cons_succ]
      refine wpAnyH_take (i := 12) (v := ?vv23) (by simp only [List.getElem?_toArray, List.getElem?_cons_zero, List.getElem?_cons_succ]; rfl) (by kernel_rfl) (by kernel_rfl) (by kernel_rfl) (fun _ _ _ h => h) (Or.inl ⟨by rfl, ?yy23⟩) (by assumption) ?rr23
      case yy23 => (intro w' hSw; go_simp; first | done | with_reducible rfl)
      simp only [Act.put, List.setIfInBounds_toArray, List.set_cons_zero, List.set_cons_succ]
      refine wpAnyH_take (i := 13) (v := ?vv24) (by simp only [List.getElem?_toArray, List.getElem?_cons_zero, List.getElem?_cons_succ]; rfl) (by kernel_rfl) (by kernel_rfl) (by kernel_rfl) (fun _ _ _ h => h) (Or.inl ⟨by rfl, ?yy24⟩) (by assumption) ?rr24
      case yy24 => (intro w' hSw; go_simp; first | done | with_reducible rfl)
      simp only [Act.put, List.setIfInBounds_toArray, List.set_cons_zero, List.set_cons_succ]
      refine wpAnyH_done (by kernel_rfl) ?_ _
      refine NoPanic.normal ?_
      clear hHeld
      have tb := text_of (c := cb) Rb.out Mb.out
      have tq := text_of (c := kq) Rq.out Mb.out
      obtain ⟨zs0, zs1, zs2, zs3, zs4⟩ := Rzs.out.cells
      have zsl := Rzs.out.lt
      try dsimp only at zs0 zs1 zs2 zs3 zs4
      obtain ⟨zy0, zy1, zy2, zy3, zy4⟩ := Rzy.out.cells
      have zyl := Rzy.out.lt
      try dsimp only at zy0 zy1 zy2 zy3 zy4
      go_wp2_with fail
      go_ret
      exact ⟨rfl, B12.out⟩

end Go.Proofs.YtjokaaekliapmaaDoor
