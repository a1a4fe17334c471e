/-
  SectorApart: unlike right sectors have unlike bytes.
-/
import Derived.Test.YtjokaaekliapmaaDoorQHead
import Derived.Test.YtjokaaekliapmaaDoorQSame
namespace Go.Proofs.YtjokaaekliapmaaDoor
open Go.RowKit

theorem apart_eq {a b : Sec} (ha : rightQ a = true) (hb : rightQ b = true) : ((tx (putQ a)).toList == (tx (putQ b)).toList) = sameQ a b := by
  rw [tx_same]
  by_cases h : sameQ a b = true
  · rw [h]
    have h2 := of_decide_eq_true h
    obtain ⟨h3, h4, h5, h6, h7⟩ := h2
    have e : a = b := by
      cases a; cases b
      simp only at h3 h4 h5 h6 h7
      rw [h3, h4, h5, h6, h7]
    rw [e]; simp
  · have h : sameQ a b = false := by simpa using h
    rw [h]
    have hne : ¬ putQ a = putQ b := fun e => by
      have e1 := (getq_put ha).2
      have e2 := (getq_put hb).2
      rw [e] at e1
      have e3 := e1.symm.trans e2
      rw [e3] at h
      have : sameQ b b = true := by simp [sameQ]
      rw [this] at h
      cases h
    simpa using hne

set_option maxHeartbeats 8000000 in
set_option maxRecDepth 100000 in
theorem law_qapart (ga pa ta ka : Int) (Aa : Option Addr) (ca na : Nat) (xa : List UInt8) (gb pb tb kb : Int) (Ab : Option Addr) (cb nb : Nat) (xb : List UInt8) (w : World) (hT : Wd w) (ha : Rg bcells w Aa xa) (la : na = xa.length) (qa : na ≤ ca) (hb : Rg bcells w Ab xb) (lb : nb = xb.length) (qb : nb ≤ cb) :
    Calls Tryd.prog 5 #[.agg #[.int .i64 ga, .int .i64 pa, .int .i64 ta, .int .i64 ka, .slice Aa na ca], .agg #[.int .i64 gb, .int .i64 pb, .int .i64 tb, .int .i64 kb, .slice Ab nb cb]] w fun e w' => e = .returned (.bool true) ∧ Below w.heap.size w w' := by
  have HT := Lib.hid hT
  clear hT
  have Ra := Lib.hid ha; have Ma := Lib.hid la; have Ka := Lib.hid qa
  clear ha la qa
  have Rb := Lib.hid hb; have Mb := Lib.hid lb; have Kb := Lib.hid qb
  clear hb lb qb
  by_cases g0 : 900 < na
  · skip
    have d0 : decide (900 < (na : Int)) = true := decide_eq_true (by omega)
    clear g0
    go_enter Tryd.func5, Tryd.ntmps5
    go_wp2_with fail
    have hqa := QB.new (w) ⟨ga, pa, ta, ka, xa⟩ Aa na ca
    dsimp only at hqa
    have hqb := QB.new ((w).alloc (.cells #[.int .i64 ga, .int .i64 pa, .int .i64 ta, .int .i64 ka, .slice Aa na ca] 24)) ⟨gb, pb, tb, kb, xb⟩ Ab nb cb
    dsimp only at hqb
    rw [show ((w).alloc (.cells #[.int .i64 ga, .int .i64 pa, .int .i64 ta, .int .i64 ka, .slice Aa na ca] 24)).heap.size = w.heap.size + 1 by simp] at hqb
    replace hqa := hqa.below ((Below.refl _ _).alloc (Nat.le_refl _) (.cells #[.int .i64 gb, .int .i64 pb, .int .i64 tb, .int .i64 kb, .slice Ab nb cb] 24))
    have hb := chain_alloc (chain_alloc (Below.refl _ w) (.cells #[.int .i64 ga, .int .i64 pa, .int .i64 ta, .int .i64 ka, .slice Aa na ca] 24)) (.cells #[.int .i64 gb, .int .i64 pb, .int .i64 tb, .int .i64 kb, .slice Ab nb cb] 24)
    obtain ⟨za, hza⟩ : ∃ z, z = w.heap.size := ⟨_, rfl⟩
    obtain ⟨zb, hzb⟩ : ∃ z, z = w.heap.size + 1 := ⟨_, rfl⟩
    rw [← hzb] at hqb ⊢
    rw [← hza] at hqa ⊢
    generalize ((w).alloc (.cells #[.int .i64 ga, .int .i64 pa, .int .i64 ta, .int .i64 ka, .slice Aa na ca] 24)).alloc (.cells #[.int .i64 gb, .int .i64 pb, .int .i64 tb, .int .i64 kb, .slice Ab nb cb] 24) = w1 at hb hqa hqb ⊢
    have Rza := Lib.hid hqa
    have Rzb := Lib.hid hqb
    clear hqa hza hqb hzb
    have B1 := Lib.hid hb
    replace Ra := Lib.hid (Ra.out.below hb)
    replace Rb := Lib.hid (Rb.out.below hb)
    clear hb
    refine (head16_any _).mono ?_
    rintro e w2 ⟨rfl, hb⟩
    have B2 := Lib.hid (chain B1.out hb)
    replace Ra := Lib.hid (Ra.out.below hb)
    replace Rb := Lib.hid (Rb.out.below hb)
    replace Rza := Lib.hid (Rza.out.below hb)
    replace Rzb := Lib.hid (Rzb.out.below hb)
    clear hb B1
    obtain ⟨za0, za1, za2, za3, za4⟩ := Rza.out.cells
    have zal := Rza.out.lt
    try dsimp only at za0 za1 za2 za3 za4
    obtain ⟨zb0, zb1, zb2, zb3, zb4⟩ := Rzb.out.cells
    have zbl := Rzb.out.lt
    try dsimp only at zb0 zb1 zb2 zb3 zb4
    go_wp2_with fail
    go_ret
    exact ⟨rfl, B2.out⟩
  have d0 : decide (900 < (na : Int)) = false := decide_eq_false (by omega)
  by_cases g1 : 900 < nb
  · skip
    have d1 : decide (900 < (nb : Int)) = true := decide_eq_true (by omega)
    clear g0 g1
    go_enter Tryd.func5, Tryd.ntmps5
    go_wp2_with fail
    have hqa := QB.new (w) ⟨ga, pa, ta, ka, xa⟩ Aa na ca
    dsimp only at hqa
    have hqb := QB.new ((w).alloc (.cells #[.int .i64 ga, .int .i64 pa, .int .i64 ta, .int .i64 ka, .slice Aa na ca] 24)) ⟨gb, pb, tb, kb, xb⟩ Ab nb cb
    dsimp only at hqb
    rw [show ((w).alloc (.cells #[.int .i64 ga, .int .i64 pa, .int .i64 ta, .int .i64 ka, .slice Aa na ca] 24)).heap.size = w.heap.size + 1 by simp] at hqb
    replace hqa := hqa.below ((Below.refl _ _).alloc (Nat.le_refl _) (.cells #[.int .i64 gb, .int .i64 pb, .int .i64 tb, .int .i64 kb, .slice Ab nb cb] 24))
    have hb := chain_alloc (chain_alloc (Below.refl _ w) (.cells #[.int .i64 ga, .int .i64 pa, .int .i64 ta, .int .i64 ka, .slice Aa na ca] 24)) (.cells #[.int .i64 gb, .int .i64 pb, .int .i64 tb, .int .i64 kb, .slice Ab nb cb] 24)
    obtain ⟨za, hza⟩ : ∃ z, z = w.heap.size := ⟨_, rfl⟩
    obtain ⟨zb, hzb⟩ : ∃ z, z = w.heap.size + 1 := ⟨_, rfl⟩
    rw [← hzb] at hqb ⊢
    rw [← hza] at hqa ⊢
    generalize ((w).alloc (.cells #[.int .i64 ga, .int .i64 pa, .int .i64 ta, .int .i64 ka, .slice Aa na ca] 24)).alloc (.cells #[.int .i64 gb, .int .i64 pb, .int .i64 tb, .int .i64 kb, .slice Ab nb cb] 24) = w1 at hb hqa hqb ⊢
    have Rza := Lib.hid hqa
    have Rzb := Lib.hid hqb
    clear hqa hza hqb hzb
    have B1 := Lib.hid hb
    replace Ra := Lib.hid (Ra.out.below hb)
    replace Rb := Lib.hid (Rb.out.below hb)
    clear hb
    refine (head16_any _).mono ?_
    rintro e w2 ⟨rfl, hb⟩
    have B2 := Lib.hid (chain B1.out hb)
    replace Ra := Lib.hid (Ra.out.below hb)
    replace Rb := Lib.hid (Rb.out.below hb)
    replace Rza := Lib.hid (Rza.out.below hb)
    replace Rzb := Lib.hid (Rzb.out.below hb)
    clear hb B1
    obtain ⟨za0, za1, za2, za3, za4⟩ := Rza.out.cells
    have zal := Rza.out.lt
    try dsimp only at za0 za1 za2 za3 za4
    obtain ⟨zb0, zb1, zb2, zb3, zb4⟩ := Rzb.out.cells
    have zbl := Rzb.out.lt
    try dsimp only at zb0 zb1 zb2 zb3 zb4
    go_wp2_with fail
    go_ret
    exact ⟨rfl, B2.out⟩
  have d1 : decide (900 < (nb : Int)) = false := decide_eq_false (by omega)
  clear g0 g1
  have CRa : Hid (∀ w, Calls Tryd.prog 12 #[secv ⟨ga, pa, ta, ka, xa⟩ Aa na ca] w fun e w' => e = .returned (.bool (rightQ ⟨ga, pa, ta, ka, xa⟩)) ∧ Below w.heap.size w w') := fun w => right16 ⟨ga, pa, ta, ka, xa⟩ Aa na ca w Ma.out
  have CPa : Hid (∀ w, Rg bcells w Aa xa → Wd w → Calls Tryd.prog 14 #[secv ⟨ga, pa, ta, ka, xa⟩ Aa na ca] w (BOwn (putQ ⟨ga, pa, ta, ka, xa⟩) w)) := fun w h t => put16 ⟨ga, pa, ta, ka, xa⟩ Aa na ca w Ma.out h t
  unfold secv at CRa CPa
  dsimp only at CRa CPa
  have CRb : Hid (∀ w, Calls Tryd.prog 12 #[secv ⟨gb, pb, tb, kb, xb⟩ Ab nb cb] w fun e w' => e = .returned (.bool (rightQ ⟨gb, pb, tb, kb, xb⟩)) ∧ Below w.heap.size w w') := fun w => right16 ⟨gb, pb, tb, kb, xb⟩ Ab nb cb w Mb.out
  have CPb : Hid (∀ w, Rg bcells w Ab xb → Wd w → Calls Tryd.prog 14 #[secv ⟨gb, pb, tb, kb, xb⟩ Ab nb cb] w (BOwn (putQ ⟨gb, pb, tb, kb, xb⟩) w)) := fun w h t => put16 ⟨gb, pb, tb, kb, xb⟩ Ab nb cb w Mb.out h t
  unfold secv at CRb CPb
  dsimp only at CRb CPb
  rcases oka : rightQ ⟨ga, pa, ta, ka, xa⟩ with _ | _ <;> rcases okb : rightQ ⟨gb, pb, tb, kb, xb⟩ with _ | _
  · skip
    have PNa := Lib.hid (putq_no oka)
    rw [oka] at CRa
    rw [PNa.out] at CPa
    have PNb := Lib.hid (putq_no okb)
    rw [okb] at CRb
    rw [PNb.out] at CPb
    clear oka okb
    go_enter Tryd.func5, Tryd.ntmps5
    go_wp2_with fail
    have hqa := QB.new (w) ⟨ga, pa, ta, ka, xa⟩ Aa na ca
    dsimp only at hqa
    have hqb := QB.new ((w).alloc (.cells #[.int .i64 ga, .int .i64 pa, .int .i64 ta, .int .i64 ka, .slice Aa na ca] 24)) ⟨gb, pb, tb, kb, xb⟩ Ab nb cb
    dsimp only at hqb
    rw [show ((w).alloc (.cells #[.int .i64 ga, .int .i64 pa, .int .i64 ta, .int .i64 ka, .slice Aa na ca] 24)).heap.size = w.heap.size + 1 by simp] at hqb
    replace hqa := hqa.below ((Below.refl _ _).alloc (Nat.le_refl _) (.cells #[.int .i64 gb, .int .i64 pb, .int .i64 tb, .int .i64 kb, .slice Ab nb cb] 24))
    have hb := chain_alloc (chain_alloc (Below.refl _ w) (.cells #[.int .i64 ga, .int .i64 pa, .int .i64 ta, .int .i64 ka, .slice Aa na ca] 24)) (.cells #[.int .i64 gb, .int .i64 pb, .int .i64 tb, .int .i64 kb, .slice Ab nb cb] 24)
    obtain ⟨za, hza⟩ : ∃ z, z = w.heap.size := ⟨_, rfl⟩
    obtain ⟨zb, hzb⟩ : ∃ z, z = w.heap.size + 1 := ⟨_, rfl⟩
    rw [← hzb] at hqb ⊢
    rw [← hza] at hqa ⊢
    generalize ((w).alloc (.cells #[.int .i64 ga, .int .i64 pa, .int .i64 ta, .int .i64 ka, .slice Aa na ca] 24)).alloc (.cells #[.int .i64 gb, .int .i64 pb, .int .i64 tb, .int .i64 kb, .slice Ab nb cb] 24) = w1 at hb hqa hqb ⊢
    have Rza := Lib.hid hqa
    have Rzb := Lib.hid hqb
    clear hqa hza hqb hzb
    have B1 := Lib.hid hb
    replace Ra := Lib.hid (Ra.out.below hb)
    replace Rb := Lib.hid (Rb.out.below hb)
    clear hb
    refine (head16_any _).mono ?_
    rintro e w2 ⟨rfl, hb⟩
    have B2 := Lib.hid (chain B1.out hb)
    replace Ra := Lib.hid (Ra.out.below hb)
    replace Rb := Lib.hid (Rb.out.below hb)
    replace Rza := Lib.hid (Rza.out.below hb)
    replace Rzb := Lib.hid (Rzb.out.below hb)
    clear hb B1
    obtain ⟨za0, za1, za2, za3, za4⟩ := Rza.out.cells
    have zal := Rza.out.lt
    try dsimp only at za0 za1 za2 za3 za4
    obtain ⟨zb0, zb1, zb2, zb3, zb4⟩ := Rzb.out.cells
    have zbl := Rzb.out.lt
    try dsimp only at zb0 zb1 zb2 zb3 zb4
    go_wp2_with fail
    refine (CPa.out _ Ra.out (by first | assumption | exact Hid.out (by assumption) | exact Wd.below (Hid.out (by assumption)) (Hid.out (by assumption)) | exact Wd.below (by assumption) (Hid.out (by assumption)))).mono ?_
    rintro e w3 ⟨v, rfl, ho, hb⟩
    obtain ⟨Ap, kp, rfl, y9, rp, y8, y7⟩ := own_cap bcells_len (by decide) ho
    have Rp := Lib.hid rp
    rw [List.length_nil]
    clear ho y9 rp y8 y7
    clear za0 za1 za2 za3 za4 zal zb0 zb1 zb2 zb3 zb4 zbl
    have B3 := Lib.hid (chain B2.out hb)
    replace Ra := Lib.hid (Ra.out.below hb)
    replace Rb := Lib.hid (Rb.out.below hb)
    replace Rza := Lib.hid (Rza.out.below hb)
    replace Rzb := Lib.hid (Rzb.out.below hb)
    clear hb B2
    obtain ⟨za0, za1, za2, za3, za4⟩ := Rza.out.cells
    have zal := Rza.out.lt
    try dsimp only at za0 za1 za2 za3 za4
    obtain ⟨zb0, zb1, zb2, zb3, zb4⟩ := Rzb.out.cells
    have zbl := Rzb.out.lt
    try dsimp only at zb0 zb1 zb2 zb3 zb4
    go_wp2_with fail
    refine (CPb.out _ Rb.out (by first | assumption | exact Hid.out (by assumption) | exact Wd.below (Hid.out (by assumption)) (Hid.out (by assumption)) | exact Wd.below (by assumption) (Hid.out (by assumption)))).mono ?_
    rintro e w4 ⟨v, rfl, ho, hb⟩
    obtain ⟨Aq, kq, rfl, y9, rp, y8, y7⟩ := own_cap bcells_len (by decide) ho
    have Rq := Lib.hid rp
    rw [List.length_nil]
    clear ho y9 rp y8 y7
    clear za0 za1 za2 za3 za4 zal zb0 zb1 zb2 zb3 zb4 zbl
    have B4 := Lib.hid (chain B3.out hb)
    replace Ra := Lib.hid (Ra.out.below hb)
    replace Rb := Lib.hid (Rb.out.below hb)
    replace Rza := Lib.hid (Rza.out.below hb)
    replace Rzb := Lib.hid (Rzb.out.below hb)
    replace Rp := Lib.hid (Rp.out.below hb)
    clear hb B3
    obtain ⟨za0, za1, za2, za3, za4⟩ := Rza.out.cells
    have zal := Rza.out.lt
    try dsimp only at za0 za1 za2 za3 za4
    obtain ⟨zb0, zb1, zb2, zb3, zb4⟩ := Rzb.out.cells
    have zbl := Rzb.out.lt
    try dsimp only at zb0 zb1 zb2 zb3 zb4
    go_wp2_with fail
    refine (CRa.out _).mono ?_
    rintro e w5 ⟨rfl, hb⟩
    clear za0 za1 za2 za3 za4 zal zb0 zb1 zb2 zb3 zb4 zbl
    have B5 := Lib.hid (chain B4.out hb)
    replace Ra := Lib.hid (Ra.out.below hb)
    replace Rb := Lib.hid (Rb.out.below hb)
    replace Rza := Lib.hid (Rza.out.below hb)
    replace Rzb := Lib.hid (Rzb.out.below hb)
    replace Rp := Lib.hid (Rp.out.below hb)
    replace Rq := Lib.hid (Rq.out.below hb)
    clear hb B4
    obtain ⟨za0, za1, za2, za3, za4⟩ := Rza.out.cells
    have zal := Rza.out.lt
    try dsimp only at za0 za1 za2 za3 za4
    obtain ⟨zb0, zb1, zb2, zb3, zb4⟩ := Rzb.out.cells
    have zbl := Rzb.out.lt
    try dsimp only at zb0 zb1 zb2 zb3 zb4
    go_wp2_with fail
    refine (CRb.out _).mono ?_
    rintro e w6 ⟨rfl, hb⟩
    clear za0 za1 za2 za3 za4 zal zb0 zb1 zb2 zb3 zb4 zbl
    have B6 := Lib.hid (chain B5.out hb)
    replace Ra := Lib.hid (Ra.out.below hb)
    replace Rb := Lib.hid (Rb.out.below hb)
    replace Rza := Lib.hid (Rza.out.below hb)
    replace Rzb := Lib.hid (Rzb.out.below hb)
    replace Rp := Lib.hid (Rp.out.below hb)
    replace Rq := Lib.hid (Rq.out.below hb)
    clear hb B5
    obtain ⟨za0, za1, za2, za3, za4⟩ := Rza.out.cells
    have zal := Rza.out.lt
    try dsimp only at za0 za1 za2 za3 za4
    obtain ⟨zb0, zb1, zb2, zb3, zb4⟩ := Rzb.out.cells
    have zbl := Rzb.out.lt
    try dsimp only at zb0 zb1 zb2 zb3 zb4
    go_wp2_with fail
    go_ret
    exact ⟨rfl, B6.out⟩
  · skip
    have PNa := Lib.hid (putq_no oka)
    rw [oka] at CRa
    rw [PNa.out] at CPa
    have PLb := Lib.hid (putq_len okb)
    rw [okb] at CRb
    clear oka okb
    go_enter Tryd.func5, Tryd.ntmps5
    go_wp2_with fail
    have hqa := QB.new (w) ⟨ga, pa, ta, ka, xa⟩ Aa na ca
    dsimp only at hqa
    have hqb := QB.new ((w).alloc (.cells #[.int .i64 ga, .int .i64 pa, .int .i64 ta, .int .i64 ka, .slice Aa na ca] 24)) ⟨gb, pb, tb, kb, xb⟩ Ab nb cb
    dsimp only at hqb
    rw [show ((w).alloc (.cells #[.int .i64 ga, .int .i64 pa, .int .i64 ta, .int .i64 ka, .slice Aa na ca] 24)).heap.size = w.heap.size + 1 by simp] at hqb
    replace hqa := hqa.below ((Below.refl _ _).alloc (Nat.le_refl _) (.cells #[.int .i64 gb, .int .i64 pb, .int .i64 tb, .int .i64 kb, .slice Ab nb cb] 24))
    have hb := chain_alloc (chain_alloc (Below.refl _ w) (.cells #[.int .i64 ga, .int .i64 pa, .int .i64 ta, .int .i64 ka, .slice Aa na ca] 24)) (.cells #[.int .i64 gb, .int .i64 pb, .int .i64 tb, .int .i64 kb, .slice Ab nb cb] 24)
    obtain ⟨za, hza⟩ : ∃ z, z = w.heap.size := ⟨_, rfl⟩
    obtain ⟨zb, hzb⟩ : ∃ z, z = w.heap.size + 1 := ⟨_, rfl⟩
    rw [← hzb] at hqb ⊢
    rw [← hza] at hqa ⊢
    generalize ((w).alloc (.cells #[.int .i64 ga, .int .i64 pa, .int .i64 ta, .int .i64 ka, .slice Aa na ca] 24)).alloc (.cells #[.int .i64 gb, .int .i64 pb, .int .i64 tb, .int .i64 kb, .slice Ab nb cb] 24) = w1 at hb hqa hqb ⊢
    have Rza := Lib.hid hqa
    have Rzb := Lib.hid hqb
    clear hqa hza hqb hzb
    have B1 := Lib.hid hb
    replace Ra := Lib.hid (Ra.out.below hb)
    replace Rb := Lib.hid (Rb.out.below hb)
    clear hb
    refine (head16_any _).mono ?_
    rintro e w2 ⟨rfl, hb⟩
    have B2 := Lib.hid (chain B1.out hb)
    replace Ra := Lib.hid (Ra.out.below hb)
    replace Rb := Lib.hid (Rb.out.below hb)
    replace Rza := Lib.hid (Rza.out.below hb)
    replace Rzb := Lib.hid (Rzb.out.below hb)
    clear hb B1
    obtain ⟨za0, za1, za2, za3, za4⟩ := Rza.out.cells
    have zal := Rza.out.lt
    try dsimp only at za0 za1 za2 za3 za4
    obtain ⟨zb0, zb1, zb2, zb3, zb4⟩ := Rzb.out.cells
    have zbl := Rzb.out.lt
    try dsimp only at zb0 zb1 zb2 zb3 zb4
    go_wp2_with fail
    refine (CPa.out _ Ra.out (by first | assumption | exact Hid.out (by assumption) | exact Wd.below (Hid.out (by assumption)) (Hid.out (by assumption)) | exact Wd.below (by assumption) (Hid.out (by assumption)))).mono ?_
    rintro e w3 ⟨v, rfl, ho, hb⟩
    obtain ⟨Ap, kp, rfl, y9, rp, y8, y7⟩ := own_cap bcells_len (by decide) ho
    have Rp := Lib.hid rp
    rw [List.length_nil]
    clear ho y9 rp y8 y7
    clear za0 za1 za2 za3 za4 zal zb0 zb1 zb2 zb3 zb4 zbl
    have B3 := Lib.hid (chain B2.out hb)
    replace Ra := Lib.hid (Ra.out.below hb)
    replace Rb := Lib.hid (Rb.out.below hb)
    replace Rza := Lib.hid (Rza.out.below hb)
    replace Rzb := Lib.hid (Rzb.out.below hb)
    clear hb B2
    obtain ⟨za0, za1, za2, za3, za4⟩ := Rza.out.cells
    have zal := Rza.out.lt
    try dsimp only at za0 za1 za2 za3 za4
    obtain ⟨zb0, zb1, zb2, zb3, zb4⟩ := Rzb.out.cells
    have zbl := Rzb.out.lt
    try dsimp only at zb0 zb1 zb2 zb3 zb4
    go_wp2_with fail
    refine (CPb.out _ Rb.out (by first | assumption | exact Hid.out (by assumption) | exact Wd.below (Hid.out (by assumption)) (Hid.out (by assumption)) | exact Wd.below (by assumption) (Hid.out (by assumption)))).mono ?_
    rintro e w4 ⟨v, rfl, ho, hb⟩
    rw [PLb.out] at ho
    obtain ⟨Aq, kq, rfl, y9, rp, y8, y7⟩ := own_cap bcells_len (by decide) ho
    have Rq := Lib.hid rp
    have Mq : Hid (64 = (putQ ⟨gb, pb, tb, kb, xb⟩).length) := PLb.out.symm
    have Kq := Lib.hid y8
    clear ho y9 rp y8 y7
    clear za0 za1 za2 za3 za4 zal zb0 zb1 zb2 zb3 zb4 zbl
    have B4 := Lib.hid (chain B3.out hb)
    replace Ra := Lib.hid (Ra.out.below hb)
    replace Rb := Lib.hid (Rb.out.below hb)
    replace Rza := Lib.hid (Rza.out.below hb)
    replace Rzb := Lib.hid (Rzb.out.below hb)
    replace Rp := Lib.hid (Rp.out.below hb)
    clear hb B3
    obtain ⟨za0, za1, za2, za3, za4⟩ := Rza.out.cells
    have zal := Rza.out.lt
    try dsimp only at za0 za1 za2 za3 za4
    obtain ⟨zb0, zb1, zb2, zb3, zb4⟩ := Rzb.out.cells
    have zbl := Rzb.out.lt
    try dsimp only at zb0 zb1 zb2 zb3 zb4
    go_wp2_with fail
    refine (CRa.out _).mono ?_
    rintro e w5 ⟨rfl, hb⟩
    clear za0 za1 za2 za3 za4 zal zb0 zb1 zb2 zb3 zb4 zbl
    have B5 := Lib.hid (chain B4.out hb)
    replace Ra := Lib.hid (Ra.out.below hb)
    replace Rb := Lib.hid (Rb.out.below hb)
    replace Rza := Lib.hid (Rza.out.below hb)
    replace Rzb := Lib.hid (Rzb.out.below hb)
    replace Rp := Lib.hid (Rp.out.below hb)
    replace Rq := Lib.hid (Rq.out.below hb)
    clear hb B4
    obtain ⟨za0, za1, za2, za3, za4⟩ := Rza.out.cells
    have zal := Rza.out.lt
    try dsimp only at za0 za1 za2 za3 za4
    obtain ⟨zb0, zb1, zb2, zb3, zb4⟩ := Rzb.out.cells
    have zbl := Rzb.out.lt
    try dsimp only at zb0 zb1 zb2 zb3 zb4
    go_wp2_with fail
    refine (CRb.out _).mono ?_
    rintro e w6 ⟨rfl, hb⟩
    clear za0 za1 za2 za3 za4 zal zb0 zb1 zb2 zb3 zb4 zbl
    have B6 := Lib.hid (chain B5.out hb)
    replace Ra := Lib.hid (Ra.out.below hb)
    replace Rb := Lib.hid (Rb.out.below hb)
    replace Rza := Lib.hid (Rza.out.below hb)
    replace Rzb := Lib.hid (Rzb.out.below hb)
    replace Rp := Lib.hid (Rp.out.below hb)
    replace Rq := Lib.hid (Rq.out.below hb)
    clear hb B5
    obtain ⟨za0, za1, za2, za3, za4⟩ := Rza.out.cells
    have zal := Rza.out.lt
    try dsimp only at za0 za1 za2 za3 za4
    obtain ⟨zb0, zb1, zb2, zb3, zb4⟩ := Rzb.out.cells
    have zbl := Rzb.out.lt
    try dsimp only at zb0 zb1 zb2 zb3 zb4
    go_wp2_with fail
    go_ret
    exact ⟨rfl, B6.out⟩
  · skip
    have PLa := Lib.hid (putq_len oka)
    rw [oka] at CRa
    have PNb := Lib.hid (putq_no okb)
    rw [okb] at CRb
    rw [PNb.out] at CPb
    clear oka okb
    go_enter Tryd.func5, Tryd.ntmps5
    go_wp2_with fail
    have hqa := QB.new (w) ⟨ga, pa, ta, ka, xa⟩ Aa na ca
    dsimp only at hqa
    have hqb := QB.new ((w).alloc (.cells #[.int .i64 ga, .int .i64 pa, .int .i64 ta, .int .i64 ka, .slice Aa na ca] 24)) ⟨gb, pb, tb, kb, xb⟩ Ab nb cb
    dsimp only at hqb
    rw [show ((w).alloc (.cells #[.int .i64 ga, .int .i64 pa, .int .i64 ta, .int .i64 ka, .slice Aa na ca] 24)).heap.size = w.heap.size + 1 by simp] at hqb
    replace hqa := hqa.below ((Below.refl _ _).alloc (Nat.le_refl _) (.cells #[.int .i64 gb, .int .i64 pb, .int .i64 tb, .int .i64 kb, .slice Ab nb cb] 24))
    have hb := chain_alloc (chain_alloc (Below.refl _ w) (.cells #[.int .i64 ga, .int .i64 pa, .int .i64 ta, .int .i64 ka, .slice Aa na ca] 24)) (.cells #[.int .i64 gb, .int .i64 pb, .int .i64 tb, .int .i64 kb, .slice Ab nb cb] 24)
    obtain ⟨za, hza⟩ : ∃ z, z = w.heap.size := ⟨_, rfl⟩
    obtain ⟨zb, hzb⟩ : ∃ z, z = w.heap.size + 1 := ⟨_, rfl⟩
    rw [← hzb] at hqb ⊢
    rw [← hza] at hqa ⊢
    generalize ((w).alloc (.cells #[.int .i64 ga, .int .i64 pa, .int .i64 ta, .int .i64 ka, .slice Aa na ca] 24)).alloc (.cells #[.int .i64 gb, .int .i64 pb, .int .i64 tb, .int .i64 kb, .slice Ab nb cb] 24) = w1 at hb hqa hqb ⊢
    have Rza := Lib.hid hqa
    have Rzb := Lib.hid hqb
    clear hqa hza hqb hzb
    have B1 := Lib.hid hb
    replace Ra := Lib.hid (Ra.out.below hb)
    replace Rb := Lib.hid (Rb.out.below hb)
    clear hb
    refine (head16_any _).mono ?_
    rintro e w2 ⟨rfl, hb⟩
    have B2 := Lib.hid (chain B1.out hb)
    replace Ra := Lib.hid (Ra.out.below hb)
    replace Rb := Lib.hid (Rb.out.below hb)
    replace Rza := Lib.hid (Rza.out.below hb)
    replace Rzb := Lib.hid (Rzb.out.below hb)
    clear hb B1
    obtain ⟨za0, za1, za2, za3, za4⟩ := Rza.out.cells
    have zal := Rza.out.lt
    try dsimp only at za0 za1 za2 za3 za4
    obtain ⟨zb0, zb1, zb2, zb3, zb4⟩ := Rzb.out.cells
    have zbl := Rzb.out.lt
    try dsimp only at zb0 zb1 zb2 zb3 zb4
    go_wp2_with fail
    refine (CPa.out _ Ra.out (by first | assumption | exact Hid.out (by assumption) | exact Wd.below (Hid.out (by assumption)) (Hid.out (by assumption)) | exact Wd.below (by assumption) (Hid.out (by assumption)))).mono ?_
    rintro e w3 ⟨v, rfl, ho, hb⟩
    rw [PLa.out] at ho
    obtain ⟨Ap, kp, rfl, y9, rp, y8, y7⟩ := own_cap bcells_len (by decide) ho
    have Rp := Lib.hid rp
    have Mp : Hid (64 = (putQ ⟨ga, pa, ta, ka, xa⟩).length) := PLa.out.symm
    have Kp := Lib.hid y8
    clear ho y9 rp y8 y7
    clear za0 za1 za2 za3 za4 zal zb0 zb1 zb2 zb3 zb4 zbl
    have B3 := Lib.hid (chain B2.out hb)
    replace Ra := Lib.hid (Ra.out.below hb)
    replace Rb := Lib.hid (Rb.out.below hb)
    replace Rza := Lib.hid (Rza.out.below hb)
    replace Rzb := Lib.hid (Rzb.out.below hb)
    clear hb B2
    obtain ⟨za0, za1, za2, za3, za4⟩ := Rza.out.cells
    have zal := Rza.out.lt
    try dsimp only at za0 za1 za2 za3 za4
    obtain ⟨zb0, zb1, zb2, zb3, zb4⟩ := Rzb.out.cells
    have zbl := Rzb.out.lt
    try dsimp only at zb0 zb1 zb2 zb3 zb4
    go_wp2_with fail
    refine (CPb.out _ Rb.out (by first | assumption | exact Hid.out (by assumption) | exact Wd.below (Hid.out (by assumption)) (Hid.out (by assumption)) | exact Wd.below (by assumption) (Hid.out (by assumption)))).mono ?_
    rintro e w4 ⟨v, rfl, ho, hb⟩
    obtain ⟨Aq, kq, rfl, y9, rp, y8, y7⟩ := own_cap bcells_len (by decide) ho
    have Rq := Lib.hid rp
    rw [List.length_nil]
    clear ho y9 rp y8 y7
    clear za0 za1 za2 za3 za4 zal zb0 zb1 zb2 zb3 zb4 zbl
    have B4 := Lib.hid (chain B3.out hb)
    replace Ra := Lib.hid (Ra.out.below hb)
    replace Rb := Lib.hid (Rb.out.below hb)
    replace Rza := Lib.hid (Rza.out.below hb)
    replace Rzb := Lib.hid (Rzb.out.below hb)
    replace Rp := Lib.hid (Rp.out.below hb)
    clear hb B3
    obtain ⟨za0, za1, za2, za3, za4⟩ := Rza.out.cells
    have zal := Rza.out.lt
    try dsimp only at za0 za1 za2 za3 za4
    obtain ⟨zb0, zb1, zb2, zb3, zb4⟩ := Rzb.out.cells
    have zbl := Rzb.out.lt
    try dsimp only at zb0 zb1 zb2 zb3 zb4
    go_wp2_with fail
    refine (CRa.out _).mono ?_
    rintro e w5 ⟨rfl, hb⟩
    clear za0 za1 za2 za3 za4 zal zb0 zb1 zb2 zb3 zb4 zbl
    have B5 := Lib.hid (chain B4.out hb)
    replace Ra := Lib.hid (Ra.out.below hb)
    replace Rb := Lib.hid (Rb.out.below hb)
    replace Rza := Lib.hid (Rza.out.below hb)
    replace Rzb := Lib.hid (Rzb.out.below hb)
    replace Rp := Lib.hid (Rp.out.below hb)
    replace Rq := Lib.hid (Rq.out.below hb)
    clear hb B4
    obtain ⟨za0, za1, za2, za3, za4⟩ := Rza.out.cells
    have zal := Rza.out.lt
    try dsimp only at za0 za1 za2 za3 za4
    obtain ⟨zb0, zb1, zb2, zb3, zb4⟩ := Rzb.out.cells
    have zbl := Rzb.out.lt
    try dsimp only at zb0 zb1 zb2 zb3 zb4
    go_wp2_with fail
    refine (CRb.out _).mono ?_
    rintro e w6 ⟨rfl, hb⟩
    clear za0 za1 za2 za3 za4 zal zb0 zb1 zb2 zb3 zb4 zbl
    have B6 := Lib.hid (chain B5.out hb)
    replace Ra := Lib.hid (Ra.out.below hb)
    replace Rb := Lib.hid (Rb.out.below hb)
    replace Rza := Lib.hid (Rza.out.below hb)
    replace Rzb := Lib.hid (Rzb.out.below hb)
    replace Rp := Lib.hid (Rp.out.below hb)
    replace Rq := Lib.hid (Rq.out.below hb)
    clear hb B5
    obtain ⟨za0, za1, za2, za3, za4⟩ := Rza.out.cells
    have zal := Rza.out.lt
    try dsimp only at za0 za1 za2 za3 za4
    obtain ⟨zb0, zb1, zb2, zb3, zb4⟩ := Rzb.out.cells
    have zbl := Rzb.out.lt
    try dsimp only at zb0 zb1 zb2 zb3 zb4
    go_wp2_with fail
    go_ret
    exact ⟨rfl, B6.out⟩
  · skip
    have PLa := Lib.hid (putq_len oka)
    rw [oka] at CRa
    have PLb := Lib.hid (putq_len okb)
    rw [okb] at CRb
    have AE := Lib.hid (apart_eq oka okb)
    obtain ⟨r, hr⟩ : ∃ r, r = sameQ ⟨ga, pa, ta, ka, xa⟩ ⟨gb, pb, tb, kb, xb⟩ := ⟨_, rfl⟩
    have CS : Hid (∀ w, Rg bcells w Aa xa → Rg bcells w Ab xb → Calls Tryd.prog 16 #[.agg #[.int .i64 ga, .int .i64 pa, .int .i64 ta, .int .i64 ka, .slice Aa na ca], .agg #[.int .i64 gb, .int .i64 pb, .int .i64 tb, .int .i64 kb, .slice Ab nb cb]] w fun e w' => e = .returned (.bool r) ∧ Below w.heap.size w w') := fun w h1 h2 => by rw [hr]; exact rsameg16 ga pa ta ka gb pb tb kb xa xb Aa Ab na ca nb cb w Ma.out Mb.out h1 h2
    rw [← hr] at AE
    have rr : (r == r) = true := by simp
    have RR := Lib.hid rr
    clear hr rr
    clear oka okb
    go_enter Tryd.func5, Tryd.ntmps5
    go_wp2_with fail
    have hqa := QB.new (w) ⟨ga, pa, ta, ka, xa⟩ Aa na ca
    dsimp only at hqa
    have hqb := QB.new ((w).alloc (.cells #[.int .i64 ga, .int .i64 pa, .int .i64 ta, .int .i64 ka, .slice Aa na ca] 24)) ⟨gb, pb, tb, kb, xb⟩ Ab nb cb
    dsimp only at hqb
    rw [show ((w).alloc (.cells #[.int .i64 ga, .int .i64 pa, .int .i64 ta, .int .i64 ka, .slice Aa na ca] 24)).heap.size = w.heap.size + 1 by simp] at hqb
    replace hqa := hqa.below ((Below.refl _ _).alloc (Nat.le_refl _) (.cells #[.int .i64 gb, .int .i64 pb, .int .i64 tb, .int .i64 kb, .slice Ab nb cb] 24))
    have hb := chain_alloc (chain_alloc (Below.refl _ w) (.cells #[.int .i64 ga, .int .i64 pa, .int .i64 ta, .int .i64 ka, .slice Aa na ca] 24)) (.cells #[.int .i64 gb, .int .i64 pb, .int .i64 tb, .int .i64 kb, .slice Ab nb cb] 24)
    obtain ⟨za, hza⟩ : ∃ z, z = w.heap.size := ⟨_, rfl⟩
    obtain ⟨zb, hzb⟩ : ∃ z, z = w.heap.size + 1 := ⟨_, rfl⟩
    rw [← hzb] at hqb ⊢
    rw [← hza] at hqa ⊢
    generalize ((w).alloc (.cells #[.int .i64 ga, .int .i64 pa, .int .i64 ta, .int .i64 ka, .slice Aa na ca] 24)).alloc (.cells #[.int .i64 gb, .int .i64 pb, .int .i64 tb, .int .i64 kb, .slice Ab nb cb] 24) = w1 at hb hqa hqb ⊢
    have Rza := Lib.hid hqa
    have Rzb := Lib.hid hqb
    clear hqa hza hqb hzb
    have B1 := Lib.hid hb
    replace Ra := Lib.hid (Ra.out.below hb)
    replace Rb := Lib.hid (Rb.out.below hb)
    clear hb
    refine (head16_any _).mono ?_
    rintro e w2 ⟨rfl, hb⟩
    have B2 := Lib.hid (chain B1.out hb)
    replace Ra := Lib.hid (Ra.out.below hb)
    replace Rb := Lib.hid (Rb.out.below hb)
    replace Rza := Lib.hid (Rza.out.below hb)
    replace Rzb := Lib.hid (Rzb.out.below hb)
    clear hb B1
    obtain ⟨za0, za1, za2, za3, za4⟩ := Rza.out.cells
    have zal := Rza.out.lt
    try dsimp only at za0 za1 za2 za3 za4
    obtain ⟨zb0, zb1, zb2, zb3, zb4⟩ := Rzb.out.cells
    have zbl := Rzb.out.lt
    try dsimp only at zb0 zb1 zb2 zb3 zb4
    go_wp2_with fail
    refine (CPa.out _ Ra.out (by first | assumption | exact Hid.out (by assumption) | exact Wd.below (Hid.out (by assumption)) (Hid.out (by assumption)) | exact Wd.below (by assumption) (Hid.out (by assumption)))).mono ?_
    rintro e w3 ⟨v, rfl, ho, hb⟩
    rw [PLa.out] at ho
    obtain ⟨Ap, kp, rfl, y9, rp, y8, y7⟩ := own_cap bcells_len (by decide) ho
    have Rp := Lib.hid rp
    have Mp : Hid (64 = (putQ ⟨ga, pa, ta, ka, xa⟩).length) := PLa.out.symm
    have Kp := Lib.hid y8
    clear ho y9 rp y8 y7
    clear za0 za1 za2 za3 za4 zal zb0 zb1 zb2 zb3 zb4 zbl
    have B3 := Lib.hid (chain B2.out hb)
    replace Ra := Lib.hid (Ra.out.below hb)
    replace Rb := Lib.hid (Rb.out.below hb)
    replace Rza := Lib.hid (Rza.out.below hb)
    replace Rzb := Lib.hid (Rzb.out.below hb)
    clear hb B2
    have tp := text_of (c := kp) Rp.out Mp.out
    obtain ⟨za0, za1, za2, za3, za4⟩ := Rza.out.cells
    have zal := Rza.out.lt
    try dsimp only at za0 za1 za2 za3 za4
    obtain ⟨zb0, zb1, zb2, zb3, zb4⟩ := Rzb.out.cells
    have zbl := Rzb.out.lt
    try dsimp only at zb0 zb1 zb2 zb3 zb4
    go_wp2_with fail
    refine (CPb.out _ Rb.out (by first | assumption | exact Hid.out (by assumption) | exact Wd.below (Hid.out (by assumption)) (Hid.out (by assumption)) | exact Wd.below (by assumption) (Hid.out (by assumption)))).mono ?_
    rintro e w4 ⟨v, rfl, ho, hb⟩
    rw [PLb.out] at ho
    obtain ⟨Aq, kq, rfl, y9, rp, y8, y7⟩ := own_cap bcells_len (by decide) ho
    have Rq := Lib.hid rp
    have Mq : Hid (64 = (putQ ⟨gb, pb, tb, kb, xb⟩).length) := PLb.out.symm
    have Kq := Lib.hid y8
    clear ho y9 rp y8 y7
    clear za0 za1 za2 za3 za4 zal zb0 zb1 zb2 zb3 zb4 zbl
    have B4 := Lib.hid (chain B3.out hb)
    replace Ra := Lib.hid (Ra.out.below hb)
    replace Rb := Lib.hid (Rb.out.below hb)
    replace Rza := Lib.hid (Rza.out.below hb)
    replace Rzb := Lib.hid (Rzb.out.below hb)
    replace Rp := Lib.hid (Rp.out.below hb)
    clear tp
    clear hb B3
    have tp := text_of (c := kp) Rp.out Mp.out
    have tq := text_of (c := kq) Rq.out Mq.out
    obtain ⟨za0, za1, za2, za3, za4⟩ := Rza.out.cells
    have zal := Rza.out.lt
    try dsimp only at za0 za1 za2 za3 za4
    obtain ⟨zb0, zb1, zb2, zb3, zb4⟩ := Rzb.out.cells
    have zbl := Rzb.out.lt
    try dsimp only at zb0 zb1 zb2 zb3 zb4
    have ae := AE.out
    go_wp2_with fail
    clear za0 za1 za2 za3 za4 zal zb0 zb1 zb2 zb3 zb4 zbl
    refine wp_region_noPanic ?_
    refine wp_region_held_drew (S := fun w' => Below (w4).drew.heap.size (w4).drew w') (by kernel_rfl) (Below.refl _ _) (fun hHeld => ?_)
    have hb := below_drew (w4)
    generalize (w4).drew = w5 at hb hHeld ⊢
    have B5 := Lib.hid (chain B4.out hb)
    replace Ra := Lib.hid (Ra.out.below hb)
    replace Rb := Lib.hid (Rb.out.below hb)
    replace Rza := Lib.hid (Rza.out.below hb)
    replace Rzb := Lib.hid (Rzb.out.below hb)
    replace Rp := Lib.hid (Rp.out.below hb)
    replace Rq := Lib.hid (Rq.out.below hb)
    clear tp tq
    clear hb B4
    clear hHeld
    have hHeld : Below w5.heap.size w5 w5 := Below.refl _ _
    refine wpAnyH_take (i := 0) (v := ?vv25) (by simp only [List.getElem?_toArray, List.getElem?_cons_zero]; rfl) (by kernel_rfl) (by kernel_rfl) (by kernel_rfl) (fun _ _ _ h => h) (Or.inl ⟨by rfl, ?yy25⟩) (by assumption) ?rr25
    case yy25 => (intro w' hSw; go_simp; first | done | with_reducible rfl)
    simp only [Act.put, List.setIfInBounds_toArray, List.set_cons_zero, List.set_cons_succ]
    refine wpAnyH_take (i := 1) (v := ?vv26) (by simp only [List.getElem?_toArray, List.getElem?_cons_zero, List.getElem?_cons_succ]; rfl) (by kernel_rfl) (by kernel_rfl) (by kernel_rfl) (fun _ _ _ h => h) (Or.inl ⟨by rfl, ?yy26⟩) (by assumption) ?rr26
    case yy26 => (intro w' hSw; go_simp; first | done | with_reducible rfl)
    simp only [Act.put, List.setIfInBounds_toArray, List.set_cons_zero, List.set_cons_succ]
    refine wpAnyH_take (i := 2) (v := ?vv27) (by simp only [List.getElem?_toArray, List.getElem?_cons_zero, List.getElem?_cons_succ]; rfl) (by kernel_rfl) (by kernel_rfl) (by kernel_rfl) (fun _ _ _ h => h) (Or.inl ⟨by rfl, ?yy27⟩) (by assumption) ?rr27
    case yy27 => (intro w' hSw; go_simp; first | done | with_reducible rfl)
    simp only [Act.put, List.setIfInBounds_toArray, List.set_cons_zero, List.set_cons_succ]
    refine wpAnyH_take (i := 3) (v := ?vv28) (by simp only [List.getElem?_toArray, List.getElem?_cons_zero, List.getElem?_cons_succ]; rfl) (by kernel_rfl) (by kernel_rfl) (by kernel_rfl) (fun _ _ _ h => h) (Or.inl ⟨by rfl, ?yy28⟩) (by assumption) ?rr28
    case yy28 => (intro w' hSw; have tp := text_of (c := kp) (Rp.out.below hSw) Mp.out; have tq := text_of (c := kq) (Rq.out.below hSw) Mq.out; go_simp; first | done | with_reducible rfl)
    simp only [Act.put, List.setIfInBounds_toArray, List.set_cons_zero, List.set_cons_succ]
    refine wpAnyH_take (i := 4) (v := ?vv29) (by simp only [List.getElem?_toArray, List.getElem?_cons_zero, List.getElem?_cons_succ]; rfl) (by kernel_rfl) (by kernel_rfl) (by kernel_rfl) (fun _ _ _ h => h) (Or.inl ⟨by rfl, ?yy29⟩) (by assumption) ?rr29
    case yy29 => (intro w' hSw; go_simp; first | done | with_reducible rfl)
    simp only [Act.put, List.setIfInBounds_toArray, List.set_cons_zero, List.set_cons_succ]
    refine wpAnyH_take (i := 5) (v := ?vv30) (by simp only [List.getElem?_toArray, List.getElem?_cons_zero, List.getElem?_cons_succ]; rfl) (by kernel_rfl) (by kernel_rfl) (by kernel_rfl) (fun _ _ _ h => h) (Or.inl ⟨by rfl, ?yy30⟩) (by assumption) ?rr30
    case yy30 => (intro w' hSw; have tp := text_of (c := kp) (Rp.out.below hSw) Mp.out; have tq := text_of (c := kq) (Rq.out.below hSw) Mq.out; go_simp; first | done | with_reducible rfl)
    simp only [Act.put, List.setIfInBounds_toArray, List.set_cons_zero, List.set_cons_succ]
    refine wpAnyH_take (i := 6) (v := ?vv31) (by simp only [List.getElem?_toArray, List.getElem?_cons_zero, List.getElem?_cons_succ]; rfl) (by kernel_rfl) (by kernel_rfl) (by kernel_rfl) (fun _ _ _ h => h) (Or.inl ⟨by rfl, ?yy31⟩) (by assumption) ?rr31
    case yy31 => (intro w' hSw; go_simp; first | done | with_reducible rfl)
    simp only [Act.put, List.setIfInBounds_toArray, List.set_cons_zero, List.set_cons_succ]
    refine wpAnyH_take (i := 7) (v := ?vv32) (by simp only [List.getElem?_toArray, List.getElem?_cons_zero, List.getElem?_cons_succ]; rfl) (by kernel_rfl) (by kernel_rfl) (by kernel_rfl) (fun _ _ _ h => h) (Or.inl ⟨by rfl, ?yy32⟩) (by assumption) ?rr32
    case yy32 => (intro w' hSw; obtain ⟨za0, za1, za2, za3, za4⟩ := (Rza.out.below hSw).cells; (try dsimp only at za0 za1 za2 za3 za4); obtain ⟨zb0, zb1, zb2, zb3, zb4⟩ := (Rzb.out.below hSw).cells; (try dsimp only at zb0 zb1 zb2 zb3 zb4); go_simp; first | done | with_reducible rfl)
    simp only [Act.put, List.setIfInBounds_toArray, List.set_cons_zero, List.set_cons_succ]
    refine wpAnyH_take (i := 8) (v := ?vv33) (by simp only [List.getElem?_toArray, List.getElem?_cons_zero, List.getElem?_cons_succ]; rfl) (by kernel_rfl) (by kernel_rfl) (by kernel_rfl) (fun _ _ _ h => h) (Or.inl ⟨by rfl, ?yy33⟩) (by assumption) ?rr33
    case yy33 => (intro w' hSw; obtain ⟨za0, za1, za2, za3, za4⟩ := (Rza.out.below hSw).cells; (try dsimp only at za0 za1 za2 za3 za4); obtain ⟨zb0, zb1, zb2, zb3, zb4⟩ := (Rzb.out.below hSw).cells; (try dsimp only at zb0 zb1 zb2 zb3 zb4); go_simp; first | done | with_reducible rfl)
    simp only [Act.put, List.setIfInBounds_toArray, List.set_cons_zero, List.set_cons_succ]
    refine wpAnyH_ready (rs := [9]) (by kernel_rfl) (by simp) ?_
    refine AllReadyH.cons (by simp only [List.getElem?_toArray, List.getElem?_cons_zero, List.getElem?_cons_succ]; rfl) (fun K hK => ?_) AllReadyH.nil
    go_simp
    go_at_call 16
    (with_reducible refine (CS.out _ Ra.out Rb.out).mono ?_)
    rintro e w6 ⟨rfl, hb⟩
    have hb0 := hb
    go_wp2_with fail
    refine hK.out _ _ hb0 (fun hHeld => ?_)
    clear hK K hHeld
    refine wpAnyH_more (S' := fun w' => Below w6.heap.size w6 w') (fun _ h => chain hb0 h) _ _ _ _ ?_
    clear hb0
    have hHeld : Below w6.heap.size w6 w6 := Below.refl _ _
    try simp only [Act.put, List.setIfInBounds_toArray, List.set_cons_zero, List.set_cons_succ]
    have B6 := Lib.hid (chain B5.out hb)
    replace Ra := Lib.hid (Ra.out.below hb)
    replace Rb := Lib.hid (Rb.out.below hb)
    replace Rza := Lib.hid (Rza.out.below hb)
    replace Rzb := Lib.hid (Rzb.out.below hb)
    replace Rp := Lib.hid (Rp.out.below hb)
    replace Rq := Lib.hid (Rq.out.below hb)
    clear hb B5
    refine wpAnyH_take (i := 10) (v := ?vv34) (by simp only [List.getElem?_toArray, List.getElem?_cons_zero, List.getElem?_cons_succ]; rfl) (by kernel_rfl) (by kernel_rfl) (by kernel_rfl) (fun _ _ _ h => h) (Or.inl ⟨by rfl, ?yy34⟩) (by assumption) ?rr34
    case yy34 => (intro w' hSw; go_simp; first | done | with_reducible rfl)
    simp only [Act.put, List.setIfInBounds_toArray, List.set_cons_zero, List.set_cons_succ]
    refine wpAnyH_take (i := 11) (v := ?vv35) (by simp only [List.getElem?_toArray, List.getElem?_cons_zero, List.getElem?_cons_succ]; rfl) (by kernel_rfl) (by kernel_rfl) (by kernel_rfl) (fun _ _ _ h => h) (Or.inl ⟨by rfl, ?yy35⟩) (by assumption) ?rr35
    case yy35 => (intro w' hSw; go_simp; first | done | with_reducible rfl)
    simp only [Act.put, List.setIfInBounds_toArray, List.set_cons_zero, List.set_cons_succ]
    refine wpAnyH_take (i := 12) (v := ?vv36) (by simp only [List.getElem?_toArray, List.getElem?_cons_zero, List.getElem?_cons_succ]; rfl) (by kernel_rfl) (by kernel_rfl) (by kernel_rfl) (fun _ _ _ h => h) (Or.inl ⟨by rfl, ?yy36⟩) (by assumption) ?rr36
    case yy36 => (intro w' hSw; go_simp; first | done | with_reducible rfl)
    simp only [Act.put, List.setIfInBounds_toArray, List.set_cons_zero, List.set_cons_succ]
    refine wpAnyH_done (by kernel_rfl) ?_ _
    refine NoPanic.normal ?_
    clear hHeld
    have tp := text_of (c := kp) Rp.out Mp.out
    have tq := text_of (c := kq) Rq.out Mq.out
    obtain ⟨za0, za1, za2, za3, za4⟩ := Rza.out.cells
    have zal := Rza.out.lt
    try dsimp only at za0 za1 za2 za3 za4
    obtain ⟨zb0, zb1, zb2, zb3, zb4⟩ := Rzb.out.cells
    have zbl := Rzb.out.lt
    try dsimp only at zb0 zb1 zb2 zb3 zb4
    have rr := RR.out
    go_wp2_with fail
    go_ret
    exact ⟨rfl, B6.out⟩

end Go.Proofs.YtjokaaekliapmaaDoor
