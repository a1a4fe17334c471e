/-
  SectorSorts: the bytes of sectors of unlike generations stand in the order of these; of one generation in that of their places.
-/
import Derived.Test.YtjokaaekliapmaaDoorQHead
import Derived.Deep.DeepCutAuto
namespace Go.Proofs.YtjokaaekliapmaaDoor
open Go.RowKit

theorem sorts_g {a b : Sec} (ha : rightQ a = true) (hb : rightQ b = true) (h : ¬ a.g = b.g) : Op.bytesLess (tx (putQ a)).toList (tx (putQ b)).toList = decide (a.g < b.g) := by
  obtain ⟨a1, a2, _⟩ := right_q.1 ha
  obtain ⟨b1, b2, _⟩ := right_q.1 hb
  rw [tx_list, tx_list, putq_yes ha, putq_yes hb]
  unfold laidQ headQ
  simp only [List.append_assoc]
  rw [less_be 8 _ _ _ _ (by show _ < 256 ^ 8; omega) (by show _ < 256 ^ 8; omega)]
  have e : (a.g.toNat == b.g.toNat) = false := by rw [beq_eq_false_iff_ne]; omega
  rw [e, Bool.false_and, Bool.or_false]
  exact decide_eq_decide.2 (by omega)
theorem sorts_p {a b : Sec} (ha : rightQ a = true) (hb : rightQ b = true) (h : a.g = b.g) (h2 : ¬ a.p = b.p) : Op.bytesLess (tx (putQ a)).toList (tx (putQ b)).toList = decide (a.p < b.p) := by
  obtain ⟨a1, a2, a3, a4, _⟩ := right_q.1 ha
  obtain ⟨b1, b2, b3, b4, _⟩ := right_q.1 hb
  rw [tx_list, tx_list, putq_yes ha, putq_yes hb]
  unfold laidQ headQ
  simp only [List.append_assoc]
  rw [h, less_app, less_be 2 _ _ _ _ (by show _ < 256 ^ 2; omega) (by show _ < 256 ^ 2; omega)]
  have e : (a.p.toNat == b.p.toNat) = false := by rw [beq_eq_false_iff_ne]; omega
  rw [e, Bool.false_and, Bool.or_false]
  exact decide_eq_decide.2 (by omega)

set_option maxHeartbeats 8000000 in
set_option maxRecDepth 100000 in
theorem law_qsorts (ga pa ta ka : Int) (Aa : Option Addr) (ca na : Nat) (xa : List UInt8) (gb pb tb kb : Int) (Ab : Option Addr) (cb nb : Nat) (xb : List UInt8) (w : World) (hT : Wd w) (ha : Rg bcells w Aa xa) (la : na = xa.length) (qa : na ≤ ca) (hb : Rg bcells w Ab xb) (lb : nb = xb.length) (qb : nb ≤ cb) :
    Calls Tryd.prog 8 #[.agg #[.int .i64 ga, .int .i64 pa, .int .i64 ta, .int .i64 ka, .slice Aa na ca], .agg #[.int .i64 gb, .int .i64 pb, .int .i64 tb, .int .i64 kb, .slice Ab nb cb]] w fun e w' => e = .returned (.bool true) ∧ Below w.heap.size w w' := by
  have HT := Lib.hid hT
  clear hT
  have Ra := Lib.hid ha; have Ma := Lib.hid la; have Ka := Lib.hid qa
  clear ha la qa
  have Rb := Lib.hid hb; have Mb := Lib.hid lb; have Kb := Lib.hid qb
  clear hb lb qb
  by_cases g0 : 900 < na
  · skip
    have d0 : decide (900 < (na : Int)) = true := decide_eq_true (by omega)
    clear g0
    go_enter Tryd.func8, Tryd.ntmps8
    go_wp2_with fail
    have hqa := QB.new (w) ⟨ga, pa, ta, ka, xa⟩ Aa na ca
    dsimp only at hqa
    have hqb := QB.new ((w).alloc (.cells #[.int .i64 ga, .int .i64 pa, .int .i64 ta, .int .i64 ka, .slice Aa na ca] 24)) ⟨gb, pb, tb, kb, xb⟩ Ab nb cb
    dsimp only at hqb
    rw [show ((w).alloc (.cells #[.int .i64 ga, .int .i64 pa, .int .i64 ta, .int .i64 ka, .slice Aa na ca] 24)).heap.size = w.heap.size + 1 by simp] at hqb
    replace hqa := hqa.below ((Below.refl _ _).alloc (Nat.le_refl _) (.cells #[.int .i64 gb, .int .i64 pb, .int .i64 tb, .int .i64 kb, .slice Ab nb cb] 24))
    have hb := chain_alloc (chain_alloc (Below.refl _ w) (.cells #[.int .i64 ga, .int .i64 pa, .int .i64 ta, .int .i64 ka, .slice Aa na ca] 24)) (.cells #[.int .i64 gb, .int .i64 pb, .int .i64 tb, .int .i64 kb, .slice Ab nb cb] 24)
    obtain ⟨za, hza⟩ : ∃ z, z = w.heap.size := ⟨_, rfl⟩
    obtain ⟨zb, hzb⟩ : ∃ z, z = w.heap.size + 1 := ⟨_, rfl⟩
    rw [← hzb] at hqb ⊢
    rw [← hza] at hqa ⊢
    generalize ((w).alloc (.cells #[.int .i64 ga, .int .i64 pa, .int .i64 ta, .int .i64 ka, .slice Aa na ca] 24)).alloc (.cells #[.int .i64 gb, .int .i64 pb, .int .i64 tb, .int .i64 kb, .slice Ab nb cb] 24) = w1 at hb hqa hqb ⊢
    have Rza := Lib.hid hqa
    have Rzb := Lib.hid hqb
    clear hqa hza hqb hzb
    have B1 := Lib.hid hb
    replace Ra := Lib.hid (Ra.out.below hb)
    replace Rb := Lib.hid (Rb.out.below hb)
    clear hb
    refine (head16_any _).mono ?_
    rintro e w2 ⟨rfl, hb⟩
    have B2 := Lib.hid (chain B1.out hb)
    replace Ra := Lib.hid (Ra.out.below hb)
    replace Rb := Lib.hid (Rb.out.below hb)
    replace Rza := Lib.hid (Rza.out.below hb)
    replace Rzb := Lib.hid (Rzb.out.below hb)
    clear hb B1
    obtain ⟨za0, za1, za2, za3, za4⟩ := Rza.out.cells
    have zal := Rza.out.lt
    try dsimp only at za0 za1 za2 za3 za4
    obtain ⟨zb0, zb1, zb2, zb3, zb4⟩ := Rzb.out.cells
    have zbl := Rzb.out.lt
    try dsimp only at zb0 zb1 zb2 zb3 zb4
    go_wp2_with fail
    go_ret
    exact ⟨rfl, B2.out⟩
  have d0 : decide (900 < (na : Int)) = false := decide_eq_false (by omega)
  by_cases g1 : 900 < nb
  · skip
    have d1 : decide (900 < (nb : Int)) = true := decide_eq_true (by omega)
    clear g0 g1
    go_enter Tryd.func8, Tryd.ntmps8
    go_wp2_with fail
    have hqa := QB.new (w) ⟨ga, pa, ta, ka, xa⟩ Aa na ca
    dsimp only at hqa
    have hqb := QB.new ((w).alloc (.cells #[.int .i64 ga, .int .i64 pa, .int .i64 ta, .int .i64 ka, .slice Aa na ca] 24)) ⟨gb, pb, tb, kb, xb⟩ Ab nb cb
    dsimp only at hqb
    rw [show ((w).alloc (.cells #[.int .i64 ga, .int .i64 pa, .int .i64 ta, .int .i64 ka, .slice Aa na ca] 24)).heap.size = w.heap.size + 1 by simp] at hqb
    replace hqa := hqa.below ((Below.refl _ _).alloc (Nat.le_refl _) (.cells #[.int .i64 gb, .int .i64 pb, .int .i64 tb, .int .i64 kb, .slice Ab nb cb] 24))
    have hb := chain_alloc (chain_alloc (Below.refl _ w) (.cells #[.int .i64 ga, .int .i64 pa, .int .i64 ta, .int .i64 ka, .slice Aa na ca] 24)) (.cells #[.int .i64 gb, .int .i64 pb, .int .i64 tb, .int .i64 kb, .slice Ab nb cb] 24)
    obtain ⟨za, hza⟩ : ∃ z, z = w.heap.size := ⟨_, rfl⟩
    obtain ⟨zb, hzb⟩ : ∃ z, z = w.heap.size + 1 := ⟨_, rfl⟩
    rw [← hzb] at hqb ⊢
    rw [← hza] at hqa ⊢
    generalize ((w).alloc (.cells #[.int .i64 ga, .int .i64 pa, .int .i64 ta, .int .i64 ka, .slice Aa na ca] 24)).alloc (.cells #[.int .i64 gb, .int .i64 pb, .int .i64 tb, .int .i64 kb, .slice Ab nb cb] 24) = w1 at hb hqa hqb ⊢
    have Rza := Lib.hid hqa
    have Rzb := Lib.hid hqb
    clear hqa hza hqb hzb
    have B1 := Lib.hid hb
    replace Ra := Lib.hid (Ra.out.below hb)
    replace Rb := Lib.hid (Rb.out.below hb)
    clear hb
    refine (head16_any _).mono ?_
    rintro e w2 ⟨rfl, hb⟩
    have B2 := Lib.hid (chain B1.out hb)
    replace Ra := Lib.hid (Ra.out.below hb)
    replace Rb := Lib.hid (Rb.out.below hb)
    replace Rza := Lib.hid (Rza.out.below hb)
    replace Rzb := Lib.hid (Rzb.out.below hb)
    clear hb B1
    obtain ⟨za0, za1, za2, za3, za4⟩ := Rza.out.cells
    have zal := Rza.out.lt
    try dsimp only at za0 za1 za2 za3 za4
    obtain ⟨zb0, zb1, zb2, zb3, zb4⟩ := Rzb.out.cells
    have zbl := Rzb.out.lt
    try dsimp only at zb0 zb1 zb2 zb3 zb4
    go_wp2_with fail
    go_ret
    exact ⟨rfl, B2.out⟩
  have d1 : decide (900 < (nb : Int)) = false := decide_eq_false (by omega)
  clear g0 g1
  have CRa : Hid (∀ w, Calls Tryd.prog 12 #[secv ⟨ga, pa, ta, ka, xa⟩ Aa na ca] w fun e w' => e = .returned (.bool (rightQ ⟨ga, pa, ta, ka, xa⟩)) ∧ Below w.heap.size w w') := fun w => right16 ⟨ga, pa, ta, ka, xa⟩ Aa na ca w Ma.out
  have CPa : Hid (∀ w, Rg bcells w Aa xa → Wd w → Calls Tryd.prog 14 #[secv ⟨ga, pa, ta, ka, xa⟩ Aa na ca] w (BOwn (putQ ⟨ga, pa, ta, ka, xa⟩) w)) := fun w h t => put16 ⟨ga, pa, ta, ka, xa⟩ Aa na ca w Ma.out h t
  unfold secv at CRa CPa
  dsimp only at CRa CPa
  have CRb : Hid (∀ w, Calls Tryd.prog 12 #[secv ⟨gb, pb, tb, kb, xb⟩ Ab nb cb] w fun e w' => e = .returned (.bool (rightQ ⟨gb, pb, tb, kb, xb⟩)) ∧ Below w.heap.size w w') := fun w => right16 ⟨gb, pb, tb, kb, xb⟩ Ab nb cb w Mb.out
  have CPb : Hid (∀ w, Rg bcells w Ab xb → Wd w → Calls Tryd.prog 14 #[secv ⟨gb, pb, tb, kb, xb⟩ Ab nb cb] w (BOwn (putQ ⟨gb, pb, tb, kb, xb⟩) w)) := fun w h t => put16 ⟨gb, pb, tb, kb, xb⟩ Ab nb cb w Mb.out h t
  unfold secv at CRb CPb
  dsimp only at CRb CPb
  rcases oka : rightQ ⟨ga, pa, ta, ka, xa⟩ with _ | _
  · skip
    rw [oka] at CRa
    clear oka
    go_enter Tryd.func8, Tryd.ntmps8
    go_wp2_with fail
    have hqa := QB.new (w) ⟨ga, pa, ta, ka, xa⟩ Aa na ca
    dsimp only at hqa
    have hqb := QB.new ((w).alloc (.cells #[.int .i64 ga, .int .i64 pa, .int .i64 ta, .int .i64 ka, .slice Aa na ca] 24)) ⟨gb, pb, tb, kb, xb⟩ Ab nb cb
    dsimp only at hqb
    rw [show ((w).alloc (.cells #[.int .i64 ga, .int .i64 pa, .int .i64 ta, .int .i64 ka, .slice Aa na ca] 24)).heap.size = w.heap.size + 1 by simp] at hqb
    replace hqa := hqa.below ((Below.refl _ _).alloc (Nat.le_refl _) (.cells #[.int .i64 gb, .int .i64 pb, .int .i64 tb, .int .i64 kb, .slice Ab nb cb] 24))
    have hb := chain_alloc (chain_alloc (Below.refl _ w) (.cells #[.int .i64 ga, .int .i64 pa, .int .i64 ta, .int .i64 ka, .slice Aa na ca] 24)) (.cells #[.int .i64 gb, .int .i64 pb, .int .i64 tb, .int .i64 kb, .slice Ab nb cb] 24)
    obtain ⟨za, hza⟩ : ∃ z, z = w.heap.size := ⟨_, rfl⟩
    obtain ⟨zb, hzb⟩ : ∃ z, z = w.heap.size + 1 := ⟨_, rfl⟩
    rw [← hzb] at hqb ⊢
    rw [← hza] at hqa ⊢
    generalize ((w).alloc (.cells #[.int .i64 ga, .int .i64 pa, .int .i64 ta, .int .i64 ka, .slice Aa na ca] 24)).alloc (.cells #[.int .i64 gb, .int .i64 pb, .int .i64 tb, .int .i64 kb, .slice Ab nb cb] 24) = w1 at hb hqa hqb ⊢
    have Rza := Lib.hid hqa
    have Rzb := Lib.hid hqb
    clear hqa hza hqb hzb
    have B1 := Lib.hid hb
    replace Ra := Lib.hid (Ra.out.below hb)
    replace Rb := Lib.hid (Rb.out.below hb)
    clear hb
    refine (head16_any _).mono ?_
    rintro e w2 ⟨rfl, hb⟩
    have B2 := Lib.hid (chain B1.out hb)
    replace Ra := Lib.hid (Ra.out.below hb)
    replace Rb := Lib.hid (Rb.out.below hb)
    replace Rza := Lib.hid (Rza.out.below hb)
    replace Rzb := Lib.hid (Rzb.out.below hb)
    clear hb B1
    obtain ⟨za0, za1, za2, za3, za4⟩ := Rza.out.cells
    have zal := Rza.out.lt
    try dsimp only at za0 za1 za2 za3 za4
    obtain ⟨zb0, zb1, zb2, zb3, zb4⟩ := Rzb.out.cells
    have zbl := Rzb.out.lt
    try dsimp only at zb0 zb1 zb2 zb3 zb4
    go_wp2_with fail
    refine (CRa.out _).mono ?_
    rintro e w3 ⟨rfl, hb⟩
    clear za0 za1 za2 za3 za4 zal zb0 zb1 zb2 zb3 zb4 zbl
    have B3 := Lib.hid (chain B2.out hb)
    replace Ra := Lib.hid (Ra.out.below hb)
    replace Rb := Lib.hid (Rb.out.below hb)
    replace Rza := Lib.hid (Rza.out.below hb)
    replace Rzb := Lib.hid (Rzb.out.below hb)
    clear hb B2
    obtain ⟨za0, za1, za2, za3, za4⟩ := Rza.out.cells
    have zal := Rza.out.lt
    try dsimp only at za0 za1 za2 za3 za4
    obtain ⟨zb0, zb1, zb2, zb3, zb4⟩ := Rzb.out.cells
    have zbl := Rzb.out.lt
    try dsimp only at zb0 zb1 zb2 zb3 zb4
    go_wp2_with fail
    go_ret
    exact ⟨rfl, B3.out⟩
  rcases okb : rightQ ⟨gb, pb, tb, kb, xb⟩ with _ | _
  · skip
    rw [oka] at CRa
    rw [okb] at CRb
    clear oka okb
    go_enter Tryd.func8, Tryd.ntmps8
    go_wp2_with fail
    have hqa := QB.new (w) ⟨ga, pa, ta, ka, xa⟩ Aa na ca
    dsimp only at hqa
    have hqb := QB.new ((w).alloc (.cells #[.int .i64 ga, .int .i64 pa, .int .i64 ta, .int .i64 ka, .slice Aa na ca] 24)) ⟨gb, pb, tb, kb, xb⟩ Ab nb cb
    dsimp only at hqb
    rw [show ((w).alloc (.cells #[.int .i64 ga, .int .i64 pa, .int .i64 ta, .int .i64 ka, .slice Aa na ca] 24)).heap.size = w.heap.size + 1 by simp] at hqb
    replace hqa := hqa.below ((Below.refl _ _).alloc (Nat.le_refl _) (.cells #[.int .i64 gb, .int .i64 pb, .int .i64 tb, .int .i64 kb, .slice Ab nb cb] 24))
    have hb := chain_alloc (chain_alloc (Below.refl _ w) (.cells #[.int .i64 ga, .int .i64 pa, .int .i64 ta, .int .i64 ka, .slice Aa na ca] 24)) (.cells #[.int .i64 gb, .int .i64 pb, .int .i64 tb, .int .i64 kb, .slice Ab nb cb] 24)
    obtain ⟨za, hza⟩ : ∃ z, z = w.heap.size := ⟨_, rfl⟩
    obtain ⟨zb, hzb⟩ : ∃ z, z = w.heap.size + 1 := ⟨_, rfl⟩
    rw [← hzb] at hqb ⊢
    rw [← hza] at hqa ⊢
    generalize ((w).alloc (.cells #[.int .i64 ga, .int .i64 pa, .int .i64 ta, .int .i64 ka, .slice Aa na ca] 24)).alloc (.cells #[.int .i64 gb, .int .i64 pb, .int .i64 tb, .int .i64 kb, .slice Ab nb cb] 24) = w1 at hb hqa hqb ⊢
    have Rza := Lib.hid hqa
    have Rzb := Lib.hid hqb
    clear hqa hza hqb hzb
    have B1 := Lib.hid hb
    replace Ra := Lib.hid (Ra.out.below hb)
    replace Rb := Lib.hid (Rb.out.below hb)
    clear hb
    refine (head16_any _).mono ?_
    rintro e w2 ⟨rfl, hb⟩
    have B2 := Lib.hid (chain B1.out hb)
    replace Ra := Lib.hid (Ra.out.below hb)
    replace Rb := Lib.hid (Rb.out.below hb)
    replace Rza := Lib.hid (Rza.out.below hb)
    replace Rzb := Lib.hid (Rzb.out.below hb)
    clear hb B1
    obtain ⟨za0, za1, za2, za3, za4⟩ := Rza.out.cells
    have zal := Rza.out.lt
    try dsimp only at za0 za1 za2 za3 za4
    obtain ⟨zb0, zb1, zb2, zb3, zb4⟩ := Rzb.out.cells
    have zbl := Rzb.out.lt
    try dsimp only at zb0 zb1 zb2 zb3 zb4
    go_wp2_with fail
    refine (CRa.out _).mono ?_
    rintro e w3 ⟨rfl, hb⟩
    clear za0 za1 za2 za3 za4 zal zb0 zb1 zb2 zb3 zb4 zbl
    have B3 := Lib.hid (chain B2.out hb)
    replace Ra := Lib.hid (Ra.out.below hb)
    replace Rb := Lib.hid (Rb.out.below hb)
    replace Rza := Lib.hid (Rza.out.below hb)
    replace Rzb := Lib.hid (Rzb.out.below hb)
    clear hb B2
    obtain ⟨za0, za1, za2, za3, za4⟩ := Rza.out.cells
    have zal := Rza.out.lt
    try dsimp only at za0 za1 za2 za3 za4
    obtain ⟨zb0, zb1, zb2, zb3, zb4⟩ := Rzb.out.cells
    have zbl := Rzb.out.lt
    try dsimp only at zb0 zb1 zb2 zb3 zb4
    go_wp2_with fail
    refine (CRb.out _).mono ?_
    rintro e w4 ⟨rfl, hb⟩
    clear za0 za1 za2 za3 za4 zal zb0 zb1 zb2 zb3 zb4 zbl
    have B4 := Lib.hid (chain B3.out hb)
    replace Ra := Lib.hid (Ra.out.below hb)
    replace Rb := Lib.hid (Rb.out.below hb)
    replace Rza := Lib.hid (Rza.out.below hb)
    replace Rzb := Lib.hid (Rzb.out.below hb)
    clear hb B3
    obtain ⟨za0, za1, za2, za3, za4⟩ := Rza.out.cells
    have zal := Rza.out.lt
    try dsimp only at za0 za1 za2 za3 za4
    obtain ⟨zb0, zb1, zb2, zb3, zb4⟩ := Rzb.out.cells
    have zbl := Rzb.out.lt
    try dsimp only at zb0 zb1 zb2 zb3 zb4
    go_wp2_with fail
    go_ret
    exact ⟨rfl, B4.out⟩
  have okc : rightQ ⟨ga, pb, tb, kb, xb⟩ = true := by
    have h1 := right_q.1 oka
    have h2 := right_q.1 okb
    rw [right_q]
    dsimp only at h1 h2 ⊢
    omega
  have CPc : Hid (∀ w, Rg bcells w Ab xb → Wd w → Calls Tryd.prog 14 #[secv ⟨ga, pb, tb, kb, xb⟩ Ab nb cb] w (BOwn (putQ ⟨ga, pb, tb, kb, xb⟩) w)) := fun w h t => put16 ⟨ga, pb, tb, kb, xb⟩ Ab nb cb w Mb.out h t
  unfold secv at CPc
  dsimp only at CPc
  have PLa := Lib.hid (putq_len oka); have PLb := Lib.hid (putq_len okb); have PLc := Lib.hid (putq_len okc)
  have XY : Hid (¬ ga = gb → Op.bytesLess (tx (putQ ⟨ga, pa, ta, ka, xa⟩)).toList (tx (putQ ⟨gb, pb, tb, kb, xb⟩)).toList = decide (ga < gb)) := fun h => sorts_g oka okb h
  have XZ : Hid (¬ pa = pb → Op.bytesLess (tx (putQ ⟨ga, pa, ta, ka, xa⟩)).toList (tx (putQ ⟨ga, pb, tb, kb, xb⟩)).toList = decide (pa < pb)) := fun h => sorts_p oka okc rfl h
  rw [oka] at CRa
  rw [okb] at CRb
  clear oka okb okc
  by_cases hg : ga = gb <;> by_cases hp : pa = pb
  · skip
    have EG : Hid (ga = gb) := hg
    have EP : Hid (pa = pb) := hp
    clear hg hp
    go_enter Tryd.func8, Tryd.ntmps8
    go_wp2_with fail
    have hqa := QB.new (w) ⟨ga, pa, ta, ka, xa⟩ Aa na ca
    dsimp only at hqa
    have hqb := QB.new ((w).alloc (.cells #[.int .i64 ga, .int .i64 pa, .int .i64 ta, .int .i64 ka, .slice Aa na ca] 24)) ⟨gb, pb, tb, kb, xb⟩ Ab nb cb
    dsimp only at hqb
    rw [show ((w).alloc (.cells #[.int .i64 ga, .int .i64 pa, .int .i64 ta, .int .i64 ka, .slice Aa na ca] 24)).heap.size = w.heap.size + 1 by simp] at hqb
    replace hqa := hqa.below ((Below.refl _ _).alloc (Nat.le_refl _) (.cells #[.int .i64 gb, .int .i64 pb, .int .i64 tb, .int .i64 kb, .slice Ab nb cb] 24))
    have hb := chain_alloc (chain_alloc (Below.refl _ w) (.cells #[.int .i64 ga, .int .i64 pa, .int .i64 ta, .int .i64 ka, .slice Aa na ca] 24)) (.cells #[.int .i64 gb, .int .i64 pb, .int .i64 tb, .int .i64 kb, .slice Ab nb cb] 24)
    obtain ⟨za, hza⟩ : ∃ z, z = w.heap.size := ⟨_, rfl⟩
    obtain ⟨zb, hzb⟩ : ∃ z, z = w.heap.size + 1 := ⟨_, rfl⟩
    rw [← hzb] at hqb ⊢
    rw [← hza] at hqa ⊢
    generalize ((w).alloc (.cells #[.int .i64 ga, .int .i64 pa, .int .i64 ta, .int .i64 ka, .slice Aa na ca] 24)).alloc (.cells #[.int .i64 gb, .int .i64 pb, .int .i64 tb, .int .i64 kb, .slice Ab nb cb] 24) = w1 at hb hqa hqb ⊢
    have Rza := Lib.hid hqa
    have Rzb := Lib.hid hqb
    clear hqa hza hqb hzb
    have B1 := Lib.hid hb
    replace Ra := Lib.hid (Ra.out.below hb)
    replace Rb := Lib.hid (Rb.out.below hb)
    clear hb
    refine (head16_any _).mono ?_
    rintro e w2 ⟨rfl, hb⟩
    have B2 := Lib.hid (chain B1.out hb)
    replace Ra := Lib.hid (Ra.out.below hb)
    replace Rb := Lib.hid (Rb.out.below hb)
    replace Rza := Lib.hid (Rza.out.below hb)
    replace Rzb := Lib.hid (Rzb.out.below hb)
    clear hb B1
    obtain ⟨za0, za1, za2, za3, za4⟩ := Rza.out.cells
    have zal := Rza.out.lt
    try dsimp only at za0 za1 za2 za3 za4
    obtain ⟨zb0, zb1, zb2, zb3, zb4⟩ := Rzb.out.cells
    have zbl := Rzb.out.lt
    try dsimp only at zb0 zb1 zb2 zb3 zb4
    go_wp2_with fail
    refine (CRa.out _).mono ?_
    rintro e w3 ⟨rfl, hb⟩
    clear za0 za1 za2 za3 za4 zal zb0 zb1 zb2 zb3 zb4 zbl
    have B3 := Lib.hid (chain B2.out hb)
    replace Ra := Lib.hid (Ra.out.below hb)
    replace Rb := Lib.hid (Rb.out.below hb)
    replace Rza := Lib.hid (Rza.out.below hb)
    replace Rzb := Lib.hid (Rzb.out.below hb)
    clear hb B2
    obtain ⟨za0, za1, za2, za3, za4⟩ := Rza.out.cells
    have zal := Rza.out.lt
    try dsimp only at za0 za1 za2 za3 za4
    obtain ⟨zb0, zb1, zb2, zb3, zb4⟩ := Rzb.out.cells
    have zbl := Rzb.out.lt
    try dsimp only at zb0 zb1 zb2 zb3 zb4
    go_wp2_with fail
    refine (CRb.out _).mono ?_
    rintro e w4 ⟨rfl, hb⟩
    clear za0 za1 za2 za3 za4 zal zb0 zb1 zb2 zb3 zb4 zbl
    have B4 := Lib.hid (chain B3.out hb)
    replace Ra := Lib.hid (Ra.out.below hb)
    replace Rb := Lib.hid (Rb.out.below hb)
    replace Rza := Lib.hid (Rza.out.below hb)
    replace Rzb := Lib.hid (Rzb.out.below hb)
    clear hb B3
    obtain ⟨za0, za1, za2, za3, za4⟩ := Rza.out.cells
    have zal := Rza.out.lt
    try dsimp only at za0 za1 za2 za3 za4
    obtain ⟨zb0, zb1, zb2, zb3, zb4⟩ := Rzb.out.cells
    have zbl := Rzb.out.lt
    try dsimp only at zb0 zb1 zb2 zb3 zb4
    go_wp2_with fail
    refine (CPa.out _ Ra.out (by first | assumption | exact Hid.out (by assumption) | exact Wd.below (Hid.out (by assumption)) (Hid.out (by assumption)) | exact Wd.below (by assumption) (Hid.out (by assumption)))).mono ?_
    rintro e w5 ⟨v, rfl, ho, hb⟩
    rw [PLa.out] at ho
    obtain ⟨Ax, kx, rfl, y9, rp, y8, y7⟩ := own_cap bcells_len (by decide) ho
    have Rx := Lib.hid rp
    have Mx : Hid (64 = (putQ ⟨ga, pa, ta, ka, xa⟩).length) := PLa.out.symm
    have Kx := Lib.hid y8
    clear ho y9 rp y8 y7
    clear za0 za1 za2 za3 za4 zal zb0 zb1 zb2 zb3 zb4 zbl
    have B5 := Lib.hid (chain B4.out hb)
    replace Ra := Lib.hid (Ra.out.below hb)
    replace Rb := Lib.hid (Rb.out.below hb)
    replace Rza := Lib.hid (Rza.out.below hb)
    replace Rzb := Lib.hid (Rzb.out.below hb)
    clear hb B4
    have tx := text_of (c := kx) Rx.out Mx.out
    obtain ⟨za0, za1, za2, za3, za4⟩ := Rza.out.cells
    have zal := Rza.out.lt
    try dsimp only at za0 za1 za2 za3 za4
    obtain ⟨zb0, zb1, zb2, zb3, zb4⟩ := Rzb.out.cells
    have zbl := Rzb.out.lt
    try dsimp only at zb0 zb1 zb2 zb3 zb4
    go_wp2_with fail
    refine (CPb.out _ Rb.out (by first | assumption | exact Hid.out (by assumption) | exact Wd.below (Hid.out (by assumption)) (Hid.out (by assumption)) | exact Wd.below (by assumption) (Hid.out (by assumption)))).mono ?_
    rintro e w6 ⟨v, rfl, ho, hb⟩
    rw [PLb.out] at ho
    obtain ⟨Ay, ky, rfl, y9, rp, y8, y7⟩ := own_cap bcells_len (by decide) ho
    have Ry := Lib.hid rp
    have My : Hid (64 = (putQ ⟨gb, pb, tb, kb, xb⟩).length) := PLb.out.symm
    have Ky := Lib.hid y8
    clear ho y9 rp y8 y7
    clear za0 za1 za2 za3 za4 zal zb0 zb1 zb2 zb3 zb4 zbl
    have B6 := Lib.hid (chain B5.out hb)
    replace Ra := Lib.hid (Ra.out.below hb)
    replace Rb := Lib.hid (Rb.out.below hb)
    replace Rza := Lib.hid (Rza.out.below hb)
    replace Rzb := Lib.hid (Rzb.out.below hb)
    replace Rx := Lib.hid (Rx.out.below hb)
    clear tx
    clear hb B5
    have tx := text_of (c := kx) Rx.out Mx.out
    have ty := text_of (c := ky) Ry.out My.out
    obtain ⟨za0, za1, za2, za3, za4⟩ := Rza.out.cells
    have zal := Rza.out.lt
    try dsimp only at za0 za1 za2 za3 za4
    obtain ⟨zb0, zb1, zb2, zb3, zb4⟩ := Rzb.out.cells
    have zbl := Rzb.out.lt
    try dsimp only at zb0 zb1 zb2 zb3 zb4
    go_upto_region 8 with fail
    clear za0 za1 za2 za3 za4 zal zb0 zb1 zb2 zb3 zb4 zbl
    clear tx ty
    have hq := QB.new w6 ⟨ga, pb, tb, kb, xb⟩ Ab nb cb
    dsimp only at hq
    have hb := chain_alloc (Below.refl _ w6) (.cells #[.int .i64 ga, .int .i64 pb, .int .i64 tb, .int .i64 kb, .slice Ab nb cb] 24)
    obtain ⟨zc, hz⟩ : ∃ z, z = w6.heap.size := ⟨_, rfl⟩
    rw [← hz] at hq ⊢
    generalize w6.alloc (.cells #[.int .i64 ga, .int .i64 pb, .int .i64 tb, .int .i64 kb, .slice Ab nb cb] 24) = w7 at hq hb ⊢
    clear hz
    have Rzc := Lib.hid hq
    clear hq
    have B7 := Lib.hid (chain B6.out hb)
    replace Ra := Lib.hid (Ra.out.below hb)
    replace Rb := Lib.hid (Rb.out.below hb)
    replace Rza := Lib.hid (Rza.out.below hb)
    replace Rzb := Lib.hid (Rzb.out.below hb)
    replace Rx := Lib.hid (Rx.out.below hb)
    replace Ry := Lib.hid (Ry.out.below hb)
    clear hb B6
    have tx := text_of (c := kx) Rx.out Mx.out
    have ty := text_of (c := ky) Ry.out My.out
    obtain ⟨za0, za1, za2, za3, za4⟩ := Rza.out.cells
    have zal := Rza.out.lt
    try dsimp only at za0 za1 za2 za3 za4
    obtain ⟨zb0, zb1, zb2, zb3, zb4⟩ := Rzb.out.cells
    have zbl := Rzb.out.lt
    try dsimp only at zb0 zb1 zb2 zb3 zb4
    obtain ⟨zc0, zc1, zc2, zc3, zc4⟩ := Rzc.out.cells
    have zcl := Rzc.out.lt
    try dsimp only at zc0 zc1 zc2 zc3 zc4
    go_wp2_with fail
    refine (CPc.out _ Rb.out (by first | assumption | exact Hid.out (by assumption) | exact Wd.below (Hid.out (by assumption)) (Hid.out (by assumption)) | exact Wd.below (by assumption) (Hid.out (by assumption)))).mono ?_
    rintro e w8 ⟨v, rfl, ho, hb⟩
    rw [PLc.out] at ho
    obtain ⟨Av, kv, rfl, y9, rp, y8, y7⟩ := own_cap bcells_len (by decide) ho
    have Rv := Lib.hid rp
    have Mv : Hid (64 = (putQ ⟨ga, pb, tb, kb, xb⟩).length) := PLc.out.symm
    clear ho y9 rp y8 y7
    clear za0 za1 za2 za3 za4 zal zb0 zb1 zb2 zb3 zb4 zbl zc0 zc1 zc2 zc3 zc4 zcl
    have B8 := Lib.hid (chain B7.out hb)
    replace Ra := Lib.hid (Ra.out.below hb)
    replace Rb := Lib.hid (Rb.out.below hb)
    replace Rza := Lib.hid (Rza.out.below hb)
    replace Rzb := Lib.hid (Rzb.out.below hb)
    replace Rx := Lib.hid (Rx.out.below hb)
    replace Ry := Lib.hid (Ry.out.below hb)
    replace Rzc := Lib.hid (Rzc.out.below hb)
    clear tx ty
    clear hb B7
    have tx := text_of (c := kx) Rx.out Mx.out
    have ty := text_of (c := ky) Ry.out My.out
    have tv := text_of (c := kv) Rv.out Mv.out
    obtain ⟨za0, za1, za2, za3, za4⟩ := Rza.out.cells
    have zal := Rza.out.lt
    try dsimp only at za0 za1 za2 za3 za4
    obtain ⟨zb0, zb1, zb2, zb3, zb4⟩ := Rzb.out.cells
    have zbl := Rzb.out.lt
    try dsimp only at zb0 zb1 zb2 zb3 zb4
    obtain ⟨zc0, zc1, zc2, zc3, zc4⟩ := Rzc.out.cells
    have zcl := Rzc.out.lt
    try dsimp only at zc0 zc1 zc2 zc3 zc4
    have eg : (ga == gb) = true := by simpa using EG.out
    have ep : (pa == pb) = true := by simpa using EP.out
    go_wp2_with fail
    go_ret
    exact ⟨rfl, B8.out⟩
  · skip
    have EG : Hid (ga = gb) := hg
    have EP : Hid (¬ pa = pb) := hp
    clear hg hp
    go_enter Tryd.func8, Tryd.ntmps8
    go_wp2_with fail
    have hqa := QB.new (w) ⟨ga, pa, ta, ka, xa⟩ Aa na ca
    dsimp only at hqa
    have hqb := QB.new ((w).alloc (.cells #[.int .i64 ga, .int .i64 pa, .int .i64 ta, .int .i64 ka, .slice Aa na ca] 24)) ⟨gb, pb, tb, kb, xb⟩ Ab nb cb
    dsimp only at hqb
    rw [show ((w).alloc (.cells #[.int .i64 ga, .int .i64 pa, .int .i64 ta, .int .i64 ka, .slice Aa na ca] 24)).heap.size = w.heap.size + 1 by simp] at hqb
    replace hqa := hqa.below ((Below.refl _ _).alloc (Nat.le_refl _) (.cells #[.int .i64 gb, .int .i64 pb, .int .i64 tb, .int .i64 kb, .slice Ab nb cb] 24))
    have hb := chain_alloc (chain_alloc (Below.refl _ w) (.cells #[.int .i64 ga, .int .i64 pa, .int .i64 ta, .int .i64 ka, .slice Aa na ca] 24)) (.cells #[.int .i64 gb, .int .i64 pb, .int .i64 tb, .int .i64 kb, .slice Ab nb cb] 24)
    obtain ⟨za, hza⟩ : ∃ z, z = w.heap.size := ⟨_, rfl⟩
    obtain ⟨zb, hzb⟩ : ∃ z, z = w.heap.size + 1 := ⟨_, rfl⟩
    rw [← hzb] at hqb ⊢
    rw [← hza] at hqa ⊢
    generalize ((w).alloc (.cells #[.int .i64 ga, .int .i64 pa, .int .i64 ta, .int .i64 ka, .slice Aa na ca] 24)).alloc (.cells #[.int .i64 gb, .int .i64 pb, .int .i64 tb, .int .i64 kb, .slice Ab nb cb] 24) = w1 at hb hqa hqb ⊢
    have Rza := Lib.hid hqa
    have Rzb := Lib.hid hqb
    clear hqa hza hqb hzb
    have B1 := Lib.hid hb
    replace Ra := Lib.hid (Ra.out.below hb)
    replace Rb := Lib.hid (Rb.out.below hb)
    clear hb
    refine (head16_any _).mono ?_
    rintro e w2 ⟨rfl, hb⟩
    have B2 := Lib.hid (chain B1.out hb)
    replace Ra := Lib.hid (Ra.out.below hb)
    replace Rb := Lib.hid (Rb.out.below hb)
    replace Rza := Lib.hid (Rza.out.below hb)
    replace Rzb := Lib.hid (Rzb.out.below hb)
    clear hb B1
    obtain ⟨za0, za1, za2, za3, za4⟩ := Rza.out.cells
    have zal := Rza.out.lt
    try dsimp only at za0 za1 za2 za3 za4
    obtain ⟨zb0, zb1, zb2, zb3, zb4⟩ := Rzb.out.cells
    have zbl := Rzb.out.lt
    try dsimp only at zb0 zb1 zb2 zb3 zb4
    go_wp2_with fail
    refine (CRa.out _).mono ?_
    rintro e w3 ⟨rfl, hb⟩
    clear za0 za1 za2 za3 za4 zal zb0 zb1 zb2 zb3 zb4 zbl
    have B3 := Lib.hid (chain B2.out hb)
    replace Ra := Lib.hid (Ra.out.below hb)
    replace Rb := Lib.hid (Rb.out.below hb)
    replace Rza := Lib.hid (Rza.out.below hb)
    replace Rzb := Lib.hid (Rzb.out.below hb)
    clear hb B2
    obtain ⟨za0, za1, za2, za3, za4⟩ := Rza.out.cells
    have zal := Rza.out.lt
    try dsimp only at za0 za1 za2 za3 za4
    obtain ⟨zb0, zb1, zb2, zb3, zb4⟩ := Rzb.out.cells
    have zbl := Rzb.out.lt
    try dsimp only at zb0 zb1 zb2 zb3 zb4
    go_wp2_with fail
    refine (CRb.out _).mono ?_
    rintro e w4 ⟨rfl, hb⟩
    clear za0 za1 za2 za3 za4 zal zb0 zb1 zb2 zb3 zb4 zbl
    have B4 := Lib.hid (chain B3.out hb)
    replace Ra := Lib.hid (Ra.out.below hb)
    replace Rb := Lib.hid (Rb.out.below hb)
    replace Rza := Lib.hid (Rza.out.below hb)
    replace Rzb := Lib.hid (Rzb.out.below hb)
    clear hb B3
    obtain ⟨za0, za1, za2, za3, za4⟩ := Rza.out.cells
    have zal := Rza.out.lt
    try dsimp only at za0 za1 za2 za3 za4
    obtain ⟨zb0, zb1, zb2, zb3, zb4⟩ := Rzb.out.cells
    have zbl := Rzb.out.lt
    try dsimp only at zb0 zb1 zb2 zb3 zb4
    go_wp2_with fail
    refine (CPa.out _ Ra.out (by first | assumption | exact Hid.out (by assumption) | exact Wd.below (Hid.out (by assumption)) (Hid.out (by assumption)) | exact Wd.below (by assumption) (Hid.out (by assumption)))).mono ?_
    rintro e w5 ⟨v, rfl, ho, hb⟩
    rw [PLa.out] at ho
    obtain ⟨Ax, kx, rfl, y9, rp, y8, y7⟩ := own_cap bcells_len (by decide) ho
    have Rx := Lib.hid rp
    have Mx : Hid (64 = (putQ ⟨ga, pa, ta, ka, xa⟩).length) := PLa.out.symm
    have Kx := Lib.hid y8
    clear ho y9 rp y8 y7
    clear za0 za1 za2 za3 za4 zal zb0 zb1 zb2 zb3 zb4 zbl
    have B5 := Lib.hid (chain B4.out hb)
    replace Ra := Lib.hid (Ra.out.below hb)
    replace Rb := Lib.hid (Rb.out.below hb)
    replace Rza := Lib.hid (Rza.out.below hb)
    replace Rzb := Lib.hid (Rzb.out.below hb)
    clear hb B4
    have tx := text_of (c := kx) Rx.out Mx.out
    obtain ⟨za0, za1, za2, za3, za4⟩ := Rza.out.cells
    have zal := Rza.out.lt
    try dsimp only at za0 za1 za2 za3 za4
    obtain ⟨zb0, zb1, zb2, zb3, zb4⟩ := Rzb.out.cells
    have zbl := Rzb.out.lt
    try dsimp only at zb0 zb1 zb2 zb3 zb4
    go_wp2_with fail
    refine (CPb.out _ Rb.out (by first | assumption | exact Hid.out (by assumption) | exact Wd.below (Hid.out (by assumption)) (Hid.out (by assumption)) | exact Wd.below (by assumption) (Hid.out (by assumption)))).mono ?_
    rintro e w6 ⟨v, rfl, ho, hb⟩
    rw [PLb.out] at ho
    obtain ⟨Ay, ky, rfl, y9, rp, y8, y7⟩ := own_cap bcells_len (by decide) ho
    have Ry := Lib.hid rp
    have My : Hid (64 = (putQ ⟨gb, pb, tb, kb, xb⟩).length) := PLb.out.symm
    have Ky := Lib.hid y8
    clear ho y9 rp y8 y7
    clear za0 za1 za2 za3 za4 zal zb0 zb1 zb2 zb3 zb4 zbl
    have B6 := Lib.hid (chain B5.out hb)
    replace Ra := Lib.hid (Ra.out.below hb)
    replace Rb := Lib.hid (Rb.out.below hb)
    replace Rza := Lib.hid (Rza.out.below hb)
    replace Rzb := Lib.hid (Rzb.out.below hb)
    replace Rx := Lib.hid (Rx.out.below hb)
    clear tx
    clear hb B5
    have tx := text_of (c := kx) Rx.out Mx.out
    have ty := text_of (c := ky) Ry.out My.out
    obtain ⟨za0, za1, za2, za3, za4⟩ := Rza.out.cells
    have zal := Rza.out.lt
    try dsimp only at za0 za1 za2 za3 za4
    obtain ⟨zb0, zb1, zb2, zb3, zb4⟩ := Rzb.out.cells
    have zbl := Rzb.out.lt
    try dsimp only at zb0 zb1 zb2 zb3 zb4
    go_upto_region 8 with fail
    clear za0 za1 za2 za3 za4 zal zb0 zb1 zb2 zb3 zb4 zbl
    clear tx ty
    have hq := QB.new w6 ⟨ga, pb, tb, kb, xb⟩ Ab nb cb
    dsimp only at hq
    have hb := chain_alloc (Below.refl _ w6) (.cells #[.int .i64 ga, .int .i64 pb, .int .i64 tb, .int .i64 kb, .slice Ab nb cb] 24)
    obtain ⟨zc, hz⟩ : ∃ z, z = w6.heap.size := ⟨_, rfl⟩
    rw [← hz] at hq ⊢
    generalize w6.alloc (.cells #[.int .i64 ga, .int .i64 pb, .int .i64 tb, .int .i64 kb, .slice Ab nb cb] 24) = w7 at hq hb ⊢
    clear hz
    have Rzc := Lib.hid hq
    clear hq
    have B7 := Lib.hid (chain B6.out hb)
    replace Ra := Lib.hid (Ra.out.below hb)
    replace Rb := Lib.hid (Rb.out.below hb)
    replace Rza := Lib.hid (Rza.out.below hb)
    replace Rzb := Lib.hid (Rzb.out.below hb)
    replace Rx := Lib.hid (Rx.out.below hb)
    replace Ry := Lib.hid (Ry.out.below hb)
    clear hb B6
    have tx := text_of (c := kx) Rx.out Mx.out
    have ty := text_of (c := ky) Ry.out My.out
    obtain ⟨za0, za1, za2, za3, za4⟩ := Rza.out.cells
    have zal := Rza.out.lt
    try dsimp only at za0 za1 za2 za3 za4
    obtain ⟨zb0, zb1, zb2, zb3, zb4⟩ := Rzb.out.cells
    have zbl := Rzb.out.lt
    try dsimp only at zb0 zb1 zb2 zb3 zb4
    obtain ⟨zc0, zc1, zc2, zc3, zc4⟩ := Rzc.out.cells
    have zcl := Rzc.out.lt
    try dsimp only at zc0 zc1 zc2 zc3 zc4
    go_wp2_with fail
    refine (CPc.out _ Rb.out (by first | assumption | exact Hid.out (by assumption) | exact Wd.below (Hid.out (by assumption)) (Hid.out (by assumption)) | exact Wd.below (by assumption) (Hid.out (by assumption)))).mono ?_
    rintro e w8 ⟨v, rfl, ho, hb⟩
    rw [PLc.out] at ho
    obtain ⟨Av, kv, rfl, y9, rp, y8, y7⟩ := own_cap bcells_len (by decide) ho
    have Rv := Lib.hid rp
    have Mv : Hid (64 = (putQ ⟨ga, pb, tb, kb, xb⟩).length) := PLc.out.symm
    clear ho y9 rp y8 y7
    clear za0 za1 za2 za3 za4 zal zb0 zb1 zb2 zb3 zb4 zbl zc0 zc1 zc2 zc3 zc4 zcl
    have B8 := Lib.hid (chain B7.out hb)
    replace Ra := Lib.hid (Ra.out.below hb)
    replace Rb := Lib.hid (Rb.out.below hb)
    replace Rza := Lib.hid (Rza.out.below hb)
    replace Rzb := Lib.hid (Rzb.out.below hb)
    replace Rx := Lib.hid (Rx.out.below hb)
    replace Ry := Lib.hid (Ry.out.below hb)
    replace Rzc := Lib.hid (Rzc.out.below hb)
    clear tx ty
    clear hb B7
    have tx := text_of (c := kx) Rx.out Mx.out
    have ty := text_of (c := ky) Ry.out My.out
    have tv := text_of (c := kv) Rv.out Mv.out
    obtain ⟨za0, za1, za2, za3, za4⟩ := Rza.out.cells
    have zal := Rza.out.lt
    try dsimp only at za0 za1 za2 za3 za4
    obtain ⟨zb0, zb1, zb2, zb3, zb4⟩ := Rzb.out.cells
    have zbl := Rzb.out.lt
    try dsimp only at zb0 zb1 zb2 zb3 zb4
    obtain ⟨zc0, zc1, zc2, zc3, zc4⟩ := Rzc.out.cells
    have zcl := Rzc.out.lt
    try dsimp only at zc0 zc1 zc2 zc3 zc4
    have eg : (ga == gb) = true := by simpa using EG.out
    have ep := EP.out
    have xz := XZ.out ep
    go_wp2_with fail
    go_ret
    exact ⟨rfl, B8.out⟩
  · skip
    have EG : Hid (¬ ga = gb) := hg
    have EP : Hid (pa = pb) := hp
    clear hg hp
    go_enter Tryd.func8, Tryd.ntmps8
    go_wp2_with fail
    have hqa := QB.new (w) ⟨ga, pa, ta, ka, xa⟩ Aa na ca
    dsimp only at hqa
    have hqb := QB.new ((w).alloc (.cells #[.int .i64 ga, .int .i64 pa, .int .i64 ta, .int .i64 ka, .slice Aa na ca] 24)) ⟨gb, pb, tb, kb, xb⟩ Ab nb cb
    dsimp only at hqb
    rw [show ((w).alloc (.cells #[.int .i64 ga, .int .i64 pa, .int .i64 ta, .int .i64 ka, .slice Aa na ca] 24)).heap.size = w.heap.size + 1 by simp] at hqb
    replace hqa := hqa.below ((Below.refl _ _).alloc (Nat.le_refl _) (.cells #[.int .i64 gb, .int .i64 pb, .int .i64 tb, .int .i64 kb, .slice Ab nb cb] 24))
    have hb := chain_alloc (chain_alloc (Below.refl _ w) (.cells #[.int .i64 ga, .int .i64 pa, .int .i64 ta, .int .i64 ka, .slice Aa na ca] 24)) (.cells #[.int .i64 gb, .int .i64 pb, .int .i64 tb, .int .i64 kb, .slice Ab nb cb] 24)
    obtain ⟨za, hza⟩ : ∃ z, z = w.heap.size := ⟨_, rfl⟩
    obtain ⟨zb, hzb⟩ : ∃ z, z = w.heap.size + 1 := ⟨_, rfl⟩
    rw [← hzb] at hqb ⊢
    rw [← hza] at hqa ⊢
    generalize ((w).alloc (.cells #[.int .i64 ga, .int .i64 pa, .int .i64 ta, .int .i64 ka, .slice Aa na ca] 24)).alloc (.cells #[.int .i64 gb, .int .i64 pb, .int .i64 tb, .int .i64 kb, .slice Ab nb cb] 24) = w1 at hb hqa hqb ⊢
    have Rza := Lib.hid hqa
    have Rzb := Lib.hid hqb
    clear hqa hza hqb hzb
    have B1 := Lib.hid hb
    replace Ra := Lib.hid (Ra.out.below hb)
    replace Rb := Lib.hid (Rb.out.below hb)
    clear hb
    refine (head16_any _).mono ?_
    rintro e w2 ⟨rfl, hb⟩
    have B2 := Lib.hid (chain B1.out hb)
    replace Ra := Lib.hid (Ra.out.below hb)
    replace Rb := Lib.hid (Rb.out.below hb)
    replace Rza := Lib.hid (Rza.out.below hb)
    replace Rzb := Lib.hid (Rzb.out.below hb)
    clear hb B1
    obtain ⟨za0, za1, za2, za3, za4⟩ := Rza.out.cells
    have zal := Rza.out.lt
    try dsimp only at za0 za1 za2 za3 za4
    obtain ⟨zb0, zb1, zb2, zb3, zb4⟩ := Rzb.out.cells
    have zbl := Rzb.out.lt
    try dsimp only at zb0 zb1 zb2 zb3 zb4
    go_wp2_with fail
    refine (CRa.out _).mono ?_
    rintro e w3 ⟨rfl, hb⟩
    clear za0 za1 za2 za3 za4 zal zb0 zb1 zb2 zb3 zb4 zbl
    have B3 := Lib.hid (chain B2.out hb)
    replace Ra := Lib.hid (Ra.out.below hb)
    replace Rb := Lib.hid (Rb.out.below hb)
    replace Rza := Lib.hid (Rza.out.below hb)
    replace Rzb := Lib.hid (Rzb.out.below hb)
    clear hb B2
    obtain ⟨za0, za1, za2, za3, za4⟩ := Rza.out.cells
    have zal := Rza.out.lt
    try dsimp only at za0 za1 za2 za3 za4
    obtain ⟨zb0, zb1, zb2, zb3, zb4⟩ := Rzb.out.cells
    have zbl := Rzb.out.lt
    try dsimp only at zb0 zb1 zb2 zb3 zb4
    go_wp2_with fail
    refine (CRb.out _).mono ?_
    rintro e w4 ⟨rfl, hb⟩
    clear za0 za1 za2 za3 za4 zal zb0 zb1 zb2 zb3 zb4 zbl
    have B4 := Lib.hid (chain B3.out hb)
    replace Ra := Lib.hid (Ra.out.below hb)
    replace Rb := Lib.hid (Rb.out.below hb)
    replace Rza := Lib.hid (Rza.out.below hb)
    replace Rzb := Lib.hid (Rzb.out.below hb)
    clear hb B3
    obtain ⟨za0, za1, za2, za3, za4⟩ := Rza.out.cells
    have zal := Rza.out.lt
    try dsimp only at za0 za1 za2 za3 za4
    obtain ⟨zb0, zb1, zb2, zb3, zb4⟩ := Rzb.out.cells
    have zbl := Rzb.out.lt
    try dsimp only at zb0 zb1 zb2 zb3 zb4
    go_wp2_with fail
    refine (CPa.out _ Ra.out (by first | assumption | exact Hid.out (by assumption) | exact Wd.below (Hid.out (by assumption)) (Hid.out (by assumption)) | exact Wd.below (by assumption) (Hid.out (by assumption)))).mono ?_
    rintro e w5 ⟨v, rfl, ho, hb⟩
    rw [PLa.out] at ho
    obtain ⟨Ax, kx, rfl, y9, rp, y8, y7⟩ := own_cap bcells_len (by decide) ho
    have Rx := Lib.hid rp
    have Mx : Hid (64 = (putQ ⟨ga, pa, ta, ka, xa⟩).length) := PLa.out.symm
    have Kx := Lib.hid y8
    clear ho y9 rp y8 y7
    clear za0 za1 za2 za3 za4 zal zb0 zb1 zb2 zb3 zb4 zbl
    have B5 := Lib.hid (chain B4.out hb)
    replace Ra := Lib.hid (Ra.out.below hb)
    replace Rb := Lib.hid (Rb.out.below hb)
    replace Rza := Lib.hid (Rza.out.below hb)
    replace Rzb := Lib.hid (Rzb.out.below hb)
    clear hb B4
    have tx := text_of (c := kx) Rx.out Mx.out
    obtain ⟨za0, za1, za2, za3, za4⟩ := Rza.out.cells
    have zal := Rza.out.lt
    try dsimp only at za0 za1 za2 za3 za4
    obtain ⟨zb0, zb1, zb2, zb3, zb4⟩ := Rzb.out.cells
    have zbl := Rzb.out.lt
    try dsimp only at zb0 zb1 zb2 zb3 zb4
    go_wp2_with fail
    refine (CPb.out _ Rb.out (by first | assumption | exact Hid.out (by assumption) | exact Wd.below (Hid.out (by assumption)) (Hid.out (by assumption)) | exact Wd.below (by assumption) (Hid.out (by assumption)))).mono ?_
    rintro e w6 ⟨v, rfl, ho, hb⟩
    rw [PLb.out] at ho
    obtain ⟨Ay, ky, rfl, y9, rp, y8, y7⟩ := own_cap bcells_len (by decide) ho
    have Ry := Lib.hid rp
    have My : Hid (64 = (putQ ⟨gb, pb, tb, kb, xb⟩).length) := PLb.out.symm
    have Ky := Lib.hid y8
    clear ho y9 rp y8 y7
    clear za0 za1 za2 za3 za4 zal zb0 zb1 zb2 zb3 zb4 zbl
    have B6 := Lib.hid (chain B5.out hb)
    replace Ra := Lib.hid (Ra.out.below hb)
    replace Rb := Lib.hid (Rb.out.below hb)
    replace Rza := Lib.hid (Rza.out.below hb)
    replace Rzb := Lib.hid (Rzb.out.below hb)
    replace Rx := Lib.hid (Rx.out.below hb)
    clear tx
    clear hb B5
    have tx := text_of (c := kx) Rx.out Mx.out
    have ty := text_of (c := ky) Ry.out My.out
    obtain ⟨za0, za1, za2, za3, za4⟩ := Rza.out.cells
    have zal := Rza.out.lt
    try dsimp only at za0 za1 za2 za3 za4
    obtain ⟨zb0, zb1, zb2, zb3, zb4⟩ := Rzb.out.cells
    have zbl := Rzb.out.lt
    try dsimp only at zb0 zb1 zb2 zb3 zb4
    go_upto_region 8 with fail
    clear za0 za1 za2 za3 za4 zal zb0 zb1 zb2 zb3 zb4 zbl
    clear tx ty
    have hq := QB.new w6 ⟨ga, pb, tb, kb, xb⟩ Ab nb cb
    dsimp only at hq
    have hb := chain_alloc (Below.refl _ w6) (.cells #[.int .i64 ga, .int .i64 pb, .int .i64 tb, .int .i64 kb, .slice Ab nb cb] 24)
    obtain ⟨zc, hz⟩ : ∃ z, z = w6.heap.size := ⟨_, rfl⟩
    rw [← hz] at hq ⊢
    generalize w6.alloc (.cells #[.int .i64 ga, .int .i64 pb, .int .i64 tb, .int .i64 kb, .slice Ab nb cb] 24) = w7 at hq hb ⊢
    clear hz
    have Rzc := Lib.hid hq
    clear hq
    have B7 := Lib.hid (chain B6.out hb)
    replace Ra := Lib.hid (Ra.out.below hb)
    replace Rb := Lib.hid (Rb.out.below hb)
    replace Rza := Lib.hid (Rza.out.below hb)
    replace Rzb := Lib.hid (Rzb.out.below hb)
    replace Rx := Lib.hid (Rx.out.below hb)
    replace Ry := Lib.hid (Ry.out.below hb)
    clear hb B6
    have tx := text_of (c := kx) Rx.out Mx.out
    have ty := text_of (c := ky) Ry.out My.out
    obtain ⟨za0, za1, za2, za3, za4⟩ := Rza.out.cells
    have zal := Rza.out.lt
    try dsimp only at za0 za1 za2 za3 za4
    obtain ⟨zb0, zb1, zb2, zb3, zb4⟩ := Rzb.out.cells
    have zbl := Rzb.out.lt
    try dsimp only at zb0 zb1 zb2 zb3 zb4
    obtain ⟨zc0, zc1, zc2, zc3, zc4⟩ := Rzc.out.cells
    have zcl := Rzc.out.lt
    try dsimp only at zc0 zc1 zc2 zc3 zc4
    go_wp2_with fail
    refine (CPc.out _ Rb.out (by first | assumption | exact Hid.out (by assumption) | exact Wd.below (Hid.out (by assumption)) (Hid.out (by assumption)) | exact Wd.below (by assumption) (Hid.out (by assumption)))).mono ?_
    rintro e w8 ⟨v, rfl, ho, hb⟩
    rw [PLc.out] at ho
    obtain ⟨Av, kv, rfl, y9, rp, y8, y7⟩ := own_cap bcells_len (by decide) ho
    have Rv := Lib.hid rp
    have Mv : Hid (64 = (putQ ⟨ga, pb, tb, kb, xb⟩).length) := PLc.out.symm
    clear ho y9 rp y8 y7
    clear za0 za1 za2 za3 za4 zal zb0 zb1 zb2 zb3 zb4 zbl zc0 zc1 zc2 zc3 zc4 zcl
    have B8 := Lib.hid (chain B7.out hb)
    replace Ra := Lib.hid (Ra.out.below hb)
    replace Rb := Lib.hid (Rb.out.below hb)
    replace Rza := Lib.hid (Rza.out.below hb)
    replace Rzb := Lib.hid (Rzb.out.below hb)
    replace Rx := Lib.hid (Rx.out.below hb)
    replace Ry := Lib.hid (Ry.out.below hb)
    replace Rzc := Lib.hid (Rzc.out.below hb)
    clear tx ty
    clear hb B7
    have tx := text_of (c := kx) Rx.out Mx.out
    have ty := text_of (c := ky) Ry.out My.out
    have tv := text_of (c := kv) Rv.out Mv.out
    obtain ⟨za0, za1, za2, za3, za4⟩ := Rza.out.cells
    have zal := Rza.out.lt
    try dsimp only at za0 za1 za2 za3 za4
    obtain ⟨zb0, zb1, zb2, zb3, zb4⟩ := Rzb.out.cells
    have zbl := Rzb.out.lt
    try dsimp only at zb0 zb1 zb2 zb3 zb4
    obtain ⟨zc0, zc1, zc2, zc3, zc4⟩ := Rzc.out.cells
    have zcl := Rzc.out.lt
    try dsimp only at zc0 zc1 zc2 zc3 zc4
    have eg := EG.out
    have xy := XY.out eg
    have ep : (pa == pb) = true := by simpa using EP.out
    go_wp2_with fail
    go_ret
    exact ⟨rfl, B8.out⟩
  · skip
    have EG : Hid (¬ ga = gb) := hg
    have EP : Hid (¬ pa = pb) := hp
    clear hg hp
    go_enter Tryd.func8, Tryd.ntmps8
    go_wp2_with fail
    have hqa := QB.new (w) ⟨ga, pa, ta, ka, xa⟩ Aa na ca
    dsimp only at hqa
    have hqb := QB.new ((w).alloc (.cells #[.int .i64 ga, .int .i64 pa, .int .i64 ta, .int .i64 ka, .slice Aa na ca] 24)) ⟨gb, pb, tb, kb, xb⟩ Ab nb cb
    dsimp only at hqb
    rw [show ((w).alloc (.cells #[.int .i64 ga, .int .i64 pa, .int .i64 ta, .int .i64 ka, .slice Aa na ca] 24)).heap.size = w.heap.size + 1 by simp] at hqb
    replace hqa := hqa.below ((Below.refl _ _).alloc (Nat.le_refl _) (.cells #[.int .i64 gb, .int .i64 pb, .int .i64 tb, .int .i64 kb, .slice Ab nb cb] 24))
    have hb := chain_alloc (chain_alloc (Below.refl _ w) (.cells #[.int .i64 ga, .int .i64 pa, .int .i64 ta, .int .i64 ka, .slice Aa na ca] 24)) (.cells #[.int .i64 gb, .int .i64 pb, .int .i64 tb, .int .i64 kb, .slice Ab nb cb] 24)
    obtain ⟨za, hza⟩ : ∃ z, z = w.heap.size := ⟨_, rfl⟩
    obtain ⟨zb, hzb⟩ : ∃ z, z = w.heap.size + 1 := ⟨_, rfl⟩
    rw [← hzb] at hqb ⊢
    rw [← hza] at hqa ⊢
    generalize ((w).alloc (.cells #[.int .i64 ga, .int .i64 pa, .int .i64 ta, .int .i64 ka, .slice Aa na ca] 24)).alloc (.cells #[.int .i64 gb, .int .i64 pb, .int .i64 tb, .int .i64 kb, .slice Ab nb cb] 24) = w1 at hb hqa hqb ⊢
    have Rza := Lib.hid hqa
    have Rzb := Lib.hid hqb
    clear hqa hza hqb hzb
    have B1 := Lib.hid hb
    replace Ra := Lib.hid (Ra.out.below hb)
    replace Rb := Lib.hid (Rb.out.below hb)
    clear hb
    refine (head16_any _).mono ?_
    rintro e w2 ⟨rfl, hb⟩
    have B2 := Lib.hid (chain B1.out hb)
    replace Ra := Lib.hid (Ra.out.below hb)
    replace Rb := Lib.hid (Rb.out.below hb)
    replace Rza := Lib.hid (Rza.out.below hb)
    replace Rzb := Lib.hid (Rzb.out.below hb)
    clear hb B1
    obtain ⟨za0, za1, za2, za3, za4⟩ := Rza.out.cells
    have zal := Rza.out.lt
    try dsimp only at za0 za1 za2 za3 za4
    obtain ⟨zb0, zb1, zb2, zb3, zb4⟩ := Rzb.out.cells
    have zbl := Rzb.out.lt
    try dsimp only at zb0 zb1 zb2 zb3 zb4
    go_wp2_with fail
    refine (CRa.out _).mono ?_
    rintro e w3 ⟨rfl, hb⟩
    clear za0 za1 za2 za3 za4 zal zb0 zb1 zb2 zb3 zb4 zbl
    have B3 := Lib.hid (chain B2.out hb)
    replace Ra := Lib.hid (Ra.out.below hb)
    replace Rb := Lib.hid (Rb.out.below hb)
    replace Rza := Lib.hid (Rza.out.below hb)
    replace Rzb := Lib.hid (Rzb.out.below hb)
    clear hb B2
    obtain ⟨za0, za1, za2, za3, za4⟩ := Rza.out.cells
    have zal := Rza.out.lt
    try dsimp only at za0 za1 za2 za3 za4
    obtain ⟨zb0, zb1, zb2, zb3, zb4⟩ := Rzb.out.cells
    have zbl := Rzb.out.lt
    try dsimp only at zb0 zb1 zb2 zb3 zb4
    go_wp2_with fail
    refine (CRb.out _).mono ?_
    rintro e w4 ⟨rfl, hb⟩
    clear za0 za1 za2 za3 za4 zal zb0 zb1 zb2 zb3 zb4 zbl
    have B4 := Lib.hid (chain B3.out hb)
    replace Ra := Lib.hid (Ra.out.below hb)
    replace Rb := Lib.hid (Rb.out.below hb)
    replace Rza := Lib.hid (Rza.out.below hb)
    replace Rzb := Lib.hid (Rzb.out.below hb)
    clear hb B3
    obtain ⟨za0, za1, za2, za3, za4⟩ := Rza.out.cells
    have zal := Rza.out.lt
    try dsimp only at za0 za1 za2 za3 za4
    obtain ⟨zb0, zb1, zb2, zb3, zb4⟩ := Rzb.out.cells
    have zbl := Rzb.out.lt
    try dsimp only at zb0 zb1 zb2 zb3 zb4
    go_wp2_with fail
    refine (CPa.out _ Ra.out (by first | assumption | exact Hid.out (by assumption) | exact Wd.below (Hid.out (by assumption)) (Hid.out (by assumption)) | exact Wd.below (by assumption) (Hid.out (by assumption)))).mono ?_
    rintro e w5 ⟨v, rfl, ho, hb⟩
    rw [PLa.out] at ho
    obtain ⟨Ax, kx, rfl, y9, rp, y8, y7⟩ := own_cap bcells_len (by decide) ho
    have Rx := Lib.hid rp
    have Mx : Hid (64 = (putQ ⟨ga, pa, ta, ka, xa⟩).length) := PLa.out.symm
    have Kx := Lib.hid y8
    clear ho y9 rp y8 y7
    clear za0 za1 za2 za3 za4 zal zb0 zb1 zb2 zb3 zb4 zbl
    have B5 := Lib.hid (chain B4.out hb)
    replace Ra := Lib.hid (Ra.out.below hb)
    replace Rb := Lib.hid (Rb.out.below hb)
    replace Rza := Lib.hid (Rza.out.below hb)
    replace Rzb := Lib.hid (Rzb.out.below hb)
    clear hb B4
    have tx := text_of (c := kx) Rx.out Mx.out
    obtain ⟨za0, za1, za2, za3, za4⟩ := Rza.out.cells
    have zal := Rza.out.lt
    try dsimp only at za0 za1 za2 za3 za4
    obtain ⟨zb0, zb1, zb2, zb3, zb4⟩ := Rzb.out.cells
    have zbl := Rzb.out.lt
    try dsimp only at zb0 zb1 zb2 zb3 zb4
    go_wp2_with fail
    refine (CPb.out _ Rb.out (by first | assumption | exact Hid.out (by assumption) | exact Wd.below (Hid.out (by assumption)) (Hid.out (by assumption)) | exact Wd.below (by assumption) (Hid.out (by assumption)))).mono ?_
    rintro e w6 ⟨v, rfl, ho, hb⟩
    rw [PLb.out] at ho
    obtain ⟨Ay, ky, rfl, y9, rp, y8, y7⟩ := own_cap bcells_len (by decide) ho
    have Ry := Lib.hid rp
    have My : Hid (64 = (putQ ⟨gb, pb, tb, kb, xb⟩).length) := PLb.out.symm
    have Ky := Lib.hid y8
    clear ho y9 rp y8 y7
    clear za0 za1 za2 za3 za4 zal zb0 zb1 zb2 zb3 zb4 zbl
    have B6 := Lib.hid (chain B5.out hb)
    replace Ra := Lib.hid (Ra.out.below hb)
    replace Rb := Lib.hid (Rb.out.below hb)
    replace Rza := Lib.hid (Rza.out.below hb)
    replace Rzb := Lib.hid (Rzb.out.below hb)
    replace Rx := Lib.hid (Rx.out.below hb)
    clear tx
    clear hb B5
    have tx := text_of (c := kx) Rx.out Mx.out
    have ty := text_of (c := ky) Ry.out My.out
    obtain ⟨za0, za1, za2, za3, za4⟩ := Rza.out.cells
    have zal := Rza.out.lt
    try dsimp only at za0 za1 za2 za3 za4
    obtain ⟨zb0, zb1, zb2, zb3, zb4⟩ := Rzb.out.cells
    have zbl := Rzb.out.lt
    try dsimp only at zb0 zb1 zb2 zb3 zb4
    go_upto_region 8 with fail
    clear za0 za1 za2 za3 za4 zal zb0 zb1 zb2 zb3 zb4 zbl
    clear tx ty
    have hq := QB.new w6 ⟨ga, pb, tb, kb, xb⟩ Ab nb cb
    dsimp only at hq
    have hb := chain_alloc (Below.refl _ w6) (.cells #[.int .i64 ga, .int .i64 pb, .int .i64 tb, .int .i64 kb, .slice Ab nb cb] 24)
    obtain ⟨zc, hz⟩ : ∃ z, z = w6.heap.size := ⟨_, rfl⟩
    rw [← hz] at hq ⊢
    generalize w6.alloc (.cells #[.int .i64 ga, .int .i64 pb, .int .i64 tb, .int .i64 kb, .slice Ab nb cb] 24) = w7 at hq hb ⊢
    clear hz
    have Rzc := Lib.hid hq
    clear hq
    have B7 := Lib.hid (chain B6.out hb)
    replace Ra := Lib.hid (Ra.out.below hb)
    replace Rb := Lib.hid (Rb.out.below hb)
    replace Rza := Lib.hid (Rza.out.below hb)
    replace Rzb := Lib.hid (Rzb.out.below hb)
    replace Rx := Lib.hid (Rx.out.below hb)
    replace Ry := Lib.hid (Ry.out.below hb)
    clear hb B6
    have tx := text_of (c := kx) Rx.out Mx.out
    have ty := text_of (c := ky) Ry.out My.out
    obtain ⟨za0, za1, za2, za3, za4⟩ := Rza.out.cells
    have zal := Rza.out.lt
    try dsimp only at za0 za1 za2 za3 za4
    obtain ⟨zb0, zb1, zb2, zb3, zb4⟩ := Rzb.out.cells
    have zbl := Rzb.out.lt
    try dsimp only at zb0 zb1 zb2 zb3 zb4
    obtain ⟨zc0, zc1, zc2, zc3, zc4⟩ := Rzc.out.cells
    have zcl := Rzc.out.lt
    try dsimp only at zc0 zc1 zc2 zc3 zc4
    go_wp2_with fail
    refine (CPc.out _ Rb.out (by first | assumption | exact Hid.out (by assumption) | exact Wd.below (Hid.out (by assumption)) (Hid.out (by assumption)) | exact Wd.below (by assumption) (Hid.out (by assumption)))).mono ?_
    rintro e w8 ⟨v, rfl, ho, hb⟩
    rw [PLc.out] at ho
    obtain ⟨Av, kv, rfl, y9, rp, y8, y7⟩ := own_cap bcells_len (by decide) ho
    have Rv := Lib.hid rp
    have Mv : Hid (64 = (putQ ⟨ga, pb, tb, kb, xb⟩).length) := PLc.out.symm
    clear ho y9 rp y8 y7
    clear za0 za1 za2 za3 za4 zal zb0 zb1 zb2 zb3 zb4 zbl zc0 zc1 zc2 zc3 zc4 zcl
    have B8 := Lib.hid (chain B7.out hb)
    replace Ra := Lib.hid (Ra.out.below hb)
    replace Rb := Lib.hid (Rb.out.below hb)
    replace Rza := Lib.hid (Rza.out.below hb)
    replace Rzb := Lib.hid (Rzb.out.below hb)
    replace Rx := Lib.hid (Rx.out.below hb)
    replace Ry := Lib.hid (Ry.out.below hb)
    replace Rzc := Lib.hid (Rzc.out.below hb)
    clear tx ty
    clear hb B7
    have tx := text_of (c := kx) Rx.out Mx.out
    have ty := text_of (c := ky) Ry.out My.out
    have tv := text_of (c := kv) Rv.out Mv.out
    obtain ⟨za0, za1, za2, za3, za4⟩ := Rza.out.cells
    have zal := Rza.out.lt
    try dsimp only at za0 za1 za2 za3 za4
    obtain ⟨zb0, zb1, zb2, zb3, zb4⟩ := Rzb.out.cells
    have zbl := Rzb.out.lt
    try dsimp only at zb0 zb1 zb2 zb3 zb4
    obtain ⟨zc0, zc1, zc2, zc3, zc4⟩ := Rzc.out.cells
    have zcl := Rzc.out.lt
    try dsimp only at zc0 zc1 zc2 zc3 zc4
    have eg := EG.out
    have xy := XY.out eg
    have ep := EP.out
    have xz := XZ.out ep
    go_wp2_with fail
    go_ret
    exact ⟨rfl, B8.out⟩

end Go.Proofs.YtjokaaekliapmaaDoor
