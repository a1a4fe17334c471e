/-
  SectorFields: each number of a right sector may be any one from its least to its greatest, by itself, and no other one.
-/
import Derived.Test.YtjokaaekliapmaaDoorQHead
import Derived.Deep.DeepCutAuto
namespace Go.Proofs.YtjokaaekliapmaaDoor
open Go.RowKit

set_option maxHeartbeats 8000000 in
set_option maxRecDepth 100000 in
theorem law_qfields (gs ps ts ks : Int) (As : Option Addr) (cs ns : Nat) (xs : List UInt8) (gn : Int) (pl : Int) (pt : Int) (kp : Int) (w : World) (hT : Wd w) (hs : Rg bcells w As xs) (ls : ns = xs.length) (qs : ns ≤ cs) :
    Calls Tryd.prog 7 #[.agg #[.int .i64 gs, .int .i64 ps, .int .i64 ts, .int .i64 ks, .slice As ns cs], .int .i64 gn, .int .i64 pl, .int .i64 pt, .int .i64 kp] w fun e w' => e = .returned (.bool true) ∧ Below w.heap.size w w' := by
  have HT := Lib.hid hT
  clear hT
  have Rs := Lib.hid hs; have Ms := Lib.hid ls; have Ks := Lib.hid qs
  clear hs ls qs
  by_cases g0 : 900 < ns
  · skip
    have d0 : decide (900 < (ns : Int)) = true := decide_eq_true (by omega)
    clear g0
    go_enter Tryd.func7, Tryd.ntmps7
    go_wp2_with fail
    have hqs := QB.new (w) ⟨gs, ps, ts, ks, xs⟩ As ns cs
    dsimp only at hqs
    have hb := chain_alloc (Below.refl _ w) (.cells #[.int .i64 gs, .int .i64 ps, .int .i64 ts, .int .i64 ks, .slice As ns cs] 24)
    obtain ⟨zs, hzs⟩ : ∃ z, z = w.heap.size := ⟨_, rfl⟩
    rw [← hzs] at hqs ⊢
    generalize (w).alloc (.cells #[.int .i64 gs, .int .i64 ps, .int .i64 ts, .int .i64 ks, .slice As ns cs] 24) = w1 at hb hqs ⊢
    have Rzs := Lib.hid hqs
    clear hqs hzs
    have B1 := Lib.hid hb
    replace Rs := Lib.hid (Rs.out.below hb)
    clear hb
    refine (head16_any _).mono ?_
    rintro e w2 ⟨rfl, hb⟩
    have B2 := Lib.hid (chain B1.out hb)
    replace Rs := Lib.hid (Rs.out.below hb)
    replace Rzs := Lib.hid (Rzs.out.below hb)
    clear hb B1
    obtain ⟨zs0, zs1, zs2, zs3, zs4⟩ := Rzs.out.cells
    have zsl := Rzs.out.lt
    try dsimp only at zs0 zs1 zs2 zs3 zs4
    go_wp2_with fail
    go_ret
    exact ⟨rfl, B2.out⟩
  have d0 : decide (900 < (ns : Int)) = false := decide_eq_false (by omega)
  clear g0
  have CRs : Hid (∀ w, Calls Tryd.prog 12 #[secv ⟨gs, ps, ts, ks, xs⟩ As ns cs] w fun e w' => e = .returned (.bool (rightQ ⟨gs, ps, ts, ks, xs⟩)) ∧ Below w.heap.size w w') := fun w => right16 ⟨gs, ps, ts, ks, xs⟩ As ns cs w Ms.out
  have CPs : Hid (∀ w, Rg bcells w As xs → Wd w → Calls Tryd.prog 14 #[secv ⟨gs, ps, ts, ks, xs⟩ As ns cs] w (BOwn (putQ ⟨gs, ps, ts, ks, xs⟩) w)) := fun w h t => put16 ⟨gs, ps, ts, ks, xs⟩ As ns cs w Ms.out h t
  unfold secv at CRs CPs
  dsimp only at CRs CPs
  rcases oks : rightQ ⟨gs, ps, ts, ks, xs⟩ with _ | _
  · skip
    rw [oks] at CRs
    clear oks
    go_enter Tryd.func7, Tryd.ntmps7
    go_wp2_with fail
    have hqs := QB.new (w) ⟨gs, ps, ts, ks, xs⟩ As ns cs
    dsimp only at hqs
    have hb := chain_alloc (Below.refl _ w) (.cells #[.int .i64 gs, .int .i64 ps, .int .i64 ts, .int .i64 ks, .slice As ns cs] 24)
    obtain ⟨zs, hzs⟩ : ∃ z, z = w.heap.size := ⟨_, rfl⟩
    rw [← hzs] at hqs ⊢
    generalize (w).alloc (.cells #[.int .i64 gs, .int .i64 ps, .int .i64 ts, .int .i64 ks, .slice As ns cs] 24) = w1 at hb hqs ⊢
    have Rzs := Lib.hid hqs
    clear hqs hzs
    have B1 := Lib.hid hb
    replace Rs := Lib.hid (Rs.out.below hb)
    clear hb
    refine (head16_any _).mono ?_
    rintro e w2 ⟨rfl, hb⟩
    have B2 := Lib.hid (chain B1.out hb)
    replace Rs := Lib.hid (Rs.out.below hb)
    replace Rzs := Lib.hid (Rzs.out.below hb)
    clear hb B1
    obtain ⟨zs0, zs1, zs2, zs3, zs4⟩ := Rzs.out.cells
    have zsl := Rzs.out.lt
    try dsimp only at zs0 zs1 zs2 zs3 zs4
    go_wp2_with fail
    refine (CRs.out _).mono ?_
    rintro e w3 ⟨rfl, hb⟩
    clear zs0 zs1 zs2 zs3 zs4 zsl
    have B3 := Lib.hid (chain B2.out hb)
    replace Rs := Lib.hid (Rs.out.below hb)
    replace Rzs := Lib.hid (Rzs.out.below hb)
    clear hb B2
    obtain ⟨zs0, zs1, zs2, zs3, zs4⟩ := Rzs.out.cells
    have zsl := Rzs.out.lt
    try dsimp only at zs0 zs1 zs2 zs3 zs4
    go_wp2_with fail
    go_ret
    exact ⟨rfl, B3.out⟩
  obtain ⟨y1, y2, y3, y4, y5, y6, y7, y8, y9, y10⟩ := right_q.1 oks
  dsimp only at y1 y2 y3 y4 y5 y6 y7 y8 y9 y10
  have n1 : 1 ≤ ns := by rw [Ms.out]; exact y9
  have n50 : ns ≤ 50 := by rw [Ms.out]; exact y10
  have dn1 : decide (1 ≤ (ns : Int)) = true := decide_eq_true (by omega)
  have dn2 : decide ((ns : Int) ≤ 50) = true := decide_eq_true (by omega)
  have dn3 : decide (1 ≤ ns) = true := decide_eq_true n1
  have dn4 : decide (ns ≤ 50) = true := decide_eq_true n50
  rw [oks] at CRs
  have C0 : Hid (∀ w, Calls Tryd.prog 12 #[secv ⟨gn, ps, ts, ks, xs⟩ As ns cs] w fun e w' => e = .returned (.bool (decide (1 ≤ gn) && decide (gn ≤ 281474976710656))) ∧ Below w.heap.size w w') := fun w => by
    have := right16 ⟨gn, ps, ts, ks, xs⟩ As ns cs w Ms.out
    have e : rightQ ⟨gn, ps, ts, ks, xs⟩ = (decide (1 ≤ gn) && decide (gn ≤ 281474976710656)) := by
      rw [Bool.eq_iff_iff, right_q, Bool.and_eq_true, decide_eq_true_eq, decide_eq_true_eq]
      dsimp only
      omega
    rw [e] at this
    exact this
  unfold secv at C0
  dsimp only at C0
  have C1 : Hid (∀ w, Calls Tryd.prog 12 #[secv ⟨gs, pl, ts, ks, xs⟩ As ns cs] w fun e w' => e = .returned (.bool (decide (0 ≤ pl) && decide (pl ≤ 4096))) ∧ Below w.heap.size w w') := fun w => by
    have := right16 ⟨gs, pl, ts, ks, xs⟩ As ns cs w Ms.out
    have e : rightQ ⟨gs, pl, ts, ks, xs⟩ = (decide (0 ≤ pl) && decide (pl ≤ 4096)) := by
      rw [Bool.eq_iff_iff, right_q, Bool.and_eq_true, decide_eq_true_eq, decide_eq_true_eq]
      dsimp only
      omega
    rw [e] at this
    exact this
  unfold secv at C1
  dsimp only at C1
  have C2 : Hid (∀ w, Calls Tryd.prog 12 #[secv ⟨gs, ps, pt, ks, xs⟩ As ns cs] w fun e w' => e = .returned (.bool (decide (1 ≤ pt) && decide (pt ≤ 32))) ∧ Below w.heap.size w w') := fun w => by
    have := right16 ⟨gs, ps, pt, ks, xs⟩ As ns cs w Ms.out
    have e : rightQ ⟨gs, ps, pt, ks, xs⟩ = (decide (1 ≤ pt) && decide (pt ≤ 32)) := by
      rw [Bool.eq_iff_iff, right_q, Bool.and_eq_true, decide_eq_true_eq, decide_eq_true_eq]
      dsimp only
      omega
    rw [e] at this
    exact this
  unfold secv at C2
  dsimp only at C2
  have C3 : Hid (∀ w, Calls Tryd.prog 12 #[secv ⟨gs, ps, ts, kp, xs⟩ As ns cs] w fun e w' => e = .returned (.bool (decide (0 ≤ kp) && decide (kp ≤ 1000))) ∧ Below w.heap.size w w') := fun w => by
    have := right16 ⟨gs, ps, ts, kp, xs⟩ As ns cs w Ms.out
    have e : rightQ ⟨gs, ps, ts, kp, xs⟩ = (decide (0 ≤ kp) && decide (kp ≤ 1000)) := by
      rw [Bool.eq_iff_iff, right_q, Bool.and_eq_true, decide_eq_true_eq, decide_eq_true_eq]
      dsimp only
      omega
    rw [e] at this
    exact this
  unfold secv at C3
  dsimp only at C3
  clear oks y1 y2 y3 y4 y5 y6 y7 y8 y9 y10
  go_enter Tryd.func7, Tryd.ntmps7
  go_wp2_with fail
  have hqs := QB.new (w) ⟨gs, ps, ts, ks, xs⟩ As ns cs
  dsimp only at hqs
  have hb := chain_alloc (Below.refl _ w) (.cells #[.int .i64 gs, .int .i64 ps, .int .i64 ts, .int .i64 ks, .slice As ns cs] 24)
  obtain ⟨zs, hzs⟩ : ∃ z, z = w.heap.size := ⟨_, rfl⟩
  rw [← hzs] at hqs ⊢
  generalize (w).alloc (.cells #[.int .i64 gs, .int .i64 ps, .int .i64 ts, .int .i64 ks, .slice As ns cs] 24) = w1 at hb hqs ⊢
  have Rzs := Lib.hid hqs
  clear hqs hzs
  have B1 := Lib.hid hb
  replace Rs := Lib.hid (Rs.out.below hb)
  clear hb
  refine (head16_any _).mono ?_
  rintro e w2 ⟨rfl, hb⟩
  have B2 := Lib.hid (chain B1.out hb)
  replace Rs := Lib.hid (Rs.out.below hb)
  replace Rzs := Lib.hid (Rzs.out.below hb)
  clear hb B1
  obtain ⟨zs0, zs1, zs2, zs3, zs4⟩ := Rzs.out.cells
  have zsl := Rzs.out.lt
  try dsimp only at zs0 zs1 zs2 zs3 zs4
  go_wp2_with fail
  refine (CRs.out _).mono ?_
  rintro e w3 ⟨rfl, hb⟩
  clear zs0 zs1 zs2 zs3 zs4 zsl
  have B3 := Lib.hid (chain B2.out hb)
  replace Rs := Lib.hid (Rs.out.below hb)
  replace Rzs := Lib.hid (Rzs.out.below hb)
  clear hb B2
  obtain ⟨zs0, zs1, zs2, zs3, zs4⟩ := Rzs.out.cells
  have zsl := Rzs.out.lt
  try dsimp only at zs0 zs1 zs2 zs3 zs4
  go_upto_region 6 with fail
  clear zs0 zs1 zs2 zs3 zs4 zsl
  have hq := QB.new w3 ⟨gn, ps, ts, ks, xs⟩ As ns cs
  dsimp only at hq
  have hb := chain_alloc (Below.refl _ w3) (.cells #[.int .i64 gn, .int .i64 ps, .int .i64 ts, .int .i64 ks, .slice As ns cs] 24)
  obtain ⟨zga, hz⟩ : ∃ z, z = w3.heap.size := ⟨_, rfl⟩
  rw [← hz] at hq ⊢
  generalize w3.alloc (.cells #[.int .i64 gn, .int .i64 ps, .int .i64 ts, .int .i64 ks, .slice As ns cs] 24) = w4 at hq hb ⊢
  clear hz
  have Rzga := Lib.hid hq
  clear hq
  have B4 := Lib.hid (chain B3.out hb)
  replace Rs := Lib.hid (Rs.out.below hb)
  replace Rzs := Lib.hid (Rzs.out.below hb)
  clear hb B3
  obtain ⟨zs0, zs1, zs2, zs3, zs4⟩ := Rzs.out.cells
  have zsl := Rzs.out.lt
  try dsimp only at zs0 zs1 zs2 zs3 zs4
  obtain ⟨zga0, zga1, zga2, zga3, zga4⟩ := Rzga.out.cells
  have zgal := Rzga.out.lt
  try dsimp only at zga0 zga1 zga2 zga3 zga4
  go_upto_region 8 with fail
  clear zs0 zs1 zs2 zs3 zs4 zsl zga0 zga1 zga2 zga3 zga4 zgal
  have hq := QB.new w4 ⟨gs, pl, ts, ks, xs⟩ As ns cs
  dsimp only at hq
  have hb := chain_alloc (Below.refl _ w4) (.cells #[.int .i64 gs, .int .i64 pl, .int .i64 ts, .int .i64 ks, .slice As ns cs] 24)
  obtain ⟨zpa, hz⟩ : ∃ z, z = w4.heap.size := ⟨_, rfl⟩
  rw [← hz] at hq ⊢
  generalize w4.alloc (.cells #[.int .i64 gs, .int .i64 pl, .int .i64 ts, .int .i64 ks, .slice As ns cs] 24) = w5 at hq hb ⊢
  clear hz
  have Rzpa := Lib.hid hq
  clear hq
  have B5 := Lib.hid (chain B4.out hb)
  replace Rs := Lib.hid (Rs.out.below hb)
  replace Rzs := Lib.hid (Rzs.out.below hb)
  replace Rzga := Lib.hid (Rzga.out.below hb)
  clear hb B4
  obtain ⟨zs0, zs1, zs2, zs3, zs4⟩ := Rzs.out.cells
  have zsl := Rzs.out.lt
  try dsimp only at zs0 zs1 zs2 zs3 zs4
  obtain ⟨zga0, zga1, zga2, zga3, zga4⟩ := Rzga.out.cells
  have zgal := Rzga.out.lt
  try dsimp only at zga0 zga1 zga2 zga3 zga4
  obtain ⟨zpa0, zpa1, zpa2, zpa3, zpa4⟩ := Rzpa.out.cells
  have zpal := Rzpa.out.lt
  try dsimp only at zpa0 zpa1 zpa2 zpa3 zpa4
  go_upto_region 10 with fail
  clear zs0 zs1 zs2 zs3 zs4 zsl zga0 zga1 zga2 zga3 zga4 zgal zpa0 zpa1 zpa2 zpa3 zpa4 zpal
  have hq := QB.new w5 ⟨gs, ps, pt, ks, xs⟩ As ns cs
  dsimp only at hq
  have hb := chain_alloc (Below.refl _ w5) (.cells #[.int .i64 gs, .int .i64 ps, .int .i64 pt, .int .i64 ks, .slice As ns cs] 24)
  obtain ⟨zta, hz⟩ : ∃ z, z = w5.heap.size := ⟨_, rfl⟩
  rw [← hz] at hq ⊢
  generalize w5.alloc (.cells #[.int .i64 gs, .int .i64 ps, .int .i64 pt, .int .i64 ks, .slice As ns cs] 24) = w6 at hq hb ⊢
  clear hz
  have Rzta := Lib.hid hq
  clear hq
  have B6 := Lib.hid (chain B5.out hb)
  replace Rs := Lib.hid (Rs.out.below hb)
  replace Rzs := Lib.hid (Rzs.out.below hb)
  replace Rzga := Lib.hid (Rzga.out.below hb)
  replace Rzpa := Lib.hid (Rzpa.out.below hb)
  clear hb B5
  obtain ⟨zs0, zs1, zs2, zs3, zs4⟩ := Rzs.out.cells
  have zsl := Rzs.out.lt
  try dsimp only at zs0 zs1 zs2 zs3 zs4
  obtain ⟨zga0, zga1, zga2, zga3, zga4⟩ := Rzga.out.cells
  have zgal := Rzga.out.lt
  try dsimp only at zga0 zga1 zga2 zga3 zga4
  obtain ⟨zpa0, zpa1, zpa2, zpa3, zpa4⟩ := Rzpa.out.cells
  have zpal := Rzpa.out.lt
  try dsimp only at zpa0 zpa1 zpa2 zpa3 zpa4
  obtain ⟨zta0, zta1, zta2, zta3, zta4⟩ := Rzta.out.cells
  have ztal := Rzta.out.lt
  try dsimp only at zta0 zta1 zta2 zta3 zta4
  go_upto_region 12 with fail
  clear zs0 zs1 zs2 zs3 zs4 zsl zga0 zga1 zga2 zga3 zga4 zgal zpa0 zpa1 zpa2 zpa3 zpa4 zpal zta0 zta1 zta2 zta3 zta4 ztal
  have hq := QB.new w6 ⟨gs, ps, ts, kp, xs⟩ As ns cs
  dsimp only at hq
  have hb := chain_alloc (Below.refl _ w6) (.cells #[.int .i64 gs, .int .i64 ps, .int .i64 ts, .int .i64 kp, .slice As ns cs] 24)
  obtain ⟨zka, hz⟩ : ∃ z, z = w6.heap.size := ⟨_, rfl⟩
  rw [← hz] at hq ⊢
  generalize w6.alloc (.cells #[.int .i64 gs, .int .i64 ps, .int .i64 ts, .int .i64 kp, .slice As ns cs] 24) = w7 at hq hb ⊢
  clear hz
  have Rzka := Lib.hid hq
  clear hq
  have B7 := Lib.hid (chain B6.out hb)
  replace Rs := Lib.hid (Rs.out.below hb)
  replace Rzs := Lib.hid (Rzs.out.below hb)
  replace Rzga := Lib.hid (Rzga.out.below hb)
  replace Rzpa := Lib.hid (Rzpa.out.below hb)
  replace Rzta := Lib.hid (Rzta.out.below hb)
  clear hb B6
  obtain ⟨zs0, zs1, zs2, zs3, zs4⟩ := Rzs.out.cells
  have zsl := Rzs.out.lt
  try dsimp only at zs0 zs1 zs2 zs3 zs4
  obtain ⟨zga0, zga1, zga2, zga3, zga4⟩ := Rzga.out.cells
  have zgal := Rzga.out.lt
  try dsimp only at zga0 zga1 zga2 zga3 zga4
  obtain ⟨zpa0, zpa1, zpa2, zpa3, zpa4⟩ := Rzpa.out.cells
  have zpal := Rzpa.out.lt
  try dsimp only at zpa0 zpa1 zpa2 zpa3 zpa4
  obtain ⟨zta0, zta1, zta2, zta3, zta4⟩ := Rzta.out.cells
  have ztal := Rzta.out.lt
  try dsimp only at zta0 zta1 zta2 zta3 zta4
  obtain ⟨zka0, zka1, zka2, zka3, zka4⟩ := Rzka.out.cells
  have zkal := Rzka.out.lt
  try dsimp only at zka0 zka1 zka2 zka3 zka4
  go_wp2_with fail
  refine (C0.out _).mono ?_
  rintro e w8 ⟨rfl, hb⟩
  clear zs0 zs1 zs2 zs3 zs4 zsl zga0 zga1 zga2 zga3 zga4 zgal zpa0 zpa1 zpa2 zpa3 zpa4 zpal zta0 zta1 zta2 zta3 zta4 ztal zka0 zka1 zka2 zka3 zka4 zkal
  have B8 := Lib.hid (chain B7.out hb)
  replace Rs := Lib.hid (Rs.out.below hb)
  replace Rzs := Lib.hid (Rzs.out.below hb)
  replace Rzga := Lib.hid (Rzga.out.below hb)
  replace Rzpa := Lib.hid (Rzpa.out.below hb)
  replace Rzta := Lib.hid (Rzta.out.below hb)
  replace Rzka := Lib.hid (Rzka.out.below hb)
  clear hb B7
  obtain ⟨zs0, zs1, zs2, zs3, zs4⟩ := Rzs.out.cells
  have zsl := Rzs.out.lt
  try dsimp only at zs0 zs1 zs2 zs3 zs4
  obtain ⟨zga0, zga1, zga2, zga3, zga4⟩ := Rzga.out.cells
  have zgal := Rzga.out.lt
  try dsimp only at zga0 zga1 zga2 zga3 zga4
  obtain ⟨zpa0, zpa1, zpa2, zpa3, zpa4⟩ := Rzpa.out.cells
  have zpal := Rzpa.out.lt
  try dsimp only at zpa0 zpa1 zpa2 zpa3 zpa4
  obtain ⟨zta0, zta1, zta2, zta3, zta4⟩ := Rzta.out.cells
  have ztal := Rzta.out.lt
  try dsimp only at zta0 zta1 zta2 zta3 zta4
  obtain ⟨zka0, zka1, zka2, zka3, zka4⟩ := Rzka.out.cells
  have zkal := Rzka.out.lt
  try dsimp only at zka0 zka1 zka2 zka3 zka4
  go_wp2_with fail
  all_goals
    refine (C1.out _).mono ?_
    rintro e w9 ⟨rfl, hb⟩
    clear zs0 zs1 zs2 zs3 zs4 zsl zga0 zga1 zga2 zga3 zga4 zgal zpa0 zpa1 zpa2 zpa3 zpa4 zpal zta0 zta1 zta2 zta3 zta4 ztal zka0 zka1 zka2 zka3 zka4 zkal
    have B9 := Lib.hid (chain B8.out hb)
    replace Rs := Lib.hid (Rs.out.below hb)
    replace Rzs := Lib.hid (Rzs.out.below hb)
    replace Rzga := Lib.hid (Rzga.out.below hb)
    replace Rzpa := Lib.hid (Rzpa.out.below hb)
    replace Rzta := Lib.hid (Rzta.out.below hb)
    replace Rzka := Lib.hid (Rzka.out.below hb)
    clear hb B8
    obtain ⟨zs0, zs1, zs2, zs3, zs4⟩ := Rzs.out.cells
    have zsl := Rzs.out.lt
    try dsimp only at zs0 zs1 zs2 zs3 zs4
    obtain ⟨zga0, zga1, zga2, zga3, zga4⟩ := Rzga.out.cells
    have zgal := Rzga.out.lt
    try dsimp only at zga0 zga1 zga2 zga3 zga4
    obtain ⟨zpa0, zpa1, zpa2, zpa3, zpa4⟩ := Rzpa.out.cells
    have zpal := Rzpa.out.lt
    try dsimp only at zpa0 zpa1 zpa2 zpa3 zpa4
    obtain ⟨zta0, zta1, zta2, zta3, zta4⟩ := Rzta.out.cells
    have ztal := Rzta.out.lt
    try dsimp only at zta0 zta1 zta2 zta3 zta4
    obtain ⟨zka0, zka1, zka2, zka3, zka4⟩ := Rzka.out.cells
    have zkal := Rzka.out.lt
    try dsimp only at zka0 zka1 zka2 zka3 zka4
    go_wp2_with fail
  all_goals
    refine (C2.out _).mono ?_
    rintro e w10 ⟨rfl, hb⟩
    clear zs0 zs1 zs2 zs3 zs4 zsl zga0 zga1 zga2 zga3 zga4 zgal zpa0 zpa1 zpa2 zpa3 zpa4 zpal zta0 zta1 zta2 zta3 zta4 ztal zka0 zka1 zka2 zka3 zka4 zkal
    have B10 := Lib.hid (chain B9.out hb)
    replace Rs := Lib.hid (Rs.out.below hb)
    replace Rzs := Lib.hid (Rzs.out.below hb)
    replace Rzga := Lib.hid (Rzga.out.below hb)
    replace Rzpa := Lib.hid (Rzpa.out.below hb)
    replace Rzta := Lib.hid (Rzta.out.below hb)
    replace Rzka := Lib.hid (Rzka.out.below hb)
    clear hb B9
    obtain ⟨zs0, zs1, zs2, zs3, zs4⟩ := Rzs.out.cells
    have zsl := Rzs.out.lt
    try dsimp only at zs0 zs1 zs2 zs3 zs4
    obtain ⟨zga0, zga1, zga2, zga3, zga4⟩ := Rzga.out.cells
    have zgal := Rzga.out.lt
    try dsimp only at zga0 zga1 zga2 zga3 zga4
    obtain ⟨zpa0, zpa1, zpa2, zpa3, zpa4⟩ := Rzpa.out.cells
    have zpal := Rzpa.out.lt
    try dsimp only at zpa0 zpa1 zpa2 zpa3 zpa4
    obtain ⟨zta0, zta1, zta2, zta3, zta4⟩ := Rzta.out.cells
    have ztal := Rzta.out.lt
    try dsimp only at zta0 zta1 zta2 zta3 zta4
    obtain ⟨zka0, zka1, zka2, zka3, zka4⟩ := Rzka.out.cells
    have zkal := Rzka.out.lt
    try dsimp only at zka0 zka1 zka2 zka3 zka4
    go_wp2_with fail
  all_goals
    refine (C3.out _).mono ?_
    rintro e w11 ⟨rfl, hb⟩
    clear zs0 zs1 zs2 zs3 zs4 zsl zga0 zga1 zga2 zga3 zga4 zgal zpa0 zpa1 zpa2 zpa3 zpa4 zpal zta0 zta1 zta2 zta3 zta4 ztal zka0 zka1 zka2 zka3 zka4 zkal
    have B11 := Lib.hid (chain B10.out hb)
    replace Rs := Lib.hid (Rs.out.below hb)
    replace Rzs := Lib.hid (Rzs.out.below hb)
    replace Rzga := Lib.hid (Rzga.out.below hb)
    replace Rzpa := Lib.hid (Rzpa.out.below hb)
    replace Rzta := Lib.hid (Rzta.out.below hb)
    replace Rzka := Lib.hid (Rzka.out.below hb)
    clear hb B10
    obtain ⟨zs0, zs1, zs2, zs3, zs4⟩ := Rzs.out.cells
    have zsl := Rzs.out.lt
    try dsimp only at zs0 zs1 zs2 zs3 zs4
    obtain ⟨zga0, zga1, zga2, zga3, zga4⟩ := Rzga.out.cells
    have zgal := Rzga.out.lt
    try dsimp only at zga0 zga1 zga2 zga3 zga4
    obtain ⟨zpa0, zpa1, zpa2, zpa3, zpa4⟩ := Rzpa.out.cells
    have zpal := Rzpa.out.lt
    try dsimp only at zpa0 zpa1 zpa2 zpa3 zpa4
    obtain ⟨zta0, zta1, zta2, zta3, zta4⟩ := Rzta.out.cells
    have ztal := Rzta.out.lt
    try dsimp only at zta0 zta1 zta2 zta3 zta4
    obtain ⟨zka0, zka1, zka2, zka3, zka4⟩ := Rzka.out.cells
    have zkal := Rzka.out.lt
    try dsimp only at zka0 zka1 zka2 zka3 zka4
    go_wp2_with fail
    all_goals (go_ret; exact ⟨rfl, B11.out⟩)

end Go.Proofs.YtjokaaekliapmaaDoor
