/-
  ChunkLacks: without one of its chunks what was cut is not gathered; but what the others have is.
-/
import Derived.Test.YtlllinpaclodaaaCHead
namespace Go.Proofs.Ytlllinpaclodaaa
open Go.RowKit

theorem u_to14 (A : Option Addr) (n cap k : Nat) (h1 : k ≤ n) (h2 : n ≤ cap) (w : World) : (Instr.slice 22 (.slice A n cap) none (some (.int .i64 (k : Int))) none).run Try.prog w = .ok (.slice A k cap) w := by
  have : k ≤ cap := by omega
  first | (go_simp; done) | (go_simp; intro hh; omega) | (rcases A with _ | A <;> go_simp <;> (try intro hh) <;> omega)
theorem rg_take {w : World} {A : Option Addr} {xs : List UInt64} (h : Rg ucells w A xs) (k : Nat) : Rg ucells w A (xs.take k) := fun h0 => by
  obtain ⟨b, o, rfl, lt, hc⟩ := h (by rw [List.length_take] at h0; omega)
  have := rg_part lt hc 0 k
  rw [List.drop_zero, Nat.add_zero] at this
  exact this h0

set_option maxHeartbeats 8000000 in
set_option maxRecDepth 100000 in
theorem law_clacks (h : Int) (Al : Option Addr) (cl nl : Nat) (xl : List UInt64) (f : Int) (w : World) (bh : 0 ≤ h ∧ h ≤ 65535) (bf : 0 ≤ f ∧ f ≤ 255) (hl : Rg ucells w Al xl) (ll : nl = xl.length) (kl : nl ≤ cl) :
    Calls Try.prog 6 #[.int .u16 h, .slice Al nl cl, .int .u8 f] w fun e w' => e = .returned (.bool true) ∧ Below w.heap.size w w' := by
  have Rl := Lib.hid hl; have Ml := Lib.hid ll; have Kl := Lib.hid kl
  clear hl ll kl
  obtain ⟨h0, h1⟩ := bh
  obtain ⟨f0, f1⟩ := bf
  obtain ⟨p, hp⟩ : ∃ p : Nat, h % 60000 = p := ⟨(h % 60000).toNat, by omega⟩
  have p6 : p < 60000 := by omega
  by_cases g0 : 900 < nl
  · skip
    have d0 : decide (900 < (nl : Int)) = true := decide_eq_true (by omega)
    clear g0
    go_enter Try.func6, Try.ntmps6
    go_wp2_with fail
    refine (head14_any _).mono ?_
    rintro e w1 ⟨rfl, hb⟩
    have B1 := Lib.hid hb
    replace Rl := Lib.hid (Rl.out.below hb)
    clear hb
    go_wp2_with fail
    go_ret
    exact ⟨rfl, B1.out⟩
  have d0 : decide (900 < (nl : Int)) = false := decide_eq_false (by omega)
  have l9 : nl ≤ 900 := by omega
  rcases Nat.eq_zero_or_pos nl with z | z
  · skip
    subst z
    go_enter Try.func6, Try.ntmps6
    go_wp2_with fail
    refine (head14_any _).mono ?_
    rintro e w1 ⟨rfl, hb⟩
    have B1 := Lib.hid hb
    replace Rl := Lib.hid (Rl.out.below hb)
    clear hb
    go_wp2_with fail
    go_ret
    exact ⟨rfl, B1.out⟩
  have OK : Hid (okCut (p : Int) xl.length = true) := ok_cut.2 ⟨by omega, by omega, by rw [← Ml.out]; omega⟩
  obtain ⟨ncc, hnc⟩ : ∃ ncc, ncc = (nl + 5) / 6 := ⟨_, rfl⟩
  have nc9 : ncc ≤ 151 := by omega
  have nc0 : 0 < ncc := by omega
  have CL : Hid ((cutC (p : Int) xl).length = ncc) := by show _ = _; rw [cut_len OK.out, hnc, Ml.out]
  obtain ⟨k, hk⟩ : ∃ k : Nat, f % (ncc : Int) = k := ⟨(f % (ncc : Int)).toNat, by have := Int.emod_nonneg f (b := (ncc : Int)) (by omega); omega⟩
  have kn : k < ncc := by have := Int.emod_lt_of_pos f (b := (ncc : Int)) (by omega); omega
  have KX : Hid (k < (xl.length + 5) / 6) := by show k < _; rw [← Ml.out, ← hnc]; exact kn
  have k6 : 6 * k ≤ nl := by omega
  obtain ⟨en, hen⟩ : ∃ en, en = min (6 * k + 6) nl := ⟨_, rfl⟩
  have en9 : en ≤ nl := by omega
  obtain ⟨zn, hzn⟩ : ∃ zn, zn = nl - en := ⟨_, rfl⟩
  have ezn : (nl : Int) - (en : Int) = (zn : Int) := by omega
  have G1 := Lib.hid (ga_lack OK.out KX.out)
  have G2 := Lib.hid (ga_ahead OK.out (by rw [← Ml.out]; omega) KX.out)
  have G3 := Lib.hid (ga_behind OK.out (by rw [← Ml.out]; omega) KX.out (e := en) (n := zn) (by rw [← Ml.out]; exact hen) (by rw [← Ml.out]; exact hzn))
  have hmin1 : ∀ (ts : Array TypeId) (ty : TypeId) (w : World), (Builtin.min_ ts ty #[.int .i64 (6 * (k : Int)), .int .i64 (nl : Int)]).run Try.prog w = .ok (.int .i64 ((6 * k : Nat) : Int)) w := by
    intro ts t w
    simp [Builtin.min_, Builtin.min2]
    repeat' split
    all_goals omega
  have hmin2 : ∀ (ts : Array TypeId) (ty : TypeId) (w : World), (Builtin.min_ ts ty #[.int .i64 (6 * (k : Int) + 6), .int .i64 (nl : Int)]).run Try.prog w = .ok (.int .i64 (en : Int)) w := by
    intro ts t w
    simp [Builtin.min_, Builtin.min2]
    repeat' split
    all_goals omega
  obtain ⟨t6, ht6⟩ : ∃ t6, t6 = 6 * k := ⟨_, rfl⟩
  rw [← ht6] at hmin1 G2 k6
  have YL : Hid (t6 = (xl.take t6).length) := by show _ = _; rw [List.length_take, ← Ml.out]; omega
  have ZL : Hid (zn = (xl.drop en).length) := by show _ = _; rw [List.length_drop, ← Ml.out]; exact hzn
  have hto := u_to14 Al nl cl t6 k6 Kl.out
  obtain ⟨Az, hfr, hRz⟩ := u_end Al nl cl en en9 Kl.out
  rw [← hzn] at hfr
  have RZ : Hid (∀ w', Rg ucells w' Al xl → Rg ucells w' Az (xl.drop en)) := fun w' h => hRz w' xl h Ml.out.symm
  have z0 : ¬ nl = 0 := by omega
  have zi : ¬ (nl : Int) = 0 := by omega
  have S1 := Lib.hid hto; have S2 := Lib.hid hfr
  have HT6 := Lib.hid ht6
  clear hto hfr hRz hnc hen hzn z ht6
  go_enter Try.func6, Try.ntmps6
  go_wp2_with fail
  refine (head14_any _).mono ?_
  rintro e w1 ⟨rfl, hb⟩
  have B1 := Lib.hid hb
  replace Rl := Lib.hid (Rl.out.below hb)
  clear hb
  go_wp2_with fail
  refine (cut14 (p) Al cl nl (xl) _ Rl.out Ml.out (by omega) Kl.out).mono ?_
  rintro e w2 ⟨Ac, kc, nc, rfl, h1, h2, hb, h4, h5⟩
  rw [CL.out] at h1
  obtain rfl := h1
  have nci : (0 : Int) < (nc : Int) := by omega
  have ncn : ¬ nc = 0 := by omega
  have h1 : Hid (nc = (cutC (p : Int) xl).length) := CL.out.symm
  have Mc := Lib.hid h1; have Rc := Lib.hid h2; have Kc := Lib.hid h4
  clear h1 h2 h4 h5
  have B2 := Lib.hid (chain B1.out hb)
  replace Rl := Lib.hid (Rl.out.below hb)
  clear hb B1
  have kl2 : k ≤ nc := by omega
  have rt := r_to Ac nc kc k kl2 Kc.out
  obtain ⟨kq, hkq⟩ : ∃ kq, kq = k + 1 := ⟨_, rfl⟩
  obtain ⟨Af, rf, RF0⟩ := r_from Ac nc kc kq (by omega) Kc.out
  have e1 : Hid (k = ((cutC (p : Int) xl).take k).length) := by show _ = _; rw [List.length_take, CL.out]; omega
  have e2 : Hid (0 + k ≤ 1000000) := by show 0 + k ≤ 1000000; omega
  have e4 : Hid (0 + k + (nc - kq) ≤ 1000000) := by show 0 + k + (nc - kq) ≤ 1000000; omega
  have kw : IntKind.i64.wrap ((k : Int) + 1) = (kq : Int) := by rw [IntWalk.i64_in _ (by omega)]; omega
  have RF := Lib.hid (fun w' h => RF0 w' (cutC (p : Int) xl) h CL.out)
  have HKQ := Lib.hid hkq
  clear RF0 hkq
  go_wp2_with fail
  refine wp_region_noPanic ?_
  refine wp_region_held_drew (S := fun w' => Below w2.drew.heap.size w2.drew w') (by kernel_rfl) (Below.refl _ _) (fun hHeld => ?_)
  have hb := below_drew w2
  generalize w2.drew = w3 at hb hHeld ⊢
  have B3 := Lib.hid (chain B2.out hb)
  replace Rl := Lib.hid (Rl.out.below hb)
  replace Rc := Lib.hid (Rc.out.below hb)
  clear hb B2
  clear hHeld
  have hHeld : Below w3.heap.size w3 w3 := Below.refl _ _
  refine wpAnyH_take (i := 1) (v := ?vv101) (by simp only [List.getElem?_toArray, List.getElem?_cons_zero, List.getElem?_cons_succ]; rfl) (by kernel_rfl) (by kernel_rfl) (by kernel_rfl) (fun _ _ _ h => h) (Or.inl ⟨by rfl, ?yy101⟩) (by assumption) ?rr101
  case yy101 => (intro w' hSw; go_simp; first | done | with_reducible rfl)
  simp only [Act.put, List.setIfInBounds_toArray, List.set_cons_zero, List.set_cons_succ]
  refine wpAnyH_take (i := 2) (v := ?vv102) (by simp only [List.getElem?_toArray, List.getElem?_cons_zero, List.getElem?_cons_succ]; rfl) (by kernel_rfl) (by kernel_rfl) (by kernel_rfl) (fun _ _ _ h => h) (Or.inl ⟨by rfl, ?yy102⟩) (by assumption) ?rr102
  case yy102 => (intro w' hSw; go_simp; first | done | with_reducible rfl)
  simp only [Act.put, List.setIfInBounds_toArray, List.set_cons_zero, List.set_cons_succ]
  refine wpAnyH_take (i := 3) (v := ?vv103) (by simp only [List.getElem?_toArray, List.getElem?_cons_zero, List.getElem?_cons_succ]; rfl) (by kernel_rfl) (by kernel_rfl) (by kernel_rfl) (fun _ _ _ h => h) (Or.inl ⟨by rfl, ?yy103⟩) (by assumption) ?rr103
  case yy103 => (intro w' hSw; go_simp; first | done | with_reducible rfl)
  simp only [Act.put, List.setIfInBounds_toArray, List.set_cons_zero, List.set_cons_succ]
  refine wpAnyH_take (i := 5) (v := ?vv104) (by simp only [List.getElem?_toArray, List.getElem?_cons_zero, List.getElem?_cons_succ]; rfl) (by kernel_rfl) (by kernel_rfl) (by kernel_rfl) (fun _ _ _ h => h) (Or.inl ⟨by rfl, ?yy104⟩) (by assumption) ?rr104
  case yy104 => (intro w' hSw; go_simp; first | done | with_reducible rfl)
  simp only [Act.put, List.setIfInBounds_toArray, List.set_cons_zero, List.set_cons_succ]
  refine wpAnyH_take (i := 6) (v := ?vv105) (by simp only [List.getElem?_toArray, List.getElem?_cons_zero, List.getElem?_cons_succ]; rfl) (by kernel_rfl) (by kernel_rfl) (by kernel_rfl) (fun _ _ _ h => h) (Or.inl ⟨by rfl, ?yy105⟩) (by assumption) ?rr105
  case yy105 => (intro w' hSw; go_simp; first | done | with_reducible rfl)
  simp only [Act.put, List.setIfInBounds_toArray, List.set_cons_zero, List.set_cons_succ]
  refine wpAnyH_take (i := 7) (v := ?vv106) (by simp only [List.getElem?_toArray, List.getElem?_cons_zero, List.getElem?_cons_succ]; rfl) (by kernel_rfl) (by kernel_rfl) (by kernel_rfl) (fun _ _ _ h => h) (Or.inl ⟨by rfl, ?yy106⟩) (by assumption) ?rr106
  case yy106 => (intro w' hSw; go_simp; first | done | with_reducible rfl)
  simp only [Act.put, List.setIfInBounds_toArray, List.set_cons_zero, List.set_cons_succ]
  refine wpAnyH_take (i := 8) (v := ?vv107) (by simp only [List.getElem?_toArray, List.getElem?_cons_zero, List.getElem?_cons_succ]; rfl) (by kernel_rfl) (by kernel_rfl) (by kernel_rfl) (fun _ _ _ h => h) (Or.inl ⟨by rfl, ?yy107⟩) (by assumption) ?rr107
  case yy107 => (intro w' hSw; go_simp; first | done | with_reducible rfl)
  simp only [Act.put, List.setIfInBounds_toArray, List.set_cons_zero, List.set_cons_succ]
  clear kw
  refine wpAnyH_ready (rs := [0]) (by kernel_rfl) (by simp) ?_
  refine AllReadyH.cons (by simp only [List.getElem?_toArray, List.getElem?_cons_zero]; rfl) (fun K hK => ?_) AllReadyH.nil
  go_simp
  refine hK.out _ _ (chain_alloc hHeld _) (fun hHeld => ?_)
  clear hK K
  try simp only [Act.put, List.setIfInBounds_toArray, List.set_cons_zero, List.set_cons_succ]
  have O1 := OR.lit0 w3
  have D1 : Below w3.heap.size w3 (w3.alloc (.cells #[] 23)) := chain_alloc (Below.refl _ _) _
  generalize w3.alloc (.cells #[] 23) = wa at hHeld O1 D1 ⊢
  obtain ⟨va, wb, run1, O2, D2⟩ := r_append_run O1 Ac kc (Rc.out.take k) D1 (Nat.le_refl _) e1.out e2.out D1.size
  refine wpAnyH_ready (rs := [4]) (by kernel_rfl) (by simp) ?_
  refine AllReadyH.cons (by simp only [List.getElem?_toArray, List.getElem?_cons_zero, List.getElem?_cons_succ]; rfl) (fun K hK => ?_) AllReadyH.nil
  refine step_append_run rfl _ _ _ _ rfl _ _ rfl rfl va run1 ?_
  refine hK.out _ _ (D1.trans D2) (fun hHeld => ?_)
  clear hK K
  try simp only [Act.put, List.setIfInBounds_toArray, List.set_cons_zero, List.set_cons_succ]
  obtain ⟨vb, wc, run2, O3, D3⟩ := r_append_run O2 Af (kc - kq) (RF.out _ Rc.out) (D1.trans D2) (Nat.le_refl _) (by rw [List.length_drop, CL.out]) e4.out (D1.trans D2).size
  refine wpAnyH_ready (rs := [9]) (by kernel_rfl) (by simp) ?_
  refine AllReadyH.cons (by simp only [List.getElem?_toArray, List.getElem?_cons_zero, List.getElem?_cons_succ]; rfl) (fun K hK => ?_) AllReadyH.nil
  refine step_append_run rfl _ _ _ _ rfl _ _ rfl rfl vb run2 ?_
  refine hK.out _ _ ((D1.trans D2).trans D3) (fun hHeld => ?_)
  clear hK K
  try simp only [Act.put, List.setIfInBounds_toArray, List.set_cons_zero, List.set_cons_succ]
  refine wpAnyH_take (i := 10) (v := ?vv108) (by simp only [List.getElem?_toArray, List.getElem?_cons_zero, List.getElem?_cons_succ]; rfl) (by kernel_rfl) (by kernel_rfl) (by kernel_rfl) (fun _ _ _ h => h) (Or.inl ⟨by rfl, ?yy108⟩) (by assumption) ?rr108
  case yy108 => (intro w' hSw; go_simp; first | done | with_reducible rfl)
  simp only [Act.put, List.setIfInBounds_toArray, List.set_cons_zero, List.set_cons_succ]
  refine wpAnyH_done (by kernel_rfl) ?_ _
  refine NoPanic.normal ?_
  clear hHeld
  have hb := (D1.trans D2).trans D3
  obtain ⟨As, cs, rfl, zs, hr, e3, e4⟩ := O3.row
  have hr : BR wc As (lessC (p : Int) xl k) := by unfold lessC; rw [← HKQ.out]; exact hr
  obtain ⟨m, hm⟩ : ∃ m, m = 0 + k + (nc - kq) := ⟨_, rfl⟩
  rw [← hm] at zs ⊢
  have Ms : Hid (m = (lessC (p : Int) xl k).length) := by show _ = _; unfold lessC; rw [← HKQ.out]; exact zs
  have Rs := Lib.hid hr
  have m9 : m ≤ 1000000 := by omega
  clear hr zs e3 e4 O1 O2 O3 run1 run2 D1 D2 D3 hm rt rf
  have B4 := Lib.hid (chain B3.out hb)
  replace Rl := Lib.hid (Rl.out.below hb)
  replace Rc := Lib.hid (Rc.out.below hb)
  clear hb B3
  have SB : Hid (∀ b ∈ lessC (p : Int) xl k, b.length ≤ 1000000) := fun b hb => Nat.le_trans (less_small b hb) (by decide)
  replace G1 : Hid (okGa (p : Int) (nl : Int) (lessC (p : Int) xl k) = false ∧ gaL (p : Int) (nl : Int) (lessC (p : Int) xl k) = []) := by
    have := G1.out
    rw [← Ml.out] at this
    exact ⟨this, if_neg (by rw [this]; decide)⟩
  go_wp2_with fail
  refine (gather14 ((p : Int)) ((nl : Int)) As cs m (lessC (p : Int) xl k) _ Rs.out Ms.out m9 SB.out).mono ?_
  rintro e w5 ⟨Ax, kx, nx, rfl, h1, h2, hb, h4, h5⟩
  rw [G1.out.2] at h1 h2
  rw [G1.out.1]
  have Mx := Lib.hid h1; have Rx := Lib.hid h2; have Kx := Lib.hid h4
  clear h1 h2 h4 h5
  have B5 := Lib.hid (chain B4.out hb)
  replace Rl := Lib.hid (Rl.out.below hb)
  replace Rc := Lib.hid (Rc.out.below hb)
  replace Rs := Lib.hid (Rs.out.below hb)
  clear hb B4
  obtain rfl : nx = 0 := Mx.out
  go_wp2_with fail
  refine (gather14 ((p : Int)) ((t6 : Int)) As cs m (lessC (p : Int) xl k) _ Rs.out Ms.out m9 SB.out).mono ?_
  rintro e w6 ⟨Ay, ky, ny, rfl, h1, h2, hb, h4, h5⟩
  rw [G2.out.2] at h1 h2
  rw [G2.out.1]
  have My := Lib.hid h1; have Ry := Lib.hid h2; have Ky := Lib.hid h4
  clear h1 h2 h4 h5
  have B6 := Lib.hid (chain B5.out hb)
  replace Rl := Lib.hid (Rl.out.below hb)
  replace Rc := Lib.hid (Rc.out.below hb)
  replace Rs := Lib.hid (Rs.out.below hb)
  replace Rx := Lib.hid (Rx.out.below hb)
  clear hb B5
  go_wp2_with fail
  refine (gather14 ((p : Int) + (en : Int)) ((zn : Int)) As cs m (lessC (p : Int) xl k) _ Rs.out Ms.out m9 SB.out).mono ?_
  rintro e w7 ⟨Az2, kz, nz, rfl, h1, h2, hb, h4, h5⟩
  rw [G3.out.2] at h1 h2
  rw [G3.out.1]
  have Mz := Lib.hid h1; have Rz := Lib.hid h2; have Kz := Lib.hid h4
  clear h1 h2 h4 h5
  have B7 := Lib.hid (chain B6.out hb)
  replace Rl := Lib.hid (Rl.out.below hb)
  replace Rc := Lib.hid (Rc.out.below hb)
  replace Rs := Lib.hid (Rs.out.below hb)
  replace Rx := Lib.hid (Rx.out.below hb)
  replace Ry := Lib.hid (Ry.out.below hb)
  clear hb B6
  have hto := S1.out; have hfr := S2.out
  go_wp2_with fail
  refine (ssame Ay Al ky cl ny t6 (xl.take t6) (xl.take t6) _ Ry.out (rg_take Rl.out t6) My.out YL.out (by rw [My.out, ← YL.out]; omega) rfl).mono ?_
  rintro e w8 ⟨rfl, hb⟩
  have B8 := Lib.hid (chain B7.out hb)
  replace Rl := Lib.hid (Rl.out.below hb)
  replace Rc := Lib.hid (Rc.out.below hb)
  replace Rs := Lib.hid (Rs.out.below hb)
  replace Rx := Lib.hid (Rx.out.below hb)
  replace Ry := Lib.hid (Ry.out.below hb)
  replace Rz := Lib.hid (Rz.out.below hb)
  clear hb B7
  go_wp2_with fail
  refine (ssame Az2 Az kz (cl - en) nz zn (xl.drop en) (xl.drop en) _ Rz.out (RZ.out _ Rl.out) Mz.out ZL.out (by rw [Mz.out, ← ZL.out]; omega) rfl).mono ?_
  rintro e w9 ⟨rfl, hb⟩
  have B9 := Lib.hid (chain B8.out hb)
  replace Rl := Lib.hid (Rl.out.below hb)
  replace Rc := Lib.hid (Rc.out.below hb)
  replace Rs := Lib.hid (Rs.out.below hb)
  replace Rx := Lib.hid (Rx.out.below hb)
  replace Ry := Lib.hid (Ry.out.below hb)
  replace Rz := Lib.hid (Rz.out.below hb)
  clear hb B8
  go_wp2_with fail
  go_ret
  exact ⟨rfl, B9.out⟩

end Go.Proofs.Ytlllinpaclodaaa
