/-
  ChunkCuts: bytes that are cut, or longer, are no chunk's, but where eight are taken off, or put behind, as often as may be.
-/
import Derived.Test.YtlllinpaclodaaaCHead
namespace Go.Proofs.Ytlllinpaclodaaa
open Go.RowKit

theorem b_to14 (A : Option Addr) (n cap k : Nat) (h1 : k ≤ n) (h2 : n ≤ cap) (w : World) : (Instr.slice 23 (.slice A n cap) none (some (.int .i64 (k : Int))) none).run Try.prog w = .ok (.slice A k cap) w := by
  have : k ≤ cap := by omega
  first | (go_simp; done) | (go_simp; intro hh; omega) | (rcases A with _ | A <;> go_simp <;> (try intro hh) <;> omega)
theorem bg_take {w : World} {A : Option Addr} {xs : List UInt8} (h : Rg bcells w A xs) (k : Nat) : Rg bcells w A (xs.take k) := fun h0 => by
  obtain ⟨b, o, rfl, lt, hc⟩ := h (by rw [List.length_take] at h0; omega)
  refine ⟨b, o, rfl, lt, fun j u hu => hc j u ?_⟩
  have hj := (List.getElem?_eq_some_iff.1 hu).1
  rw [flat_len bcells_len, Nat.mul_one] at hj
  have g := flat_get bcells_len _ j 0 _ (List.getElem?_eq_getElem hj) (by omega)
  rw [Nat.mul_one, Nat.add_zero, hu] at g
  have hl : j < xs.length := by rw [List.length_take] at hj; omega
  have g2 := flat_get bcells_len xs j 0 _ (List.getElem?_eq_getElem hl) (by omega)
  rw [Nat.mul_one, Nat.add_zero] at g2
  rw [g2, g]
  simp
theorem ug_take {w : World} {A : Option Addr} {xs : List UInt64} (h : Rg ucells w A xs) (k : Nat) : Rg ucells w A (xs.take k) := fun h0 => by
  obtain ⟨b, o, rfl, lt, hc⟩ := h (by rw [List.length_take] at h0; omega)
  have := rg_part lt hc 0 k
  rw [List.drop_zero, Nat.add_zero] at this
  exact this h0
theorem u_to14b (A : Option Addr) (n cap k : Nat) (h1 : k ≤ n) (h2 : n ≤ cap) (w : World) : (Instr.slice 22 (.slice A n cap) none (some (.int .i64 (k : Int))) none).run Try.prog w = .ok (.slice A k cap) w := by
  have : k ≤ cap := by omega
  first | (go_simp; done) | (go_simp; intro hh; omega) | (rcases A with _ | A <;> go_simp <;> (try intro hh) <;> omega)

set_option maxHeartbeats 8000000 in
set_option maxRecDepth 100000 in
theorem law_ccuts (h : Int) (Al : Option Addr) (cl nl : Nat) (xl : List UInt64) (m : Int) (w : World) (bh : 0 ≤ h ∧ h ≤ 65535) (bm : 0 ≤ m ∧ m ≤ 255) (hl : Rg ucells w Al xl) (ll : nl = xl.length) (kl : nl ≤ cl) :
    Calls Try.prog 8 #[.int .u16 h, .slice Al nl cl, .int .u8 m] w fun e w' => e = .returned (.bool true) ∧ Below w.heap.size w w' := by
  have Rl := Lib.hid hl; have Ml := Lib.hid ll; have Kl := Lib.hid kl
  clear hl ll kl
  obtain ⟨h0, h1⟩ := bh
  obtain ⟨m0, m1⟩ := bm
  obtain ⟨p, hp⟩ : ∃ p : Nat, h % 60000 = p := ⟨(h % 60000).toNat, by omega⟩
  have p6 : p < 60000 := by omega
  by_cases g0 : nl < 1
  · skip
    have d0 : decide ((nl : Int) < 1) = true := decide_eq_true (by omega)
    have d0' : decide (nl < 1) = true := decide_eq_true g0
    clear g0
    go_enter Try.func8, Try.ntmps8
    go_wp2_with fail
    refine (head14_any _).mono ?_
    rintro e w1 ⟨rfl, hb⟩
    have B1 := Lib.hid hb
    replace Rl := Lib.hid (Rl.out.below hb)
    clear hb
    go_wp2_with fail
    go_ret
    exact ⟨rfl, B1.out⟩
  have d0 : decide ((nl : Int) < 1) = false := decide_eq_false (by omega)
  have d0' : decide (nl < 1) = false := decide_eq_false g0
  by_cases g1 : 6 < nl
  · skip
    have d1 : decide (6 < (nl : Int)) = true := decide_eq_true (by omega)
    have d1' : decide (6 < nl) = true := decide_eq_true g1
    clear g0 g1
    go_enter Try.func8, Try.ntmps8
    go_wp2_with fail
    refine (head14_any _).mono ?_
    rintro e w1 ⟨rfl, hb⟩
    have B1 := Lib.hid hb
    replace Rl := Lib.hid (Rl.out.below hb)
    clear hb
    go_wp2_with fail
    go_ret
    exact ⟨rfl, B1.out⟩
  have d1 : decide (6 < (nl : Int)) = false := decide_eq_false (by omega)
  have d1' : decide (6 < nl) = false := decide_eq_false g1
  have l1 : 1 ≤ nl := by omega
  have l6 : nl ≤ 6 := by omega
  obtain ⟨k, hk⟩ : ∃ k : Nat, m % 60 = k := ⟨(m % 60).toNat, by omega⟩
  have k6 : k < 60 := by omega
  have PO := Lib.hid (small_ok (p := p) p6 (n := nl) l1 l6)
  have PN : Hid (putC (p : Int) xl = laidC p xl) := by
    show _ = _
    have := put_yes (a := (p : Int)) (l := xl) (by rw [← Ml.out]; exact PO.out)
    rwa [Int.toNat_natCast] at this
  have CO := Lib.hid (cuts_ok p6 (l := xl) (by rw [← Ml.out]; exact l1) k6)
  obtain ⟨q, hq⟩ : ∃ q, q = 2 + 8 * nl := ⟨_, rfl⟩
  have q9 : q ≤ 60 := by omega
  have q0 : 0 < q := by omega
  have HQ := Lib.hid hq
  have PL : Hid ((laidC p xl).length = q) := by show _ = _; rw [laid_len, ← Ml.out, hq]
  clear g0 g1 hq
  by_cases c0 : k < 10
  · skip
    have e10 : decide (10 ≤ (k : Int)) = false := decide_eq_false (by omega)
    have e10' : decide (10 ≤ k) = false := decide_eq_false (by omega)
    have OKN : okGet ((longC p xl).take k) = false := by rw [Bool.eq_false_iff]; intro z; have := CO.out.1 z; omega
    have Z := get_no OKN
    have V1 := Lib.hid Z.1; have V2 := Lib.hid Z.2; have V3 := Lib.hid OKN
    clear Z OKN
    clear c0
    go_enter Try.func8, Try.ntmps8
    go_wp2_with fail
    refine (head14_any _).mono ?_
    rintro e w1 ⟨rfl, hb⟩
    have B1 := Lib.hid hb
    replace Rl := Lib.hid (Rl.out.below hb)
    clear hb
    go_wp2_with fail
    refine (put14o (p : Int) Al cl nl xl _ Rl.out Ml.out (by omega)).mono ?_
    rintro e w2 ⟨v, rfl, ho, hb⟩
    rw [PN.out, PL.out] at ho
    obtain ⟨v2, w3, run1, ho2, hb2⟩ := b_zeros_run (m := 60) ho q0 (by decide) (by omega) hb.size
    have hb := hb.trans hb2
    obtain ⟨Ab, cb, rfl, zb, Rb0, K1, _⟩ := own_cap bcells_len (by decide) ho2
    have Rb0 : Rg bcells w3 Ab (longC p xl) := Rb0
    have Rb := Lib.hid (bg_take Rb0 k)
    have kq : k ≤ q + 60 := by omega
    have rto := b_to14 Ab (q + 60) cb k kq K1
    have Mb : Hid (k = ((longC p xl).take k).length) := by show _ = _; rw [List.length_take, long_len, ← Ml.out]; omega
    have hk2 : ¬ ((q : Int) + 60 < (k : Int)) := by omega
    have hk3 : ¬ (q + 60 < k) := by omega
    have Kb : Hid (k ≤ cb) := by show k ≤ cb; omega
    clear ho ho2 hb2 zb Rb0 K1
    go_wp2_with (at_builtin; refine Lib.wpList_append_run _ rfl _ _ _ _ rfl _ _ rfl rfl _ _ run1 ?_)
    have B2 := Lib.hid (chain B1.out hb)
    replace Rl := Lib.hid (Rl.out.below hb)
    clear hb B1
    clear run1
    go_wp2_with fail
    refine (get14 Ab cb k ((longC p xl).take k) _ Rb.out Mb.out (by omega)).mono ?_
    rintro e w3 ⟨Av, kv, nv, rfl, h1, h2, hb, h4, h5⟩
    rw [V2.out] at h1 h2
    rw [V1.out, V3.out]
    have Mv := Lib.hid h1; have Rv := Lib.hid h2; have Kv := Lib.hid h4
    clear h1 h2 h4 h5
    have B3 := Lib.hid (chain B2.out hb)
    replace Rl := Lib.hid (Rl.out.below hb)
    replace Rb := Lib.hid (Rb.out.below hb)
    clear hb B2
    obtain rfl : nv = 0 := Mv.out
    go_wp2_with fail
    go_ret
    exact ⟨rfl, B3.out⟩
  have e10 : decide (10 ≤ (k : Int)) = true := decide_eq_true (by omega)
  have e10' : decide (10 ≤ k) = true := decide_eq_true (by omega)
  by_cases c1 : 50 < k
  · skip
    have e50 : decide ((k : Int) ≤ 50) = false := decide_eq_false (by omega)
    have e50' : decide (k ≤ 50) = false := decide_eq_false (by omega)
    have OKN : okGet ((longC p xl).take k) = false := by rw [Bool.eq_false_iff]; intro z; have := CO.out.1 z; omega
    have Z := get_no OKN
    have V1 := Lib.hid Z.1; have V2 := Lib.hid Z.2; have V3 := Lib.hid OKN
    clear Z OKN
    clear c0 c1
    go_enter Try.func8, Try.ntmps8
    go_wp2_with fail
    refine (head14_any _).mono ?_
    rintro e w1 ⟨rfl, hb⟩
    have B1 := Lib.hid hb
    replace Rl := Lib.hid (Rl.out.below hb)
    clear hb
    go_wp2_with fail
    refine (put14o (p : Int) Al cl nl xl _ Rl.out Ml.out (by omega)).mono ?_
    rintro e w2 ⟨v, rfl, ho, hb⟩
    rw [PN.out, PL.out] at ho
    obtain ⟨v2, w3, run1, ho2, hb2⟩ := b_zeros_run (m := 60) ho q0 (by decide) (by omega) hb.size
    have hb := hb.trans hb2
    obtain ⟨Ab, cb, rfl, zb, Rb0, K1, _⟩ := own_cap bcells_len (by decide) ho2
    have Rb0 : Rg bcells w3 Ab (longC p xl) := Rb0
    have Rb := Lib.hid (bg_take Rb0 k)
    have kq : k ≤ q + 60 := by omega
    have rto := b_to14 Ab (q + 60) cb k kq K1
    have Mb : Hid (k = ((longC p xl).take k).length) := by show _ = _; rw [List.length_take, long_len, ← Ml.out]; omega
    have hk2 : ¬ ((q : Int) + 60 < (k : Int)) := by omega
    have hk3 : ¬ (q + 60 < k) := by omega
    have Kb : Hid (k ≤ cb) := by show k ≤ cb; omega
    clear ho ho2 hb2 zb Rb0 K1
    go_wp2_with (at_builtin; refine Lib.wpList_append_run _ rfl _ _ _ _ rfl _ _ rfl rfl _ _ run1 ?_)
    have B2 := Lib.hid (chain B1.out hb)
    replace Rl := Lib.hid (Rl.out.below hb)
    clear hb B1
    clear run1
    go_wp2_with fail
    refine (get14 Ab cb k ((longC p xl).take k) _ Rb.out Mb.out (by omega)).mono ?_
    rintro e w3 ⟨Av, kv, nv, rfl, h1, h2, hb, h4, h5⟩
    rw [V2.out] at h1 h2
    rw [V1.out, V3.out]
    have Mv := Lib.hid h1; have Rv := Lib.hid h2; have Kv := Lib.hid h4
    clear h1 h2 h4 h5
    have B3 := Lib.hid (chain B2.out hb)
    replace Rl := Lib.hid (Rl.out.below hb)
    replace Rb := Lib.hid (Rb.out.below hb)
    clear hb B2
    obtain rfl : nv = 0 := Mv.out
    go_wp2_with fail
    go_ret
    exact ⟨rfl, B3.out⟩
  have e50 : decide ((k : Int) ≤ 50) = true := decide_eq_true (by omega)
  have e50' : decide (k ≤ 50) = true := decide_eq_true (by omega)
  by_cases c2 : ¬ k % 8 = 2
  · skip
    have OKN : okGet ((longC p xl).take k) = false := by rw [Bool.eq_false_iff]; intro z; have := CO.out.1 z; omega
    have Z := get_no OKN
    have V1 := Lib.hid Z.1; have V2 := Lib.hid Z.2; have V3 := Lib.hid OKN
    clear Z OKN
    have c3 : ¬ (k : Int) % 8 = 2 := by omega
    clear c0 c1 c2
    go_enter Try.func8, Try.ntmps8
    go_wp2_with fail
    refine (head14_any _).mono ?_
    rintro e w1 ⟨rfl, hb⟩
    have B1 := Lib.hid hb
    replace Rl := Lib.hid (Rl.out.below hb)
    clear hb
    go_wp2_with fail
    refine (put14o (p : Int) Al cl nl xl _ Rl.out Ml.out (by omega)).mono ?_
    rintro e w2 ⟨v, rfl, ho, hb⟩
    rw [PN.out, PL.out] at ho
    obtain ⟨v2, w3, run1, ho2, hb2⟩ := b_zeros_run (m := 60) ho q0 (by decide) (by omega) hb.size
    have hb := hb.trans hb2
    obtain ⟨Ab, cb, rfl, zb, Rb0, K1, _⟩ := own_cap bcells_len (by decide) ho2
    have Rb0 : Rg bcells w3 Ab (longC p xl) := Rb0
    have Rb := Lib.hid (bg_take Rb0 k)
    have kq : k ≤ q + 60 := by omega
    have rto := b_to14 Ab (q + 60) cb k kq K1
    have Mb : Hid (k = ((longC p xl).take k).length) := by show _ = _; rw [List.length_take, long_len, ← Ml.out]; omega
    have hk2 : ¬ ((q : Int) + 60 < (k : Int)) := by omega
    have hk3 : ¬ (q + 60 < k) := by omega
    have Kb : Hid (k ≤ cb) := by show k ≤ cb; omega
    clear ho ho2 hb2 zb Rb0 K1
    go_wp2_with (at_builtin; refine Lib.wpList_append_run _ rfl _ _ _ _ rfl _ _ rfl rfl _ _ run1 ?_)
    have B2 := Lib.hid (chain B1.out hb)
    replace Rl := Lib.hid (Rl.out.below hb)
    clear hb B1
    clear run1
    go_wp2_with fail
    refine (get14 Ab cb k ((longC p xl).take k) _ Rb.out Mb.out (by omega)).mono ?_
    rintro e w3 ⟨Av, kv, nv, rfl, h1, h2, hb, h4, h5⟩
    rw [V2.out] at h1 h2
    rw [V1.out, V3.out]
    have Mv := Lib.hid h1; have Rv := Lib.hid h2; have Kv := Lib.hid h4
    clear h1 h2 h4 h5
    have B3 := Lib.hid (chain B2.out hb)
    replace Rl := Lib.hid (Rl.out.below hb)
    replace Rb := Lib.hid (Rb.out.below hb)
    clear hb B2
    obtain rfl : nv = 0 := Mv.out
    go_wp2_with fail
    go_ret
    exact ⟨rfl, B3.out⟩
  have c2 := Decidable.not_not.1 c2
  obtain ⟨n, hn⟩ : ∃ n, n = (k - 2) / 8 := ⟨_, rfl⟩
  obtain ⟨mm, hmm⟩ : ∃ mm, mm = min n nl := ⟨_, rfl⟩
  have OKY : okGet ((longC p xl).take k) = true := CO.out.2 (by omega)
  have Z := get_yes OKY
  have V1 : Hid (getP ((longC p xl).take k) = (p : Int)) := by show _ = _; rw [Z.1, cuts_pos p6 xl (by omega)]
  have V2 := Lib.hid Z.2; have V3 := Lib.hid OKY
  have VN : Hid (manyC ((longC p xl).take k) = n) := by show _ = _; unfold manyC; rw [List.length_take, long_len, ← Ml.out, hn]; omega
  have VE := Lib.hid (cuts_list (p := p) (l := xl) (by rw [← Ml.out]; exact l1) k6 c2 (m := mm) (by rw [← Ml.out, ← hn]; exact hmm))
  have VM1 : Hid (mm = ((listC ((longC p xl).take k)).take mm).length) := by show _ = _; rw [List.length_take, list_len, VN.out]; omega
  have VM2 : Hid (mm = (xl.take mm).length) := by show _ = _; rw [List.length_take, ← Ml.out]; omega
  have EN : Hid (((k : Int) - 2) / 8 = (n : Int)) := by show _ = _; omega
  have HMM := Lib.hid hmm
  have c3 : (k : Int) % 8 = 2 := by omega
  have mm9 : mm ≤ 6 := by omega
  clear Z OKY c0 c1 c2 hn hmm
  have yes9 : True := trivial
  go_enter Try.func8, Try.ntmps8
  go_wp2_with fail
  refine (head14_any _).mono ?_
  rintro e w1 ⟨rfl, hb⟩
  have B1 := Lib.hid hb
  replace Rl := Lib.hid (Rl.out.below hb)
  clear hb
  go_wp2_with fail
  refine (put14o (p : Int) Al cl nl xl _ Rl.out Ml.out (by omega)).mono ?_
  rintro e w2 ⟨v, rfl, ho, hb⟩
  rw [PN.out, PL.out] at ho
  obtain ⟨v2, w3, run1, ho2, hb2⟩ := b_zeros_run (m := 60) ho q0 (by decide) (by omega) hb.size
  have hb := hb.trans hb2
  obtain ⟨Ab, cb, rfl, zb, Rb0, K1, _⟩ := own_cap bcells_len (by decide) ho2
  have Rb0 : Rg bcells w3 Ab (longC p xl) := Rb0
  have Rb := Lib.hid (bg_take Rb0 k)
  have kq : k ≤ q + 60 := by omega
  have rto := b_to14 Ab (q + 60) cb k kq K1
  have Mb : Hid (k = ((longC p xl).take k).length) := by show _ = _; rw [List.length_take, long_len, ← Ml.out]; omega
  have hk2 : ¬ ((q : Int) + 60 < (k : Int)) := by omega
  have hk3 : ¬ (q + 60 < k) := by omega
  have Kb : Hid (k ≤ cb) := by show k ≤ cb; omega
  clear ho ho2 hb2 zb Rb0 K1
  go_wp2_with (at_builtin; refine Lib.wpList_append_run _ rfl _ _ _ _ rfl _ _ rfl rfl _ _ run1 ?_)
  have B2 := Lib.hid (chain B1.out hb)
  replace Rl := Lib.hid (Rl.out.below hb)
  clear hb B1
  clear run1
  go_wp2_with fail
  refine (get14 Ab cb k ((longC p xl).take k) _ Rb.out Mb.out (by omega)).mono ?_
  rintro e w3 ⟨Av, kv, nv, rfl, h1, h2, hb, h4, h5⟩
  rw [V2.out] at h1 h2
  rw [V1.out, V3.out]
  have Mv := Lib.hid h1; have Rv := Lib.hid h2; have Kv := Lib.hid h4
  clear h1 h2 h4 h5
  have B3 := Lib.hid (chain B2.out hb)
  replace Rl := Lib.hid (Rl.out.below hb)
  replace Rb := Lib.hid (Rb.out.below hb)
  clear hb B2
  have hmA : ∀ (ts : Array TypeId) (ty : TypeId) (w : World), (Builtin.min_ ts ty #[.int .i64 (n : Int), .int .i64 (nl : Int)]).run Try.prog w = .ok (.int .i64 (mm : Int)) w := by
    have := HMM.out
    intro ts t w
    simp [Builtin.min_, Builtin.min2]
    repeat' split
    all_goals omega
  have nvn : nv = n := by rw [Mv.out, list_len, VN.out]
  have mv : mm ≤ nv := by have := HMM.out; omega
  have ml : mm ≤ nl := by have := HMM.out; omega
  have e1 := u_to14b Av nv kv mm mv Kv.out
  have e2 := u_to14b Al nl cl mm ml Kl.out
  have en : ((k : Int) - 2) / 8 = (n : Int) := EN.out
  have nvi : (nv : Int) = (n : Int) := by omega
  clear nvn
  go_wp2_with fail
  refine wp_region_noPanic ?_
  refine wp_region_held_drew (S := fun w' => Below w3.drew.heap.size w3.drew w') (by kernel_rfl) (Below.refl _ _) (fun hHeld => ?_)
  have hb := below_drew w3
  generalize w3.drew = w4 at hb hHeld ⊢
  have B4 := Lib.hid (chain B3.out hb)
  replace Rl := Lib.hid (Rl.out.below hb)
  replace Rb := Lib.hid (Rb.out.below hb)
  replace Rv := Lib.hid (Rv.out.below hb)
  clear hb B3
  clear hHeld
  have hHeld : Below w4.heap.size w4 w4 := Below.refl _ _
  refine wpAnyH_take (i := 0) (v := ?vv109) (by simp only [List.getElem?_toArray, List.getElem?_cons_zero]; rfl) (by kernel_rfl) (by kernel_rfl) (by kernel_rfl) (fun _ _ _ h => h) (Or.inl ⟨by rfl, ?yy109⟩) (by assumption) ?rr109
  case yy109 => (intro w' hSw; go_simp; first | done | with_reducible rfl)
  simp only [Act.put, List.setIfInBounds_toArray, List.set_cons_zero, List.set_cons_succ]
  refine wpAnyH_take (i := 1) (v := ?vv110) (by simp only [List.getElem?_toArray, List.getElem?_cons_zero, List.getElem?_cons_succ]; rfl) (by kernel_rfl) (by kernel_rfl) (by kernel_rfl) (fun _ _ _ h => h) (Or.inl ⟨by rfl, ?yy110⟩) (by assumption) ?rr110
  case yy110 => (intro w' hSw; go_simp; first | done | with_reducible rfl)
  simp only [Act.put, List.setIfInBounds_toArray, List.set_cons_zero, List.set_cons_succ]
  refine wpAnyH_take (i := 2) (v := ?vv111) (by simp only [List.getElem?_toArray, List.getElem?_cons_zero, List.getElem?_cons_succ]; rfl) (by kernel_rfl) (by kernel_rfl) (by kernel_rfl) (fun _ _ _ h => h) (Or.inl ⟨by rfl, ?yy111⟩) (by assumption) ?rr111
  case yy111 => (intro w' hSw; go_simp; first | done | with_reducible rfl)
  simp only [Act.put, List.setIfInBounds_toArray, List.set_cons_zero, List.set_cons_succ]
  refine wpAnyH_take (i := 3) (v := ?vv112) (by simp only [List.getElem?_toArray, List.getElem?_cons_zero, List.getElem?_cons_succ]; rfl) (by kernel_rfl) (by kernel_rfl) (by kernel_rfl) (fun _ _ _ h => h) (Or.inl ⟨by rfl, ?yy112⟩) (by assumption) ?rr112
  case yy112 => (intro w' hSw; go_simp; first | done | with_reducible rfl)
  simp only [Act.put, List.setIfInBounds_toArray, List.set_cons_zero, List.set_cons_succ]
  refine wpAnyH_take (i := 4) (v := ?vv113) (by simp only [List.getElem?_toArray, List.getElem?_cons_zero, List.getElem?_cons_succ]; rfl) (by kernel_rfl) (by kernel_rfl) (by kernel_rfl) (fun _ _ _ h => h) (Or.inl ⟨by rfl, ?yy113⟩) (by assumption) ?rr113
  case yy113 => (intro w' hSw; go_simp; first | done | with_reducible rfl)
  simp only [Act.put, List.setIfInBounds_toArray, List.set_cons_zero, List.set_cons_succ]
  refine wpAnyH_take (i := 5) (v := ?vv114) (by simp only [List.getElem?_toArray, List.getElem?_cons_zero, List.getElem?_cons_succ]; rfl) (by kernel_rfl) (by kernel_rfl) (by kernel_rfl) (fun _ _ _ h => h) (Or.inl ⟨by rfl, ?yy114⟩) (by assumption) ?rr114
  case yy114 => (intro w' hSw; go_simp; first | done | with_reducible rfl)
  simp only [Act.put, List.setIfInBounds_toArray, List.set_cons_zero, List.set_cons_succ]
  refine wpAnyH_take (i := 6) (v := ?vv115) (by simp only [List.getElem?_toArray, List.getElem?_cons_zero, List.getElem?_cons_succ]; rfl) (by kernel_rfl) (by kernel_rfl) (by kernel_rfl) (fun _ _ _ h => h) (Or.inl ⟨by rfl, ?yy115⟩) (by assumption) ?rr115
  case yy115 => (intro w' hSw; go_simp; first | done | with_reducible rfl)
  simp only [Act.put, List.setIfInBounds_toArray, List.set_cons_zero, List.set_cons_succ]
  refine wpAnyH_take (i := 7) (v := ?vv116) (by simp only [List.getElem?_toArray, List.getElem?_cons_zero, List.getElem?_cons_succ]; rfl) (by kernel_rfl) (by kernel_rfl) (by kernel_rfl) (fun _ _ _ h => h) (Or.inl ⟨by rfl, ?yy116⟩) (by assumption) ?rr116
  case yy116 => (intro w' hSw; go_simp; first | done | with_reducible rfl)
  simp only [Act.put, List.setIfInBounds_toArray, List.set_cons_zero, List.set_cons_succ]
  refine wpAnyH_take (i := 8) (v := ?vv117) (by simp only [List.getElem?_toArray, List.getElem?_cons_zero, List.getElem?_cons_succ]; rfl) (by kernel_rfl) (by kernel_rfl) (by kernel_rfl) (fun _ _ _ h => h) (Or.inl ⟨by rfl, ?yy117⟩) (by assumption) ?rr117
  case yy117 => (intro w' hSw; go_simp; first | done | with_reducible rfl)
  simp only [Act.put, List.setIfInBounds_toArray, List.set_cons_zero, List.set_cons_succ]
  refine wpAnyH_take (i := 9) (v := ?vv118) (by simp only [List.getElem?_toArray, List.getElem?_cons_zero, List.getElem?_cons_succ]; rfl) (by kernel_rfl) (by kernel_rfl) (by kernel_rfl) (fun _ _ _ h => h) (Or.inl ⟨by rfl, ?yy118⟩) (by assumption) ?rr118
  case yy118 => (intro w' hSw; go_simp; first | done | with_reducible rfl)
  simp only [Act.put, List.setIfInBounds_toArray, List.set_cons_zero, List.set_cons_succ]
  refine wpAnyH_take (i := 10) (v := ?vv119) (by simp only [List.getElem?_toArray, List.getElem?_cons_zero, List.getElem?_cons_succ]; rfl) (by kernel_rfl) (by kernel_rfl) (by kernel_rfl) (fun _ _ _ h => h) (Or.inl ⟨by rfl, ?yy119⟩) (by assumption) ?rr119
  case yy119 => (intro w' hSw; go_simp; first | done | with_reducible rfl)
  simp only [Act.put, List.setIfInBounds_toArray, List.set_cons_zero, List.set_cons_succ]
  refine wpAnyH_take (i := 11) (v := ?vv120) (by simp only [List.getElem?_toArray, List.getElem?_cons_zero, List.getElem?_cons_succ]; rfl) (by kernel_rfl) (by kernel_rfl) (by kernel_rfl) (fun _ _ _ h => h) (Or.inl ⟨by rfl, ?yy120⟩) (by assumption) ?rr120
  case yy120 => (intro w' hSw; go_simp; first | done | with_reducible rfl)
  simp only [Act.put, List.setIfInBounds_toArray, List.set_cons_zero, List.set_cons_succ]
  refine wpAnyH_take (i := 12) (v := ?vv121) (by simp only [List.getElem?_toArray, List.getElem?_cons_zero, List.getElem?_cons_succ]; rfl) (by kernel_rfl) (by kernel_rfl) (by kernel_rfl) (fun _ _ _ h => h) (Or.inl ⟨by rfl, ?yy121⟩) (by assumption) ?rr121
  case yy121 => (intro w' hSw; go_simp; first | done | with_reducible rfl)
  simp only [Act.put, List.setIfInBounds_toArray, List.set_cons_zero, List.set_cons_succ]
  refine wpAnyH_take (i := 13) (v := ?vv122) (by simp only [List.getElem?_toArray, List.getElem?_cons_zero, List.getElem?_cons_succ]; rfl) (by kernel_rfl) (by kernel_rfl) (by kernel_rfl) (fun _ _ _ h => h) (Or.inl ⟨by rfl, ?yy122⟩) (by assumption) ?rr122
  case yy122 => (intro w' hSw; go_simp; first | done | with_reducible rfl)
  simp only [Act.put, List.setIfInBounds_toArray, List.set_cons_zero, List.set_cons_succ]
  refine wpAnyH_take (i := 14) (v := ?vv123) (by simp only [List.getElem?_toArray, List.getElem?_cons_zero, List.getElem?_cons_succ]; rfl) (by kernel_rfl) (by kernel_rfl) (by kernel_rfl) (fun _ _ _ h => h) (Or.inl ⟨by rfl, ?yy123⟩) (by assumption) ?rr123
  case yy123 => (intro w' hSw; go_simp; first | done | with_reducible rfl)
  simp only [Act.put, List.setIfInBounds_toArray, List.set_cons_zero, List.set_cons_succ]
  refine wpAnyH_take (i := 15) (v := ?vv124) (by simp only [List.getElem?_toArray, List.getElem?_cons_zero, List.getElem?_cons_succ]; rfl) (by kernel_rfl) (by kernel_rfl) (by kernel_rfl) (fun _ _ _ h => h) (Or.inl ⟨by rfl, ?yy124⟩) (by assumption) ?rr124
  case yy124 => (intro w' hSw; go_simp; first | done | with_reducible rfl)
  simp only [Act.put, List.setIfInBounds_toArray, List.set_cons_zero, List.set_cons_succ]
  refine wpAnyH_take (i := 16) (v := ?vv125) (by simp only [List.getElem?_toArray, List.getElem?_cons_zero, List.getElem?_cons_succ]; rfl) (by kernel_rfl) (by kernel_rfl) (by kernel_rfl) (fun _ _ _ h => h) (Or.inl ⟨by rfl, ?yy125⟩) (by assumption) ?rr125
  case yy125 => (intro w' hSw; go_simp; first | done | with_reducible rfl)
  simp only [Act.put, List.setIfInBounds_toArray, List.set_cons_zero, List.set_cons_succ]
  refine wpAnyH_take (i := 17) (v := ?vv126) (by simp only [List.getElem?_toArray, List.getElem?_cons_zero, List.getElem?_cons_succ]; rfl) (by kernel_rfl) (by kernel_rfl) (by kernel_rfl) (fun _ _ _ h => h) (Or.inl ⟨by rfl, ?yy126⟩) (by assumption) ?rr126
  case yy126 => (intro w' hSw; go_simp; first | done | with_reducible rfl)
  simp only [Act.put, List.setIfInBounds_toArray, List.set_cons_zero, List.set_cons_succ]
  refine wpAnyH_take (i := 18) (v := ?vv127) (by simp only [List.getElem?_toArray, List.getElem?_cons_zero, List.getElem?_cons_succ]; rfl) (by kernel_rfl) (by kernel_rfl) (by kernel_rfl) (fun _ _ _ h => h) (Or.inl ⟨by rfl, ?yy127⟩) (by assumption) ?rr127
  case yy127 => (intro w' hSw; go_simp; first | done | with_reducible rfl)
  simp only [Act.put, List.setIfInBounds_toArray, List.set_cons_zero, List.set_cons_succ]
  refine wpAnyH_take (i := 19) (v := ?vv128) (by simp only [List.getElem?_toArray, List.getElem?_cons_zero, List.getElem?_cons_succ]; rfl) (by kernel_rfl) (by kernel_rfl) (by kernel_rfl) (fun _ _ _ h => h) (Or.inl ⟨by rfl, ?yy128⟩) (by assumption) ?rr128
  case yy128 => (intro w' hSw; go_simp; first | done | with_reducible rfl)
  simp only [Act.put, List.setIfInBounds_toArray, List.set_cons_zero, List.set_cons_succ]
  refine wpAnyH_take (i := 20) (v := ?vv129) (by simp only [List.getElem?_toArray, List.getElem?_cons_zero, List.getElem?_cons_succ]; rfl) (by kernel_rfl) (by kernel_rfl) (by kernel_rfl) (fun _ _ _ h => h) (Or.inl ⟨by rfl, ?yy129⟩) (by assumption) ?rr129
  case yy129 => (intro w' hSw; go_simp; first | done | with_reducible rfl)
  simp only [Act.put, List.setIfInBounds_toArray, List.set_cons_zero, List.set_cons_succ]
  refine wpAnyH_take (i := 21) (v := ?vv130) (by simp only [List.getElem?_toArray, List.getElem?_cons_zero, List.getElem?_cons_succ]; rfl) (by kernel_rfl) (by kernel_rfl) (by kernel_rfl) (fun _ _ _ h => h) (Or.inl ⟨by rfl, ?yy130⟩) (by assumption) ?rr130
  case yy130 => (intro w' hSw; go_simp; first | done | with_reducible rfl)
  simp only [Act.put, List.setIfInBounds_toArray, List.set_cons_zero, List.set_cons_succ]
  refine wpAnyH_take (i := 22) (v := ?vv131) (by simp only [List.getElem?_toArray, List.getElem?_cons_zero, List.getElem?_cons_succ]; rfl) (by kernel_rfl) (by kernel_rfl) (by kernel_rfl) (fun _ _ _ h => h) (Or.inl ⟨by rfl, ?yy131⟩) (by assumption) ?rr131
  case yy131 => (intro w' hSw; go_simp; first | done | with_reducible rfl)
  simp only [Act.put, List.setIfInBounds_toArray, List.set_cons_zero, List.set_cons_succ]
  refine wpAnyH_take (i := 23) (v := ?vv132) (by simp only [List.getElem?_toArray, List.getElem?_cons_zero, List.getElem?_cons_succ]; rfl) (by kernel_rfl) (by kernel_rfl) (by kernel_rfl) (fun _ _ _ h => h) (Or.inl ⟨by rfl, ?yy132⟩) (by assumption) ?rr132
  case yy132 => (intro w' hSw; go_simp; first | done | with_reducible rfl)
  simp only [Act.put, List.setIfInBounds_toArray, List.set_cons_zero, List.set_cons_succ]
  refine wpAnyH_take (i := 24) (v := ?vv133) (by simp only [List.getElem?_toArray, List.getElem?_cons_zero, List.getElem?_cons_succ]; rfl) (by kernel_rfl) (by kernel_rfl) (by kernel_rfl) (fun _ _ _ h => h) (Or.inl ⟨by rfl, ?yy133⟩) (by assumption) ?rr133
  case yy133 => (intro w' hSw; go_simp; first | done | with_reducible rfl)
  simp only [Act.put, List.setIfInBounds_toArray, List.set_cons_zero, List.set_cons_succ]
  refine wpAnyH_ready (rs := [25]) (by kernel_rfl) (by simp) ?_
  refine AllReadyH.cons (by simp only [List.getElem?_toArray, List.getElem?_cons_zero, List.getElem?_cons_succ]; rfl) (fun K hK => ?_) AllReadyH.nil
  go_simp
  go_at_call 18
  (with_reducible refine (ssame Av Al kv cl mm mm ((listC ((longC p xl).take k)).take mm) (xl.take mm) _ (ug_take Rv.out mm) (ug_take Rl.out mm) VM1.out VM2.out (by omega) VE.out).mono ?_)
  rintro e w5 ⟨rfl, hb⟩
  have hb0 := hb
  go_wp2_with fail
  refine hK.out _ _ hb0 (fun hHeld => ?_)
  clear hK K hHeld
  refine wpAnyH_more (S' := fun w' => Below w5.heap.size w5 w') (fun _ h => chain hb0 h) _ _ _ _ ?_
  clear hb0
  have hHeld : Below w5.heap.size w5 w5 := Below.refl _ _
  try simp only [Act.put, List.setIfInBounds_toArray, List.set_cons_zero, List.set_cons_succ]
  have B5 := Lib.hid (chain B4.out hb)
  replace Rl := Lib.hid (Rl.out.below hb)
  replace Rb := Lib.hid (Rb.out.below hb)
  replace Rv := Lib.hid (Rv.out.below hb)
  clear hb B4
  refine wpAnyH_take (i := 26) (v := ?vv134) (by simp only [List.getElem?_toArray, List.getElem?_cons_zero, List.getElem?_cons_succ]; rfl) (by kernel_rfl) (by kernel_rfl) (by kernel_rfl) (fun _ _ _ h => h) (Or.inl ⟨by rfl, ?yy134⟩) (by assumption) ?rr134
  case yy134 => (intro w' hSw; go_simp; first | done | with_reducible rfl)
  simp only [Act.put, List.setIfInBounds_toArray, List.set_cons_zero, List.set_cons_succ]
  refine wpAnyH_take (i := 27) (v := ?vv135) (by simp only [List.getElem?_toArray, List.getElem?_cons_zero, List.getElem?_cons_succ]; rfl) (by kernel_rfl) (by kernel_rfl) (by kernel_rfl) (fun _ _ _ h => h) (Or.inl ⟨by rfl, ?yy135⟩) (by assumption) ?rr135
  case yy135 => (intro w' hSw; go_simp; first | done | with_reducible rfl)
  simp only [Act.put, List.setIfInBounds_toArray, List.set_cons_zero, List.set_cons_succ]
  refine wpAnyH_done (by kernel_rfl) ?_ _
  refine NoPanic.normal ?_
  clear hHeld
  go_wp2_with fail
  go_ret
  exact ⟨rfl, B5.out⟩

end Go.Proofs.Ytlllinpaclodaaa
