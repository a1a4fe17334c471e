/-
  PlainCut: a network that is cut into two is both, one behind the other, each with its own weights.
-/
import Derived.Test.YtbcmhoomdackkaaULaw
import Derived.Test.YtbcmhoomdackkaaRefA
namespace Go.Proofs.Ytbcmhoomdackkaa
open Go.RowKit

theorem cutL_take {w : World} {A : Option Addr} {ls : List Ly} (h : Rl w A ls) (k : Nat) : Rl w A (ls.take k) := fun h0 => by
  rw [List.length_take] at h0
  obtain ⟨b, off, e, hlt, hc⟩ := h (by omega)
  refine ⟨b, off, e, hlt, fun j hj => ?_⟩
  rw [List.length_take] at hj
  have : (ls.take k).getD j Ly.z = ls.getD j Ly.z := by
    rw [List.getD_eq_getElem?_getD, List.getD_eq_getElem?_getD, List.getElem?_take, if_pos (by omega)]
  rw [this]
  exact hc j (by omega)
theorem cutL_drop {w : World} {A : Option Addr} {ls : List Ly} {n cap : Nat} (h : Rl w A ls) (ln : n = ls.length) (hc : n ≤ cap) (k : Nat) : Rl w (if cap = k then A else A.map (·.add (k * 4))) (ls.drop k) := fun h0 => by
  rw [List.length_drop] at h0
  obtain ⟨b, off, rfl, hlt, hcell⟩ := h (by omega)
  rw [if_neg (by omega)]
  refine ⟨b, off + k * 4, by simp [Addr.add], hlt, fun j hj => ?_⟩
  rw [List.length_drop] at hj
  have e1 : (ls.drop k).getD j Ly.z = ls.getD (k + j) Ly.z := by
    rw [List.getD_eq_getElem?_getD, List.getD_eq_getElem?_getD, List.getElem?_drop]
  rw [e1, show off + k * 4 + j * 4 = off + (k + j) * 4 by omega]
  exact hcell (k + j) (by omega)
theorem cutU_take {w : World} {A : Option Addr} {xs : List UInt64} (h : Rg ucells w A xs) (k : Nat) : Rg ucells w A (xs.take k) := fun h0 => by
  rw [List.length_take] at h0
  obtain ⟨b, off, e, hlt, hc⟩ := h (by omega)
  refine ⟨b, off, e, hlt, fun j u hj => hc j u ?_⟩
  have e2 : xs.flatMap ucells = (xs.take k).flatMap ucells ++ (xs.drop k).flatMap ucells := by rw [← List.flatMap_append, List.take_append_drop]
  rw [e2, List.getElem?_append_left (List.getElem?_eq_some_iff.1 hj).1]
  exact hj
theorem cutU_drop {w : World} {A : Option Addr} {xs : List UInt64} {n cap : Nat} (h : Rg ucells w A xs) (ln : n = xs.length) (hc : n ≤ cap) (k : Nat) : Rg ucells w (if cap = k then A else A.map (·.add (k * 1))) (xs.drop k) := fun h0 => by
  rw [List.length_drop] at h0
  obtain ⟨b, off, rfl, hlt, hcell⟩ := h (by omega)
  rw [if_neg (by omega)]
  refine ⟨b, off + k * 1, by simp [Addr.add], hlt, fun j u hj => ?_⟩
  rw [Nat.mul_one, Nat.add_assoc]
  refine hcell (k + j) u ?_
  have e2 : xs.flatMap ucells = (xs.take k).flatMap ucells ++ (xs.drop k).flatMap ucells := by rw [← List.flatMap_append, List.take_append_drop]
  have e3 : ((xs.take k).flatMap ucells).length = k := by rw [flat_len ucells_len, List.length_take]; omega
  rw [e2, List.getElem?_append_right (by omega), e3, Nat.add_sub_cancel_left]
  exact hj
theorem u_to (A : Option Addr) (n cap k : Nat) (h1 : k ≤ n) (h2 : n ≤ cap) (w : World) : (Instr.slice 44 (.slice A n cap) none (some (.int .i64 (k : Int))) none).run Try.prog w = .ok (.slice A k cap) w := by
  have : k ≤ cap := by omega
  first | (go_simp; done) | (go_simp; intro hh; omega) | (rcases A with _ | A <;> go_simp <;> (try intro hh) <;> omega)
theorem lay_to (A : Option Addr) (n cap k : Nat) (h1 : k ≤ n) (h2 : n ≤ cap) (w : World) : (Instr.slice 24 (.slice A n cap) none (some (.int .i64 (k : Int))) none).run Try.prog w = .ok (.slice A k cap) w := by
  have : k ≤ cap := by omega
  first | (go_simp; done) | (go_simp; intro hh; omega) | (rcases A with _ | A <;> go_simp <;> (try intro hh) <;> omega)
theorem u_from (A : Option Addr) (n cap k : Nat) (h1 : k ≤ n) (h2 : n ≤ cap) (w : World) : (Instr.slice 44 (.slice A n cap) (some (.int .i64 (k : Int))) none none).run Try.prog w = .ok (.slice (if cap = k then A else A.map (·.add (k * 1))) (n - k) (cap - k)) w := by
  by_cases hc : cap = k
  · subst hc
    obtain rfl : n = cap := by omega
    go_simp
  · rcases A with _ | ad
    · go_simp
    · go_simp
theorem lay_from (A : Option Addr) (n cap k : Nat) (h1 : k ≤ n) (h2 : n ≤ cap) (w : World) : (Instr.slice 24 (.slice A n cap) (some (.int .i64 (k : Int))) none none).run Try.prog w = .ok (.slice (if cap = k then A else A.map (·.add (k * 4))) (n - k) (cap - k)) w := by
  by_cases hc : cap = k
  · subst hc
    obtain rfl : n = cap := by omega
    go_simp
  · rcases A with _ | ad
    · go_simp
    · go_simp
/-- What a network that is cut makes: both parts. -/
theorem cut_facts {c h x : Int} {ls : List Ly} {xs ws : List UInt64} (ok : okF ⟨c, h, x, ls⟩ xs ws = true) {k : Nat} (hk : k ≤ ls.length) :
    ∃ (d : Nat) (E : Sh) (ub : List UInt64), totW (knN ⟨c, h, x, ls.take k⟩) = (d : Int) ∧ d ≤ ws.length ∧ E = endS ⟨c, h, x⟩ (ls.take k) ∧ (shN ⟨c, h, x, ls⟩)[k]? = some E ∧
      okF ⟨c, h, x, ls.take k⟩ xs (ws.take d) = true ∧ fN ⟨c, h, x, ls.take k⟩ xs (ws.take d) = ub ∧
      okF ⟨E.c, E.h, E.x, ls.drop k⟩ ub (ws.drop d) = true ∧ fN ⟨E.c, E.h, E.x, ls.drop k⟩ ub (ws.drop d) = fN ⟨c, h, x, ls⟩ xs ws := by
  obtain ⟨e, h1, h2⟩ := okF_out ok
  have em := cut_ok k e
  have w0 := (sum_all e k).1
  obtain ⟨d, hd⟩ : ∃ d : Nat, (d : Int) = sumW ⟨c, h, x⟩ (ls.take k) := ⟨(sumW ⟨c, h, x⟩ (ls.take k)).toNat, by omega⟩
  have er := rest_ok k e
  have tm := (tots em).1
  have tr := (tots er).1
  have tn := (tots e).1
  have wa := w_app (ls.take k) (ls.drop k) ⟨c, h, x⟩
  rw [List.take_append_drop] at wa
  obtain ⟨E, hE⟩ : ∃ E, E = endS ⟨c, h, x⟩ (ls.take k) := ⟨_, rfl⟩
  rw [← hE] at er tr wa
  have tr : totW (knN ⟨E.c, E.h, E.x, ls.drop k⟩) = sumW E (ls.drop k) := tr
  obtain ⟨r, f3, t, _⟩ := ok_all e
  have r : (⟨c, h, x⟩ : Sh).r = true := r
  have a1 := f3
  have t1 := t
  rw [← List.take_append_drop k ls] at a1 t1
  rw [fit_app, Bool.and_eq_true] at t1
  obtain ⟨q1, q2⟩ := all_parts a1
  have nn := (sums_nn (end_right _ _ r q1 t1.1) q2 t1.2).1
  rw [← hE] at nn
  have dl : d ≤ ws.length := by omega
  have okm : okF ⟨c, h, x, ls.take k⟩ xs (ws.take d) = true := decide_eq_true ⟨em, h1, by rw [List.length_take, tm, ← hd]; omega⟩
  have fm : fN ⟨c, h, x, ls.take k⟩ xs (ws.take d) = runN ⟨c, h, x, ls⟩ ws k xs := by
    rw [f_yes okm]
    show runN _ _ (ls.take k).length xs = _
    rw [List.length_take, Nat.min_eq_left hk]
    exact run_take e k ws hd hk xs k (Nat.le_refl _)
  have okr : okF ⟨E.c, E.h, E.x, ls.drop k⟩ (runN ⟨c, h, x, ls⟩ ws k xs) (ws.drop d) = true := decide_eq_true ⟨er, by
    have := run_len e ws h1 k hk
    rw [← hE] at this
    exact this, by rw [List.length_drop, tr]; omega⟩
  refine ⟨d, E, _, by rw [tm, hd], dl, hE, by rw [shN_ok e, hE]; exact sh_get ls _ k hk, okm, fm, okr, ?_⟩
  rw [f_yes okr, f_yes ok]
  show runN _ _ (ls.drop k).length _ = runN _ _ ls.length xs
  rw [List.length_drop, run_rest e k ws hd hk hE xs (ls.length - k) (by omega), show k + (ls.length - k) = ls.length by omega]

set_option maxHeartbeats 4000000 in
set_option maxRecDepth 100000 in
theorem law_pcut (c h x : Int) (A : Option Addr) (cA n : Nat) (ls : List Ly) (a : Int) (X W : Option Addr) (cX nx cW nw : Nat) (xs ws : List UInt64) (w : World) (hx : Rl w A ls) (ln : n = ls.length) (hcap : n ≤ cA) (_hmax : cA ≤ maxLen) (ba : 0 ≤ a ∧ a ≤ 255) (hX : Rg ucells w X xs) (lX : nx = xs.length) (_capX : nx ≤ cX) (hW : Rg ucells w W ws) (lW : nw = ws.length) (capW : nw ≤ cW) :
    Calls Try.prog 11 #[.agg #[.int .i64 c, .int .i64 h, .int .i64 x, .slice A n cA], .slice X nx cX, .slice W nw cW, .int .u8 a] w fun e w' => e = .returned (.bool true) ∧ Below w.heap.size w w' := by
  have HRL := Lib.hid hx; have LRL := Lib.hid ln
  have HX := Lib.hid hX; have LX := Lib.hid lX
  have HW := Lib.hid hW; have LW := Lib.hid lW
  clear hx ln hX lX hW lW
  obtain ⟨ba0, ba1⟩ := ba
  go_enter Try.func11, Try.ntmps11
  go_wp2_with fail
  clear _hmax _capX
  refine (head7_any _).mono ?_
  rintro e w1 ⟨rfl, hb⟩
  have B1 := Lib.hid (chain ((Below.refl w.heap.size w).alloc (Nat.le_refl _) _) hb)
  have N1 := Lib.hid ((NB.new w c h x (.slice A n cA)).below hb)
  clear hb
  obtain ⟨c0, c1, c2, c3⟩ := N1.out.cells
  by_cases hg : 60 < n ∨ 3000 < nx ∨ 3000 < nw
  · have hgr : (anyB [⟨X, nx, cX⟩, ⟨W, nw, cW⟩] || decide (60 < (n : Int))) = true := by unfold anyB; simp; omega
    go_wp2_with fail
    refine (great7_any c h x A cA n _ 2 _ [⟨X, nx, cX⟩, ⟨W, nw, cW⟩] _ true hgr (rg_block (heap_alloc_new _ _) rfl) rfl (by decide)).mono ?_
    rintro e w2 ⟨rfl, hb⟩
    have hb := ((Below.refl w1.heap.size w1).alloc (Nat.le_refl _) _).trans (hb.mono (by simp))
    have B2 := Lib.hid (chain B1.out hb)
    have N2 := Lib.hid (N1.out.below hb)
    clear hb c0 c1 c2 c3 B1 N1
    obtain ⟨c0, c1, c2, c3⟩ := N2.out.cells
    clear hg hgr
    go_wp2_with fail
    go_ret
    exact ⟨rfl, B2.out⟩
  have hgr : (anyB [⟨X, nx, cX⟩, ⟨W, nw, cW⟩] || decide (60 < (n : Int))) = false := by unfold anyB; simp; omega
  have hn60 : n ≤ 60 := by omega
  have hn1 : n ≤ 1000 := by omega
  have bX : nx ≤ 3000 := by omega
  have bW : nw ≤ 3000 := by omega
  go_wp2_with fail
  refine (great7_any c h x A cA n _ 2 _ [⟨X, nx, cX⟩, ⟨W, nw, cW⟩] _ false hgr (rg_block (heap_alloc_new _ _) rfl) rfl (by decide)).mono ?_
  rintro e w2 ⟨rfl, hb⟩
  have hb := ((Below.refl w1.heap.size w1).alloc (Nat.le_refl _) _).trans (hb.mono (by simp))
  have B2 := Lib.hid (chain B1.out hb)
  have N2 := Lib.hid (N1.out.below hb)
  clear hb c0 c1 c2 c3 B1 N1
  obtain ⟨c0, c1, c2, c3⟩ := N2.out.cells
  clear hg hgr
  obtain ⟨er, her⟩ : ∃ er, er = errN ⟨c, h, x, ls⟩ := ⟨_, rfl⟩
  obtain ⟨tw, htw⟩ : ∃ tw, tw = totW (knN ⟨c, h, x, ls⟩) := ⟨_, rfl⟩
  obtain ⟨tp, htp⟩ : ∃ tp, tp = totP (knN ⟨c, h, x, ls⟩) := ⟨_, rfl⟩
  have HER := Lib.hid her; have HTW := Lib.hid htw; have HTP := Lib.hid htp
  clear her htw htp
  go_wp2_with fail
  refine (rright_of c h x A cA n ls _ (HRL.out.below B2.out) LRL.out hn1).mono ?_
  rintro e w3 ⟨rfl, hb⟩
  rw [← HER.out]
  have B3 := Lib.hid (chain B2.out hb)
  have N3 := Lib.hid (N2.out.below hb)
  clear hb c0 c1 c2 c3 B2 N2
  obtain ⟨c0, c1, c2, c3⟩ := N3.out.cells
  by_cases h0 : ¬ er = 0
  · have b0 : (er == 0) = false := by simpa using h0
    clear h0
    go_wp2_with fail
    go_ret
    exact ⟨rfl, B3.out⟩
  have h0 : er = 0 := by omega
  have b0 : (er == 0) = true := by rw [h0]; rfl
  have he : errN ⟨c, h, x, ls⟩ = 0 := HER.out.symm.trans h0
  have HE := Lib.hid he
  clear h0 he
  go_wp2_with fail
  refine (rall_of c h x A cA n ls _ (HRL.out.below B3.out) LRL.out hn1).mono ?_
  rintro e w4 ⟨rfl, hb⟩
  rw [← HTW.out, ← HTP.out]
  have B4 := Lib.hid (chain B3.out hb)
  have N4 := Lib.hid (N3.out.below hb)
  clear hb c0 c1 c2 c3 B3 N3
  obtain ⟨c0, c1, c2, c3⟩ := N4.out.cells
  clear b0
  by_cases hw : ¬ (nw : Int) = tw
  · have b2 : ((nw : Int) != tw) = true := by simpa using hw
    clear hw
    go_wp2_with fail
    go_ret
    exact ⟨rfl, B4.out⟩
  have hw : (nw : Int) = tw := Decidable.not_not.1 hw
  have b2 : ((nw : Int) != tw) = false := by rw [hw]; simp
  have r0 : (⟨c, h, x⟩ : Sh).r = true := (ok_all HE.out).1
  obtain ⟨r1, r2, r3, r4, r5, r6, r7⟩ := right_bd r0
  have r1 : 1 ≤ c := r1
  have r2 : c ≤ 8 := r2
  have r3 : 1 ≤ h := r3
  have r4 : h ≤ 12 := r4
  have hn := Sh.n_eq r0
  obtain ⟨s, hs⟩ : ∃ s, s = (⟨c, h, x⟩ : Sh).n := ⟨_, rfl⟩
  obtain ⟨m, hm⟩ : ∃ m, m = c * h := ⟨_, rfl⟩
  have m1 := mul_bd (show 0 ≤ c by omega) r2 (show 0 ≤ h by omega) r4
  have m2 := size_bd ⟨c, h, x⟩
  rw [← hm] at m1
  rw [← hs] at m2
  have hn : s = m * x := by rw [hs, hn, hm]
  have v1 : IntKind.i64.wrap (c * h) = m := by rw [← hm, IntWalk.i64_in _ (by omega)]
  have v2 : wrap64 (c * h) = m := by rw [← hm, IntWalk.wrap64_in _ (by omega)]
  have v3 : IntKind.i64.wrap (m * x) = s := by rw [← hn, IntWalk.i64_in _ (by omega)]
  have v4 : wrap64 (m * x) = s := by rw [← hn, IntWalk.wrap64_in _ (by omega)]
  have HS := Lib.hid hs
  have HWN := Lib.hid hw
  clear hn hs hm m1 m2 r0 r1 r2 r3 r4 r5 r6 r7 hw
  by_cases hx : ¬ (nx : Int) = s
  · have b1 : ((nx : Int) != s) = true := by simpa using hx
    clear hx
    go_wp2_with fail
    go_ret
    exact ⟨rfl, B4.out⟩
  have hx : (nx : Int) = s := Decidable.not_not.1 hx
  have b1 : ((nx : Int) != s) = false := by rw [hx]; simp
  have hok : okF ⟨c, h, x, ls⟩ xs ws = true := decide_eq_true ⟨HE.out, by rw [← LX.out]; exact hx.trans HS.out, by rw [← LW.out]; exact HWN.out.trans HTW.out⟩
  obtain ⟨kk, hkk⟩ : ∃ kk : Nat, a % ((n : Int) + 1) = (kk : Int) := ⟨(a % ((n : Int) + 1)).toNat, by have := Int.emod_nonneg a (show ((n : Int) + 1) ≠ 0 by omega); omega⟩
  have hkn : kk ≤ n := by have := Int.emod_lt_of_pos a (show 0 < (n : Int) + 1 by omega); omega
  have hk2 : a.tmod ((n : Int) + 1) = (kk : Int) := by rw [Int.tmod_eq_emod_of_nonneg ba0]; exact hkk
  have hn0 : ¬ (n : Int) + 1 = 0 := by omega
  obtain ⟨d, E, ub, hd1, hd2, hd3, hd4, hd5, hd6, hd7, hd8⟩ := cut_facts hok (k := kk) (by rw [← LRL.out]; exact hkn)
  obtain ⟨ua, hua⟩ : ∃ u, fN ⟨c, h, x, ls⟩ xs ws = u := ⟨_, rfl⟩
  rw [hua] at hd8
  rw [← LW.out] at hd2
  have OKN := Lib.hid hok; have HUA := Lib.hid hua; have D1 := Lib.hid hd1; have D4 := Lib.hid hd4; have D5 := Lib.hid hd5; have D6 := Lib.hid hd6; have D7 := Lib.hid hd7; have D8 := Lib.hid hd8
  have UA8 : Hid (ua.length ≤ 128) := by
    rw [← hua, f_yes hok]
    show (runN ⟨c, h, x, ls⟩ ws ls.length xs).length ≤ 128
    have h1 := run_len HE.out ws (okF_out hok).2.1 ls.length (Nat.le_refl _)
    have h2 := size_bd (endS ⟨c, h, x⟩ (ls.take ls.length))
    omega
  obtain ⟨tq, htq⟩ : ∃ tq, tq = totP (knN ⟨c, h, x, ls.take kk⟩) := ⟨_, rfl⟩
  have HTQ := Lib.hid htq
  have LK : Hid (kk = (ls.take kk).length) := by show _ = _; rw [List.length_take, ← LRL.out]; omega
  have LD : Hid (n - kk = (ls.drop kk).length) := by show _ = _; rw [List.length_drop, ← LRL.out]
  have LWT : Hid (d = (ws.take d).length) := by show _ = _; rw [List.length_take, ← LW.out]; omega
  have LWD : Hid (nw - d = (ws.drop d).length) := by show _ = _; rw [List.length_drop, ← LW.out]
  have hsl := lay_to A n cA kk hkn hcap
  clear hx hok hd1 hd3 hd4 hd5 hd6 hd7 hd8 hua htq
  go_wp2_with fail
  refine (rshapes_any c h x A cA n ls _ (HRL.out.below B4.out) LRL.out hn1).mono ?_
  rintro e w5 ⟨A5, k5, n5, rfl, hn5, hR5, hb, hc5, hm5⟩
  rw [← HER.out]
  rw [shN_ok HE.out] at hR5 hn5
  rw [sh_len, ← LRL.out] at hn5
  obtain ⟨b5, o5, rfl, l5, q5⟩ := hR5 (by rw [sh_len]; omega)
  have g5 := D4.out
  rw [shN_ok HE.out] at g5
  obtain ⟨y0, y1, y2⟩ := sh_at q5 g5
  have kn5 : (kk : Int) < (n5 : Int) := by omega
  have kn5' : kk < n5 := by omega
  clear hn5 hc5 hm5 hR5 q5 g5 b1 b2 v1 v2 v3 v4 hkk hk2 hn0
  have B5 := Lib.hid (chain B4.out hb)
  have N5 := Lib.hid (N4.out.below hb)
  clear hb c0 c1 c2 c3 B4 N4
  obtain ⟨c0, c1, c2, c3⟩ := N5.out.cells
  have lw := N5.out.lt
  go_wp2_with fail
  go_region
  have hM := (NB.new w5 c h x (.slice A kk cA))
  have l5b := l5
  have B6 : Hid (Below w.heap.size w (w5.alloc (.cells #[.int .i64 c, .int .i64 h, .int .i64 x, .slice A kk cA] 26)).drew) := (chain_alloc B5.out _).drew
  have N6 : Hid (NB (w5.alloc (.cells #[.int .i64 c, .int .i64 h, .int .i64 x, .slice A kk cA] 26)).drew w.heap.size c h x (.slice A n cA)) := (N5.out.alloc _).drew
  have M6 : Hid (NB (w5.alloc (.cells #[.int .i64 c, .int .i64 h, .int .i64 x, .slice A kk cA] 26)).drew w5.heap.size c h x (.slice A kk cA)) := hM.drew
  have SS : Below w5.heap.size w5 (w5.alloc (.cells #[.int .i64 c, .int .i64 h, .int .i64 x, .slice A kk cA] 26)).drew := ((Below.refl _ w5).alloc (Nat.le_refl _) _).drew
  have y0 := (SS.cell (p := ⟨b5, o5 + kk * 3, none⟩) l5).trans y0
  have y1 := (SS.cell (p := ⟨b5, o5 + kk * 3 + 1, none⟩) l5).trans y1
  have y2 := (SS.cell (p := ⟨b5, o5 + kk * 3 + 2, none⟩) l5).trans y2
  have l5 := Nat.lt_of_lt_of_le l5 SS.size
  clear B5 N5 c0 c1 c2 c3 hM hsl lw SS l5b
  generalize (w5.alloc (.cells #[.int .i64 c, .int .i64 h, .int .i64 x, .slice A kk cA] 26)).drew = w6 at B6 N6 M6 y0 y1 y2 l5 ⊢
  obtain ⟨mb, hmb⟩ : ∃ mb, mb = w5.heap.size := ⟨_, rfl⟩
  rw [← hmb] at M6 ⊢
  clear hmb
  obtain ⟨c0, c1, c2, c3⟩ := N6.out.cells
  obtain ⟨d0, d1, d2, d3⟩ := M6.out.cells
  go_wp2_with fail
  refine (rall_of c h x A cA kk (ls.take kk) _ (cutL_take (HRL.out.below B6.out) kk) LK.out (by omega)).mono ?_
  rintro e w7 ⟨rfl, hb⟩
  rw [D1.out, ← HTQ.out]
  have M7 := Lib.hid (M6.out.below hb)
  have y0 := (hb.cell (p := ⟨b5, o5 + kk * 3, none⟩) l5).trans y0
  have y1 := (hb.cell (p := ⟨b5, o5 + kk * 3 + 1, none⟩) l5).trans y1
  have y2 := (hb.cell (p := ⟨b5, o5 + kk * 3 + 2, none⟩) l5).trans y2
  have l5 := Nat.lt_of_lt_of_le l5 hb.size
  clear d0 d1 d2 d3 M6
  obtain ⟨d0, d1, d2, d3⟩ := M7.out.cells
  have B7 := Lib.hid (chain B6.out hb)
  have N7 := Lib.hid (N6.out.below hb)
  clear hb c0 c1 c2 c3 B6 N6
  obtain ⟨c0, c1, c2, c3⟩ := N7.out.cells
  go_wp2_with fail
  refine (F_any c h x A X W cA n cX nx cW nw ls xs ws ua true _ (HRL.out.below B7.out) LRL.out hn1 (HX.out.below B7.out) LX.out (HW.out.below B7.out) LW.out HUA.out OKN.out).mono ?_
  rintro e w8 ⟨Aa, ka, na, rfl, h1, h2, hb, h4, h5⟩
  have Ma := Lib.hid h1; have Qa := Lib.hid h2
  clear h1 h2 h4 h5
  have M8 := Lib.hid (M7.out.below hb)
  have y0 := (hb.cell (p := ⟨b5, o5 + kk * 3, none⟩) l5).trans y0
  have y1 := (hb.cell (p := ⟨b5, o5 + kk * 3 + 1, none⟩) l5).trans y1
  have y2 := (hb.cell (p := ⟨b5, o5 + kk * 3 + 2, none⟩) l5).trans y2
  have l5 := Nat.lt_of_lt_of_le l5 hb.size
  clear d0 d1 d2 d3 M7
  obtain ⟨d0, d1, d2, d3⟩ := M8.out.cells
  have B8 := Lib.hid (chain B7.out hb)
  have N8 := Lib.hid (N7.out.below hb)
  clear hb c0 c1 c2 c3 B7 N7
  obtain ⟨c0, c1, c2, c3⟩ := N8.out.cells
  have hto := u_to W nw cW d hd2 capW
  go_wp2_with fail
  have HC0 : Hid (Below w8.heap.size w8 w8.drew) := below_drew w8
  have BC0 := Lib.hid (chain B8.out HC0.out)
  have lM := M8.out.lt
  have tok1 : True := trivial
  go_region_held3 (fun w' => w'.cell? ⟨mb, 0, none⟩ = some (.int .i64 c) ∧ w'.cell? ⟨mb, 1, none⟩ = some (.int .i64 h) ∧ w'.cell? ⟨mb, 2, none⟩ = some (.int .i64 x) ∧ w'.cell? ⟨mb, 3, none⟩ = some (.slice A kk cA))
    (first | exact ⟨q0, q1, q2, q3⟩ | go_keep)
    (first
      | ((have _t := tok1; clear tok1; go_at_call 28; (with_reducible refine (F_any c h x A X W cA kk cX nx cW d (ls.take kk) xs (ws.take d) ub true _ (cutL_take (HRL.out.below BC0.out) kk) LK.out (by omega) (HX.out.below BC0.out) LX.out (cutU_take (HW.out.below BC0.out) d) LWT.out D6.out D5.out).mono ?_); rintro e w9 ⟨Ab, kb, nb, rfl, h1, h2, hb2, h4, h5⟩
          have Mb := Lib.hid h1; have Qb := Lib.hid h2
          have HC1 := Lib.hid (HC0.out.trans (hb2.mono HC0.out.size))
          have q0 := (HC1.out.cell (p := ⟨mb, 0, none⟩) lM).trans d0
          have q1 := (HC1.out.cell (p := ⟨mb, 1, none⟩) lM).trans d1
          have q2 := (HC1.out.cell (p := ⟨mb, 2, none⟩) lM).trans d2
          have q3 := (HC1.out.cell (p := ⟨mb, 3, none⟩) lM).trans d3
          clear hb2 h1 h2 h4 h5))
      | fail)
  have hb : Below w8.heap.size w8 w9 := HC1.out
  clear q0 q1 q2 q3 HC0 HC1 BC0 lM hto
  have M9 := Lib.hid (M8.out.below hb)
  have y0 := (hb.cell (p := ⟨b5, o5 + kk * 3, none⟩) l5).trans y0
  have y1 := (hb.cell (p := ⟨b5, o5 + kk * 3 + 1, none⟩) l5).trans y1
  have y2 := (hb.cell (p := ⟨b5, o5 + kk * 3 + 2, none⟩) l5).trans y2
  have l5 := Nat.lt_of_lt_of_le l5 hb.size
  clear d0 d1 d2 d3 M8
  obtain ⟨d0, d1, d2, d3⟩ := M9.out.cells
  have B9 := Lib.hid (chain B8.out hb)
  have N9 := Lib.hid (N8.out.below hb)
  have Qa := Lib.hid (Qa.out.below hb)
  clear hb c0 c1 c2 c3 B8 N8
  obtain ⟨c0, c1, c2, c3⟩ := N9.out.cells
  have hfr := lay_from A n cA kk hkn hcap
  have hfu := u_from W nw cW d hd2 capW
  have LDR := Lib.hid (cutL_drop (HRL.out.below (chain B9.out (below_drew w9))) LRL.out hcap kk)
  have UDR := Lib.hid (cutU_drop (HW.out.below (chain B9.out (below_drew w9))) LW.out capW d)
  have QBD := Lib.hid (Qb.out.below (below_drew w9))
  obtain ⟨AR, hAR⟩ : ∃ AR, AR = (if cA = kk then A else A.map (·.add (kk * 4))) := ⟨_, rfl⟩
  obtain ⟨WR, hWR⟩ : ∃ WR, WR = (if cW = d then W else W.map (·.add (d * 1))) := ⟨_, rfl⟩
  obtain ⟨nR, hnR⟩ : ∃ nR, nR = n - kk := ⟨_, rfl⟩
  obtain ⟨cR, hcR⟩ : ∃ cR, cR = cA - kk := ⟨_, rfl⟩
  obtain ⟨nV, hnV⟩ : ∃ nV, nV = nw - d := ⟨_, rfl⟩
  obtain ⟨cV, hcV⟩ : ∃ cV, cV = cW - d := ⟨_, rfl⟩
  have nR1 : nR ≤ 1000 := by omega
  have ka0 : (0 : Int) ≤ (kk : Int) := by omega
  rw [← hAR] at LDR hfr
  rw [← hWR] at UDR hfu
  rw [← hnR] at LD hfr
  rw [← hcR] at hfr
  rw [← hnV] at LWD hfu
  rw [← hcV] at hfu
  clear hAR hWR hnR hcR hnV hcV
  have lN := N9.out.lt
  go_wp2_with fail
  have HC0 : Hid (Below w9.heap.size w9 w9.drew) := below_drew w9
  have tok1 : True := trivial
  go_region_held3 (fun w' => w'.cell? ⟨w.heap.size, 0, none⟩ = some (.int .i64 c) ∧ w'.cell? ⟨w.heap.size, 1, none⟩ = some (.int .i64 h) ∧ w'.cell? ⟨w.heap.size, 2, none⟩ = some (.int .i64 x) ∧ w'.cell? ⟨w.heap.size, 3, none⟩ = some (.slice A n cA) ∧ w'.cell? ⟨b5, o5 + kk * 3, none⟩ = some (.int .i64 E.c) ∧ w'.cell? ⟨b5, o5 + kk * 3 + 1, none⟩ = some (.int .i64 E.h) ∧ w'.cell? ⟨b5, o5 + kk * 3 + 2, none⟩ = some (.int .i64 E.x))
    (first | exact ⟨q0, q1, q2, q3, q4, q5, q6⟩ | go_keep)
    (first
      | ((have _t := tok1; clear tok1; go_at_call 28; (with_reducible refine (F_any E.c E.h E.x AR Ab WR cR nR kb nb cV nV (ls.drop kk) ub (ws.drop d) ua true _ LDR.out LD.out nR1 QBD.out Mb.out UDR.out LWD.out D8.out D7.out).mono ?_); rintro e w10 ⟨Ac, kc, nc, rfl, h1, h2, hb2, h4, h5⟩
          have Mc := Lib.hid h1; have Qc := Lib.hid h2
          have HC1 := Lib.hid (HC0.out.trans (hb2.mono HC0.out.size))
          have q0 := (HC1.out.cell (p := ⟨w.heap.size, 0, none⟩) lN).trans c0
          have q1 := (HC1.out.cell (p := ⟨w.heap.size, 1, none⟩) lN).trans c1
          have q2 := (HC1.out.cell (p := ⟨w.heap.size, 2, none⟩) lN).trans c2
          have q3 := (HC1.out.cell (p := ⟨w.heap.size, 3, none⟩) lN).trans c3
          have q4 := (HC1.out.cell (p := ⟨b5, o5 + kk * 3, none⟩) l5).trans y0
          have q5 := (HC1.out.cell (p := ⟨b5, o5 + kk * 3 + 1, none⟩) l5).trans y1
          have q6 := (HC1.out.cell (p := ⟨b5, o5 + kk * 3 + 2, none⟩) l5).trans y2
          clear hb2 h1 h2 h4 h5))
      | fail)
  have hb : Below w9.heap.size w9 w10 := HC1.out
  clear q0 q1 q2 q3 q4 q5 q6 HC0 HC1 lN hfr hfu
  have M10 := Lib.hid (M9.out.below hb)
  have y0 := (hb.cell (p := ⟨b5, o5 + kk * 3, none⟩) l5).trans y0
  have y1 := (hb.cell (p := ⟨b5, o5 + kk * 3 + 1, none⟩) l5).trans y1
  have y2 := (hb.cell (p := ⟨b5, o5 + kk * 3 + 2, none⟩) l5).trans y2
  have l5 := Nat.lt_of_lt_of_le l5 hb.size
  clear d0 d1 d2 d3 M9
  obtain ⟨d0, d1, d2, d3⟩ := M10.out.cells
  have B10 := Lib.hid (chain B9.out hb)
  have N10 := Lib.hid (N9.out.below hb)
  have Qa := Lib.hid (Qa.out.below hb)
  have Qb := Lib.hid (Qb.out.below hb)
  clear hb c0 c1 c2 c3 B9 N9
  obtain ⟨c0, c1, c2, c3⟩ := N10.out.cells
  go_wp2_with fail
  refine (usame Aa Ac ka kc na nc _ _ _ Qa.out Qc.out Ma.out Mc.out (by rw [Ma.out]; have := UA8.out; omega) (rfl)).mono ?_
  rintro e w11 ⟨rfl, hb⟩
  have B11 := Lib.hid (chain B10.out hb)
  have N11 := Lib.hid (N10.out.below hb)
  have Qa := Lib.hid (Qa.out.below hb)
  have Qb := Lib.hid (Qb.out.below hb)
  have Qc := Lib.hid (Qc.out.below hb)
  clear hb c0 c1 c2 c3 B10 N10
  obtain ⟨c0, c1, c2, c3⟩ := N11.out.cells
  go_wp2_with fail
  go_ret
  exact ⟨rfl, B11.out⟩

end Go.Proofs.Ytbcmhoomdackkaa
