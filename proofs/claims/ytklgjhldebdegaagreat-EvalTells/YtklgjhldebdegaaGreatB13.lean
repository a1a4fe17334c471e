/-
  What the laws of this seat stand on, part 13.
-/
import Derived.Test.YtklgjhldebdegaaGreatB12
import Derived.Deep.RegionHeld3
import Derived.Deep.AppendLies
import Derived.Deep.QuietTactic
import Derived.BigQuiet
import Derived.StillTailTactics
namespace Go.Proofs.YtklgjhldebdegaaGreat
open Go.RowKit

theorem gt_rng {c h x : Int} {ls : List Ly} {j : Nat} (hj : j < (gatesN ⟨c, h, x, ls⟩).length) : (gatesN ⟨c, h, x, ls⟩)[j]? = some (gtN ⟨c, h, x, ls⟩ j) := gt_get hj
/-- A gate's places lie within what goes in, and the weights. -/
theorem gate_in {c h x : Int} {ls : List Ly} (e : errN ⟨c, h, x, ls⟩ = 0) {s : Nat} (hs : s < (stagesN ⟨c, h, x, ls⟩).length) {j : Nat} (hj : j < manyN ⟨c, h, x, ls⟩ s) :
    0 ≤ (gtN ⟨c, h, x, ls⟩ (fromN ⟨c, h, x, ls⟩ s + j)).x ∧ (gtN ⟨c, h, x, ls⟩ (fromN ⟨c, h, x, ls⟩ s + j)).x < inN ⟨c, h, x, ls⟩ (s : Nat) ∧ (gtN ⟨c, h, x, ls⟩ (fromN ⟨c, h, x, ls⟩ s + j)).w < totW (knN ⟨c, h, x, ls⟩) ∧
      0 ≤ (gtN ⟨c, h, x, ls⟩ (fromN ⟨c, h, x, ls⟩ s + j)).a ∧ (gtN ⟨c, h, x, ls⟩ (fromN ⟨c, h, x, ls⟩ s + j)).a < (atN ⟨c, h, x, ls⟩ (stgN ⟨c, h, x, ls⟩ s : Nat)).u.n := by
  obtain ⟨g, k3⟩ := stage_good e hs
  obtain ⟨r1, r2⟩ := stage_range e hs
  have pp := per_pos g k3
  obtain ⟨P, hP⟩ : ∃ P : Nat, perK (atN ⟨c, h, x, ls⟩ (stgN ⟨c, h, x, ls⟩ s : Nat)) = P := ⟨(perK (atN ⟨c, h, x, ls⟩ (stgN ⟨c, h, x, ls⟩ s : Nat))).toNat, by omega⟩
  have ub := size_bd (atN ⟨c, h, x, ls⟩ (stgN ⟨c, h, x, ls⟩ s : Nat)).u
  rw [hP] at r2 pp
  rw [Int.toNat_natCast] at r2
  have p1 : j / P < (atN ⟨c, h, x, ls⟩ (stgN ⟨c, h, x, ls⟩ s : Nat)).u.n.toNat := Nat.div_lt_of_lt_mul (by rw [Nat.mul_comm, ← r2]; exact hj)
  have p2 : j % P < P := Nat.mod_lt _ (by omega)
  obtain ⟨t, ht, hg⟩ := stage_gate e hs p1 (j := j % P) (by rw [hP]; simpa using p2)
  rw [hP, Int.toNat_natCast, Nat.div_add_mod' j P] at hg
  rw [hg]
  obtain ⟨q, hq⟩ : ∃ q, q = j / P := ⟨_, rfl⟩
  rw [← hq] at p1 ht ⊢
  have hh := has_yes (K := atN ⟨c, h, x, ls⟩ (stgN ⟨c, h, x, ls⟩ s : Nat)) (p := ((q : Nat) : Int)) (by omega) (by omega)
  obtain ⟨t1, t2, t3, t4⟩ := terms_rng g hh t (List.mem_of_getElem? ht)
  refine ⟨t1, by rw [in_layer e hs]; exact t2, ?_, by show (0 : Int) ≤ ((q : Nat) : Int); omega, by show ((q : Nat) : Int) < _; omega⟩
  show t.w < _
  have hl := get_ly (stg_at e hs).1
  have tot : (atN ⟨c, h, x, ls⟩ (stgN ⟨c, h, x, ls⟩ s : Nat)).a + (atN ⟨c, h, x, ls⟩ (stgN ⟨c, h, x, ls⟩ s : Nat)).w ≤ totW (knN ⟨c, h, x, ls⟩) := by
    rw [(tots e).1, at_some e hl]
    show sumW ⟨c, h, x⟩ (ls.take (stgN ⟨c, h, x, ls⟩ s)) + wI (endS ⟨c, h, x⟩ (ls.take (stgN ⟨c, h, x, ls⟩ s))) (ls.getD (stgN ⟨c, h, x, ls⟩ s) Ly.z) ≤ _
    obtain ⟨r, f3, t, _⟩ := ok_all e
    have r : (⟨c, h, x⟩ : Sh).r = true := r
    have h1 : ls = ls.take (stgN ⟨c, h, x, ls⟩ s + 1) ++ ls.drop (stgN ⟨c, h, x, ls⟩ s + 1) := (List.take_append_drop _ ls).symm
    have h2 : sumW ⟨c, h, x⟩ (ls.take (stgN ⟨c, h, x, ls⟩ s + 1)) = sumW ⟨c, h, x⟩ (ls.take (stgN ⟨c, h, x, ls⟩ s)) + wI (endS ⟨c, h, x⟩ (ls.take (stgN ⟨c, h, x, ls⟩ s))) (ls.getD (stgN ⟨c, h, x, ls⟩ s) Ly.z) := by
      rw [List.take_add_one, hl, Option.toList, w_app]
      show _ + (_ + 0) = _
      omega
    have h3 : sumW ⟨c, h, x⟩ ls = sumW ⟨c, h, x⟩ (ls.take (stgN ⟨c, h, x, ls⟩ s + 1)) + sumW (endS ⟨c, h, x⟩ (ls.take (stgN ⟨c, h, x, ls⟩ s + 1))) (ls.drop (stgN ⟨c, h, x, ls⟩ s + 1)) := by
      rw [← w_app, List.take_append_drop]
    have a1 := f3
    have t1 := t
    rw [h1] at a1
    have t1 : fitL ⟨c, h, x⟩ (ls.take (stgN ⟨c, h, x, ls⟩ s + 1) ++ ls.drop (stgN ⟨c, h, x, ls⟩ s + 1)) = true := by rw [← h1]; exact t
    rw [fit_app, Bool.and_eq_true] at t1
    obtain ⟨q1, q2⟩ := all_parts a1
    have := (sums_nn (end_right _ _ r q1 t1.1) q2 t1.2).1
    omega
  have := w_pos g.2.1 g.1 g.2.2.1
  have w0 : 0 ≤ (atN ⟨c, h, x, ls⟩ (stgN ⟨c, h, x, ls⟩ s : Nat)).w := this.2.1
  have a0 := g.2.2.2.2.1
  by_cases q : (atN ⟨c, h, x, ls⟩ (stgN ⟨c, h, x, ls⟩ s : Nat)).w = 0
  · have := t3 q; omega
  · have := t4 (by omega); omega

set_option maxHeartbeats 8000000 in
set_option maxRecDepth 100000 in
theorem rline13 (c h x : Int) (A X W : Option Addr) (cA n cX nx cW nw : Nat) (ls : List Ly) (xs ws : List UInt64) (a : Int) (z : UInt64) (s : Int) (w : World) (hx : Rl w A ls) (ln : n = ls.length) (hn : n ≤ 60) (hX : Rg ucells w X xs) (lx : nx = xs.length) (hW : Rg ucells w W ws) (lw : nw = ws.length) :
    Calls Tryz.prog 14 #[.agg #[.int .i64 c, .int .i64 h, .int .i64 x, .slice A n cA], .int .i64 a, .int .u64 (uz z), .int .i64 s, .slice X nx cX, .slice W nw cW] w (PairTo (lineU ⟨c, h, x, ls⟩ a z s xs ws) (okLn ⟨c, h, x, ls⟩ s xs ws) w) := by
  obtain ⟨i0, hi, hz0, hz1, hz2⟩ := info_parts Tryz.info27
  have HX := Lib.hid hx; have LX := Lib.hid ln; have HXR := Lib.hid hX; have LXX := Lib.hid lx; have HWR := Lib.hid hW; have LWW := Lib.hid lw
  have NO : Hid (okLn ⟨c, h, x, ls⟩ s xs ws = false → lineU ⟨c, h, x, ls⟩ a z s xs ws = []) := fun e => if_neg (by rw [e]; decide)
  have hn1 : n ≤ 1000 := by omega
  obtain ⟨tw, htw⟩ : ∃ tw, tw = totW (knN ⟨c, h, x, ls⟩) := ⟨_, rfl⟩
  obtain ⟨kn, hkn⟩ : ∃ kn, kn = inN ⟨c, h, x, ls⟩ s := ⟨_, rfl⟩
  have HTW := Lib.hid htw; have HKN := Lib.hid hkn
  clear hx ln hX lx hW lw htw hkn
  go_enter Tryz.func14, Tryz.ntmps14
  go_wp2_with fail
  refine (rall_of c h x A cA n ls _ (HX.out.below ((Below.refl _ w).alloc (Nat.le_refl _) _)) LX.out hn1).mono ?_
  rintro e w1 ⟨rfl, hb⟩
  rw [← HTW.out]
  have B1 := Lib.hid (chain ((Below.refl w.heap.size w).alloc (Nat.le_refl _) _) hb)
  have N1 := Lib.hid ((NB.new w c h x (.slice A n cA)).below hb)
  clear hb
  obtain ⟨c0, c1, c2, c3⟩ := N1.out.cells
  go_wp2_with fail
  refine (rin13 c h x A cA n ls s _ (HX.out.below B1.out) LX.out hn).mono ?_
  rintro e w2 ⟨rfl, hb⟩
  rw [← HKN.out]
  have B2 := Lib.hid (chain B1.out hb)
  have N2 := Lib.hid (N1.out.below hb)
  clear hb c0 c1 c2 c3 B1 N1
  by_cases hxn : ¬ (nx : Int) = kn
  · have b1 : ((nx : Int) != kn) = true := by simpa using hxn
    have E0 : Hid (okLn ⟨c, h, x, ls⟩ s xs ws = false) := decide_eq_false fun q => hxn (by rw [LXX.out, HKN.out]; exact q.2.1)
    have E1 := Lib.hid (NO.out E0.out)
    clear hxn
    go_wp2_with fail
    go_ret2
    rw [E0.out, E1.out]
    exact ⟨none, 0, 0, rfl, rfl, Rg.nil _ _ _, B2.out, Nat.le_refl _, Nat.zero_le _⟩
  have hxn : (nx : Int) = kn := Decidable.not_not.1 hxn
  have b1 : ((nx : Int) != kn) = false := by rw [hxn]; simp
  by_cases hwn : ¬ (nw : Int) = tw
  · have b2 : ((nw : Int) != tw) = true := by simpa using hwn
    have E0 : Hid (okLn ⟨c, h, x, ls⟩ s xs ws = false) := decide_eq_false fun q => hwn (by rw [LWW.out, HTW.out]; exact q.2.2)
    have E1 := Lib.hid (NO.out E0.out)
    clear hwn hxn
    go_wp2_with fail
    go_ret2
    rw [E0.out, E1.out]
    exact ⟨none, 0, 0, rfl, rfl, Rg.nil _ _ _, B2.out, Nat.le_refl _, Nat.zero_le _⟩
  have hwn : (nw : Int) = tw := Decidable.not_not.1 hwn
  have b2 : ((nw : Int) != tw) = false := by rw [hwn]; simp
  have hst : isSt ⟨c, h, x, ls⟩ s = true := by
    by_cases q : isSt ⟨c, h, x, ls⟩ s = true
    · exact q
    · have := in_no (N := ⟨c, h, x, ls⟩) (s := s) (by simpa using q)
      rw [HKN.out, this] at hxn
      omega
  have hok : okLn ⟨c, h, x, ls⟩ s xs ws = true := decide_eq_true ⟨hst, by rw [← LXX.out, hxn]; exact HKN.out, by rw [← LWW.out, hwn]; exact HTW.out⟩
  obtain ⟨he, s0, s1⟩ := isSt_out hst
  obtain ⟨st, rfl⟩ : ∃ st : Nat, s = st := ⟨s.toNat, by omega⟩
  have HE := Lib.hid he; have HOK := Lib.hid hok
  have kb : 1 ≤ kn ∧ kn ≤ 128 := by
    rw [HKN.out, in_yes he (by omega)]
    obtain ⟨r, f3, t, _⟩ := ok_all he
    exact ⟨size_pos (end_right _ _ r (all_take f3 _) (fit_take t _)), (size_bd _).2⟩
  have nx0 : 0 < nx := by omega
  have nx1 : nx ≤ 128 := by omega
  have SB : Hid (st ≤ (stagesN ⟨c, h, x, ls⟩).length) := by show _ ≤ _; omega
  have HXN := Lib.hid hxn; have HWN := Lib.hid hwn
  clear hst hok he s0 s1 kb NO hxn hwn
  obtain ⟨c0, c1, c2, c3⟩ := N2.out.cells
  go_wp2_with fail
  refine (rstages8 c h x A cA n ls _ (HX.out.below B2.out) LX.out hn).mono ?_
  rintro e w3 ⟨A2, k2, n2, rfl, hn2, hR2, hb, hd1, hd2⟩
  have B3 := Lib.hid (chain B2.out hb)
  have N3 := Lib.hid (N2.out.below hb)
  have L2 := Lib.hid hn2
  clear hb hR2 hn2 hd1 hd2 c0 c1 c2 c3 B2 N2
  by_cases js : st = n2
  · subst js
    have b3 : ((st : Int) == (st : Int)) = true := by simp
    have E1 : Hid (lineU ⟨c, h, x, ls⟩ a z (st : Int) xs ws = xs) := by
      show _ = _
      unfold lineU
      rw [if_pos HOK.out, if_pos (by rw [L2.out])]
    obtain ⟨b, o, rfl, lb, q⟩ := HXR.out (by rw [← LXX.out]; exact nx0)
    have Q := Lib.hid q
    have lb4 := Nat.lt_of_lt_of_le lb B3.out.size
    clear q
    go_wp2_with (at_builtin; refine wpList_append_own_at _ rfl _ _ 28 rfl w3.heap.size 27 i0 (.int .u64 0) 1 8 Tryz.underlying28 hi hz0 hz1 hz2 rfl (by decide) _ 0 [] rfl (own_voidU (heap_alloc_new w3 _) (Nat.le_refl _)) ⟨b, o, none⟩ nx cX (xs.flatMap ucells) rfl ?c0 ?c1 (u_ones xs) ?c3 ?c4 ?c5 ?_)
    case c0 => rw [flat_len ucells_len, LXX.out]
    case c1 => exact u_news fun j u hu => (((Below.refl _ w3).alloc (Nat.le_refl _) _).cell (p := ⟨b, o + j, none⟩) lb4).trans ((B3.out.cell (p := ⟨b, o + j, none⟩) lb).trans (Q.out j u hu))
    case c3 => unfold maxLen; omega
    case c4 => omega
    case c5 => first | omega | simp
    intro v' w5 hown2 hgrow hd1 hd2
    obtain ⟨A5, k5, rfl, e1, e2, e3, e4⟩ := own_cap ucells_len (by decide) hown2
    have hb5 : Below w3.heap.size w3 w5 := ((Below.refl _ w3).alloc (Nat.le_refl _) _).grown hgrow (by simp) (fun q hq => by simp [Value.ownBlock] at hq; omega)
    have B5 := Lib.hid (chain B3.out hb5)
    have E2 := Lib.hid e2; have E3 := Lib.hid e3; have E4 := Lib.hid e4
    clear hown2 hgrow hd1 hd2 e1 e2 e3 e4 hb5 lb4 B3 N3
    go_wp2_with fail
    go_ret2
    rw [HOK.out, E1.out]
    exact ⟨A5, k5, nx, rfl, LXX.out, E2.out, B5.out, E3.out, E4.out⟩
  have b3 : ((st : Int) == (n2 : Int)) = false := by simp; omega
  have hs : st < (stagesN ⟨c, h, x, ls⟩).length := by have := SB.out; rw [← L2.out] at this ⊢; omega
  have HS := Lib.hid hs
  obtain ⟨f, hf⟩ : ∃ f, f = fromN ⟨c, h, x, ls⟩ st := ⟨_, rfl⟩
  obtain ⟨m, hm⟩ : ∃ m, m = manyN ⟨c, h, x, ls⟩ st := ⟨_, rfl⟩
  have HF := Lib.hid hf; have HM := Lib.hid hm
  have bd := many_bd HE.out hs
  have gb := gates_bd (c := c) (h := h) (x := x) (ls := ls)
  rw [← hf, ← hm] at bd
  have GL : Hid (f + m ≤ (gatesN ⟨c, h, x, ls⟩).length) := bd
  have f5 : f ≤ 512 := by omega
  have m5 : f + m ≤ 512 := by omega
  have RNG : Hid (rangeN ⟨c, h, x, ls⟩ (st : Int) = ((f : Int), (m : Int))) := by
    show _ = _
    have r := range_yes hs
    have q1 : 0 ≤ totP (((stagesN ⟨c, h, x, ls⟩).take st).map (atN ⟨c, h, x, ls⟩)) := (tot_bd _ (fun y hy => by obtain ⟨i, _, rfl⟩ := List.mem_map.1 hy; exact at_ok _ _)).2.2.1
    have q2 : 0 ≤ (atN ⟨c, h, x, ls⟩ ((stagesN ⟨c, h, x, ls⟩).getD st 0)).p := (KnOk.p (at_ok _ _)).1
    have e1 : (f : Int) = (rangeN ⟨c, h, x, ls⟩ (st : Int)).1 := by rw [hf]; unfold fromN; rw [r]; show ((totP _).toNat : Int) = totP _; omega
    have e2 : (m : Int) = (rangeN ⟨c, h, x, ls⟩ (st : Int)).2 := by rw [hm]; unfold manyN; rw [r]; show ((Kn.p _).toNat : Int) = Kn.p _; omega
    rw [e1, e2]
  have E1 : Hid (lineU ⟨c, h, x, ls⟩ a z (st : Int) xs ws = sayL (opA ⟨c, h, x, ls⟩ a z f xs ws) m) := by
    show _ = _
    unfold lineU
    rw [if_pos HOK.out, if_neg (by rw [← L2.out]; omega), Int.toNat_natCast, hf, hm]
    rfl
  obtain ⟨op, hop⟩ : ∃ op, op = opA ⟨c, h, x, ls⟩ a z f xs ws := ⟨_, rfl⟩
  rw [← hop] at E1
  have OP := Lib.hid hop
  have GI : Hid (∀ j : Nat, j < m → 0 ≤ (gtN ⟨c, h, x, ls⟩ (f + j)).x ∧ (gtN ⟨c, h, x, ls⟩ (f + j)).x < (nx : Int) ∧ (gtN ⟨c, h, x, ls⟩ (f + j)).w < (nw : Int)) := fun j hj => by
    have := gate_in HE.out hs (j := j) (by rw [← hm]; exact hj)
    rw [← hf] at this
    exact ⟨this.1, by rw [HXN.out, HKN.out]; exact this.2.1, by rw [HWN.out, HTW.out]; exact this.2.2.1⟩
  clear hf hm bd gb hs js hop
  obtain ⟨c0, c1, c2, c3⟩ := N3.out.cells
  go_wp2_with fail
  refine (rrange8 c h x A cA n ls (st : Int) (f : Int) (m : Int) RNG.out _ (HX.out.below B3.out) LX.out hn).mono ?_
  rintro e w4 ⟨rfl, hb⟩
  have B4 := Lib.hid (chain B3.out hb)
  have N4 := Lib.hid (N3.out.below hb)
  clear hb c0 c1 c2 c3 B3 N3
  obtain ⟨c0, c1, c2, c3⟩ := N4.out.cells
  go_wp2_with fail
  refine (rgates8 c h x A cA n ls _ (HX.out.below B4.out) LX.out hn).mono ?_
  rintro e w5 ⟨A3, k3, n3, rfl, hn3, hR3, hb, hd1, hd2⟩
  have B5 := Lib.hid (chain B4.out hb)
  have L3 := Lib.hid hn3
  have R3 := Lib.hid hR3
  have g3 : f + m ≤ n3 := by rw [hn3]; exact GL.out
  clear hb hR3 hn3 hd1 hd2 c0 c1 c2 c3 B4 N4
  go_wp2_with fail
  obtain ⟨fm, hfm⟩ : ∃ fm, fm = f + m := ⟨_, rfl⟩
  have vfm : IntKind.i64.wrap ((f : Int) + (m : Int)) = (fm : Int) := by rw [IntWalk.i64_in _ (by omega)]; omega
  have vfm2 : wrap64 ((f : Int) + (m : Int)) = (fm : Int) := by rw [IntWalk.wrap64_in _ (by omega)]; omega
  have HFM := Lib.hid hfm; have VFM := Lib.hid vfm; have VFM2 := Lib.hid vfm2
  clear hfm vfm vfm2
  go_loopg [16, 20, 21, 22] m (fun g s16 s20 _ _ wx => ∃ k j : Nat, k ≤ m ∧ Hid (g = m - k) ∧ Hid (j = f + k) ∧ s20 = .int .i64 (j : Int) ∧ Hid (wx.ownsRow w5.heap.size 27 1 s16 (2 * k) ((sayL op k).flatMap ucells)) ∧ Hid (Below w5.heap.size w5 wx))
  case atStart => exact ⟨0, f, by omega, by show _ = _; omega, by show _ = _; omega, rfl, World.ownsRow_nil _ _ _ _, Below.refl _ _⟩
  case round =>
    obtain ⟨k, j, hk, HG, HJ, rfl, OK, BK⟩ := hrel
    by_cases km : k < m
    · have hj := HJ.out
      have hfm := HFM.out
      have d1 : (j : Int) < (fm : Int) := by omega
      have d1n : decide (j < fm) = true := decide_eq_true (by omega)
      obtain ⟨bG, oG, rfl, lG, qG⟩ := R3.out (by rw [← L3.out]; omega)
      obtain ⟨G, hG⟩ : ∃ G, G = gtN ⟨c, h, x, ls⟩ (f + k) := ⟨_, rfl⟩
      obtain ⟨y0, y1, y2, y3, y4⟩ := g_cells qG (gt_rng (c := c) (h := h) (x := x) (ls := ls) (j := f + k) (by have := GL.out; omega))
      rw [← hG] at y3 y4
      obtain ⟨gi0, gi1, gi2⟩ := GI.out k km
      rw [← hG] at gi0 gi1 gi2
      rw [← hj] at y3 y4
      have z3 := (BK.out.cell (p := ⟨bG, oG + j * 5 + 3, none⟩) lG).trans y3
      have z4 := (BK.out.cell (p := ⟨bG, oG + j * 5 + 4, none⟩) lG).trans y4
      obtain ⟨xj, hxj⟩ : ∃ xj : Nat, G.x = xj := ⟨G.x.toNat, by omega⟩
      rw [hxj] at gi0 gi1 z3
      obtain ⟨bX, oX, rfl, lX, cX'⟩ := ug_at HXR.out (j := (xj : Int)) gi0 (by rw [← LXX.out]; exact gi1)
      rw [Int.toNat_natCast] at cX'
      obtain ⟨u, hu⟩ : ∃ u, u = ug xs (xj : Int) := ⟨_, rfl⟩
      rw [← hu] at cX'
      have lX5 := Nat.lt_of_lt_of_le lX B5.out.size
      have zx := (BK.out.cell (p := ⟨bX, oX + xj, none⟩) lX5).trans ((B5.out.cell (p := ⟨bX, oX + xj, none⟩) lX).trans cX')
      have jf0 : (0 : Int) ≤ (j : Int) := by omega
      have jf1 : (j : Int) < (n3 : Int) := by omega
      have jf2 : j < n3 := by omega
      have xjn : xj < nx := by omega
      obtain ⟨y, hy⟩ : ∃ y, y = yvU xs ws G := ⟨_, rfl⟩
      have lG2 := Nat.lt_of_lt_of_le lG BK.out.size
      have lX2 := Nat.lt_of_lt_of_le lX5 BK.out.size
      have KN : Hid (k < m) := km
      have OPK : Hid (op k = openU u y (halfU z a (UInt64.ofNat j))) := by
        show _ = _
        rw [OP.out]
        unfold opA
        rw [← hj, show gtN ⟨c, h, x, ls⟩ j = G by rw [hj, hG], hxj, ← hu, ← hy]
      have u1 : IntKind.u64.wrap (j : Int) = uz (UInt64.ofNat j) := uz_conv j
      obtain ⟨tr, htr⟩ : ∃ tr, tr = halfU z a (UInt64.ofNat j) := ⟨_, rfl⟩
      rw [← htr] at OPK
      have CH : Hid (∀ w, Calls Tryz.prog 37 #[.int .u64 (uz z), .int .i64 a, .int .u64 (uz (UInt64.ofNat j))] w fun e w' => e = .returned (.agg #[.int .u64 (uz tr.a), .int .u64 (uz tr.b), .int .u64 (uz tr.c)]) ∧ Below w.heap.size w w') := fun w => by rw [htr]; exact rhalf11 z a _ w
      obtain ⟨ov, hov⟩ : ∃ ov, ov = openU u y tr := ⟨_, rfl⟩
      rw [← hov] at OPK
      have CO : Hid (∀ w, Calls Tryz.prog 36 #[.int .u64 (uz u), .int .u64 (uz y), .agg #[.int .u64 (uz tr.a), .int .u64 (uz tr.b), .int .u64 (uz tr.c)]] w fun e w' => e = .returned (.agg #[.int .u64 (uz ov.d), .int .u64 (uz ov.e)]) ∧ Below w.heap.size w w') := fun w => by rw [hov]; exact ropen12 u y tr w
      obtain ⟨vj, hvj⟩ : ∃ vj : Int, vj = (j : Int) := ⟨_, rfl⟩
      clear hj hfm htr hov hG y0 y1 y2 y3 y4 qG cX' hvj vj
      by_cases gw : 0 ≤ G.w
      · have d2 : decide (0 ≤ G.w) = true := decide_eq_true gw
        obtain ⟨wj, hwj⟩ : ∃ wj : Nat, G.w = wj := ⟨G.w.toNat, by omega⟩
        rw [hwj] at gi2 z4 d2
        obtain ⟨bW, oW, rfl, lW, cW'⟩ := ug_at HWR.out (j := (wj : Int)) (by omega) (by rw [← LWW.out]; exact gi2)
        rw [Int.toNat_natCast] at cW'
        have hy2 : ug ws (wj : Int) = y := by rw [hy]; unfold yvU; rw [if_pos gw, hwj]
        rw [hy2] at cW'
        have lW5 := Nat.lt_of_lt_of_le lW B5.out.size
        have zw := (BK.out.cell (p := ⟨bW, oW + wj, none⟩) lW5).trans ((B5.out.cell (p := ⟨bW, oW + wj, none⟩) lW).trans cW')
        have wj0 : (0 : Int) ≤ (wj : Int) := by omega
        have wjn : wj < nw := by omega
        clear hy hy2 gw hwj cW' hu
        have vfm := VFM.out; have vfm2 := VFM2.out
        go_wp2_with fail
        clear vfm vfm2
        refine wp_region_noPanic ?_
        refine wp_region_held_drew (S := fun w' => w'.cell? ⟨bG, oG + j * 5 + 3, none⟩ = some (.int .i64 (xj : Int)) ∧ w'.cell? ⟨bX, oX + xj, none⟩ = some (.int .u64 (uz u))) (by kernel_rfl) ⟨z3, zx⟩ (fun hHeld => ?_)
        have hd := below_drew wr
        replace z3 := (hd.cell (p := ⟨bG, oG + j * 5 + 3, none⟩) lG2).trans z3
        replace lG2 := Nat.lt_of_lt_of_le lG2 hd.size
        replace zx := (hd.cell (p := ⟨bX, oX + xj, none⟩) lX2).trans zx
        replace lX2 := Nat.lt_of_lt_of_le lX2 hd.size
        generalize wr.drew = wq1 at hHeld hd z3 lG2 zx lX2 ⊢
        have BD : Hid (Below wq1.heap.size wq1 wq1) := Below.refl _ _
        refine wpAnyH_take (i := 0) (v := ?vv1001) (by simp only [List.getElem?_toArray, List.getElem?_cons_zero]; rfl) (by kernel_rfl) (by kernel_rfl) (by kernel_rfl) (fun _ _ _ h => h) (Or.inl ⟨by rfl, ?yy1001⟩) (by assumption) ?rr1001
        case yy1001 => (intro w hSw; (try dsimp only at hSw); go_simp; first | done | with_reducible rfl)
        simp only [Act.put, List.setIfInBounds_toArray, List.set_cons_zero, List.set_cons_succ]
        refine wpAnyH_take (i := 1) (v := ?vv1002) (by simp only [List.getElem?_toArray, List.getElem?_cons_zero, List.getElem?_cons_succ]; rfl) (by kernel_rfl) (by kernel_rfl) (by kernel_rfl) (fun _ _ _ h => h) (Or.inl ⟨by rfl, ?yy1002⟩) (by assumption) ?rr1002
        case yy1002 => (intro w hSw; (try dsimp only at hSw); go_simp; first | done | with_reducible rfl)
        simp only [Act.put, List.setIfInBounds_toArray, List.set_cons_zero, List.set_cons_succ]
        refine wpAnyH_take (i := 2) (v := ?vv1003) (by simp only [List.getElem?_toArray, List.getElem?_cons_zero, List.getElem?_cons_succ]; rfl) (by kernel_rfl) (by kernel_rfl) (by kernel_rfl) (fun _ _ _ h => h) (Or.inl ⟨by rfl, ?yy1003⟩) (by assumption) ?rr1003
        case yy1003 => (intro w hSw; (try dsimp only at hSw); go_simp; first | done | with_reducible rfl)
        simp only [Act.put, List.setIfInBounds_toArray, List.set_cons_zero, List.set_cons_succ]
        refine wpAnyH_take (i := 3) (v := ?vv1004) (by simp only [List.getElem?_toArray, List.getElem?_cons_zero, List.getElem?_cons_succ]; rfl) (by kernel_rfl) (by kernel_rfl) (by kernel_rfl) (fun _ _ _ h => h) (Or.inl ⟨by rfl, ?yy1004⟩) (by assumption) ?rr1004
        case yy1004 => (intro w hSw; (try dsimp only at hSw); go_simp; first | done | with_reducible rfl)
        simp only [Act.put, List.setIfInBounds_toArray, List.set_cons_zero, List.set_cons_succ]
        refine wpAnyH_take (i := 4) (v := ?vv1005) (by simp only [List.getElem?_toArray, List.getElem?_cons_zero, List.getElem?_cons_succ]; rfl) (by kernel_rfl) (by kernel_rfl) (by kernel_rfl) (fun _ _ _ h => h) (Or.inl ⟨by rfl, ?yy1005⟩) (by assumption) ?rr1005
        case yy1005 => (intro w hSw; (try dsimp only at hSw); go_simp; first | done | with_reducible rfl)
        simp only [Act.put, List.setIfInBounds_toArray, List.set_cons_zero, List.set_cons_succ]
        refine wpAnyH_take (i := 5) (v := ?vv1006) (by simp only [List.getElem?_toArray, List.getElem?_cons_zero, List.getElem?_cons_succ]; rfl) (by kernel_rfl) (by kernel_rfl) (by kernel_rfl) (fun _ _ _ h => h) (Or.inl ⟨by rfl, ?yy1006⟩) (by assumption) ?rr1006
        case yy1006 => (intro w hSw; (try dsimp only at hSw); go_simp; first | done | with_reducible rfl)
        simp only [Act.put, List.setIfInBounds_toArray, List.set_cons_zero, List.set_cons_succ]
        refine wpAnyH_take (i := 6) (v := ?vv1007) (by simp only [List.getElem?_toArray, List.getElem?_cons_zero, List.getElem?_cons_succ]; rfl) (by kernel_rfl) (by kernel_rfl) (by kernel_rfl) (fun _ _ _ h => h) (Or.inl ⟨by rfl, ?yy1007⟩) (by assumption) ?rr1007
        case yy1007 => (intro w hSw; (try dsimp only at hSw); go_simp; first | done | with_reducible rfl)
        simp only [Act.put, List.setIfInBounds_toArray, List.set_cons_zero, List.set_cons_succ]
        refine wpAnyH_take (i := 7) (v := ?vv1008) (by simp only [List.getElem?_toArray, List.getElem?_cons_zero, List.getElem?_cons_succ]; rfl) (by kernel_rfl) (by kernel_rfl) (by kernel_rfl) (fun _ _ _ h => h) (Or.inl ⟨by rfl, ?yy1008⟩) (by assumption) ?rr1008
        case yy1008 => (intro w hSw; (try dsimp only at hSw); go_simp; first | done | with_reducible rfl)
        simp only [Act.put, List.setIfInBounds_toArray, List.set_cons_zero, List.set_cons_succ]
        refine wpAnyH_take (i := 8) (v := ?vv1009) (by simp only [List.getElem?_toArray, List.getElem?_cons_zero, List.getElem?_cons_succ]; rfl) (by kernel_rfl) (by kernel_rfl) (by kernel_rfl) (fun _ _ _ h => h) (Or.inl ⟨by rfl, ?yy1009⟩) (by assumption) ?rr1009
        case yy1009 => (intro w hSw; (try dsimp only at hSw); go_simp; first | done | with_reducible rfl)
        simp only [Act.put, List.setIfInBounds_toArray, List.set_cons_zero, List.set_cons_succ]
        refine wpAnyH_take (i := 9) (v := ?vv1010) (by simp only [List.getElem?_toArray, List.getElem?_cons_zero, List.getElem?_cons_succ]; rfl) (by kernel_rfl) (by kernel_rfl) (by kernel_rfl) (fun _ _ _ h => h) (Or.inl ⟨by rfl, ?yy1010⟩) (by assumption) ?rr1010
        case yy1010 => (intro w hSw; (try dsimp only at hSw); go_simp; first | done | with_reducible rfl)
        simp only [Act.put, List.setIfInBounds_toArray, List.set_cons_zero, List.set_cons_succ]
        refine wpAnyH_take (i := 10) (v := ?vv1011) (by simp only [List.getElem?_toArray, List.getElem?_cons_zero, List.getElem?_cons_succ]; rfl) (by kernel_rfl) (by kernel_rfl) (by kernel_rfl) (fun _ _ _ h => h) (Or.inl ⟨by rfl, ?yy1011⟩) (by assumption) ?rr1011
        case yy1011 => (intro w hSw; (try dsimp only at hSw); go_simp; first | done | with_reducible rfl)
        simp only [Act.put, List.setIfInBounds_toArray, List.set_cons_zero, List.set_cons_succ]
        refine wpAnyH_take (i := 11) (v := ?vv1012) (by simp only [List.getElem?_toArray, List.getElem?_cons_zero, List.getElem?_cons_succ]; rfl) (by kernel_rfl) (by kernel_rfl) (by kernel_rfl) (fun _ _ _ h => h) (Or.inl ⟨by rfl, ?yy1012⟩) (by assumption) ?rr1012
        case yy1012 => (intro w hSw; (try dsimp only at hSw); go_simp; first | done | with_reducible rfl)
        simp only [Act.put, List.setIfInBounds_toArray, List.set_cons_zero, List.set_cons_succ]
        refine wpAnyH_take (i := 12) (v := ?vv1013) (by simp only [List.getElem?_toArray, List.getElem?_cons_zero, List.getElem?_cons_succ]; rfl) (by kernel_rfl) (by kernel_rfl) (by kernel_rfl) (fun _ _ _ h => h) (Or.inl ⟨by rfl, ?yy1013⟩) (by assumption) ?rr1013
        case yy1013 => (intro w hSw; (try dsimp only at hSw); go_simp; first | done | with_reducible rfl)
        simp only [Act.put, List.setIfInBounds_toArray, List.set_cons_zero, List.set_cons_succ]
        refine wpAnyH_ready (rs := [13, 15]) (by kernel_rfl) (by simp) ?_
        refine AllReadyH.cons (by simp only [List.getElem?_toArray, List.getElem?_cons_zero, List.getElem?_cons_succ]; rfl) (fun K hK => ?_) ?_
        · skip
          go_simp
          go_at_call 37
          (with_reducible refine (CH.out _).mono ?_)
          rintro e wq2 ⟨rfl, hb⟩
          clear hHeld
          replace BD := Lib.hid (chain BD.out hb)
          clear hb
          go_wp2_with fail
          refine hK.out _ _ ⟨(BD.out.cell (p := ⟨bG, oG + j * 5 + 3, none⟩) lG2).trans z3, (BD.out.cell (p := ⟨bX, oX + xj, none⟩) lX2).trans zx⟩ (fun hHeld => ?_)
          clear hK K
          try simp only [Act.put, List.setIfInBounds_toArray, List.set_cons_zero, List.set_cons_succ]
          refine wpAnyH_ready (rs := [14, 15]) (by kernel_rfl) (by simp) ?_
          refine AllReadyH.cons (by simp only [List.getElem?_toArray, List.getElem?_cons_zero, List.getElem?_cons_succ]; rfl) (fun K hK => ?_) ?_
          · skip
            go_simp
            go_at_call 36
            (with_reducible refine (CO.out _).mono ?_)
            rintro e wq3 ⟨rfl, hb⟩
            clear hHeld
            replace BD := Lib.hid (chain BD.out hb)
            clear hb
            go_wp2_with fail
            refine hK.out _ _ ⟨(BD.out.cell (p := ⟨bG, oG + j * 5 + 3, none⟩) lG2).trans z3, (BD.out.cell (p := ⟨bX, oX + xj, none⟩) lX2).trans zx⟩ (fun hHeld => ?_)
            clear hK K
            try simp only [Act.put, List.setIfInBounds_toArray, List.set_cons_zero, List.set_cons_succ]
            refine wpAnyH_ready (rs := [15]) (by kernel_rfl) (by simp) ?_
            refine AllReadyH.cons (by simp only [List.getElem?_toArray, List.getElem?_cons_zero, List.getElem?_cons_succ]; rfl) (fun K hK => ?_) ?_
            · skip
              go_simp
              clear hHeld
              obtain ⟨z, hB⟩ : ∃ b, b = wq3.heap.size := ⟨_, rfl⟩
              have zl : wq1.heap.size ≤ z := by rw [hB]; exact BD.out.size
              have Rz : Hid (OC (wq3.alloc (.cells #[.int .u64 0, .int .u64 0] 71)) z On.z) := by rw [hB]; exact heap_alloc_new wq3 _
              rw [← hB]
              clear hB
              replace BD := Lib.hid (chain_alloc BD.out (.cells #[.int .u64 0, .int .u64 0] 71))
              refine hK.out _ _ ⟨(BD.out.cell (p := ⟨bG, oG + j * 5 + 3, none⟩) lG2).trans z3, (BD.out.cell (p := ⟨bX, oX + xj, none⟩) lX2).trans zx⟩ (fun hHeld => ?_)
              clear hK K
              try simp only [Act.put, List.setIfInBounds_toArray, List.set_cons_zero, List.set_cons_succ]
              generalize wq3.alloc (.cells #[.int .u64 0, .int .u64 0] 71) = wq4 at hHeld Rz BD ⊢
              refine wpAnyH_ready (rs := [16]) (by kernel_rfl) (by simp) ?_
              refine AllReadyH.cons (by simp only [List.getElem?_toArray, List.getElem?_cons_zero, List.getElem?_cons_succ]; rfl) (fun K hK => ?_) ?_
              · skip
                obtain ⟨z0, z1⟩ := Rz.out.cells
                have f0 := Rz.out.frozen 0
                have f1 := Rz.out.frozen 1
                go_simp
                clear hHeld
                replace Rz := Lib.hid (Rz.out.set ov)
                replace BD := Lib.hid (below_set2 BD.out zl (.int .u64 (uz ov.d)) (.int .u64 (uz ov.e)))
                refine hK.out _ _ ⟨(BD.out.cell (p := ⟨bG, oG + j * 5 + 3, none⟩) lG2).trans z3, (BD.out.cell (p := ⟨bX, oX + xj, none⟩) lX2).trans zx⟩ (fun hHeld => ?_)
                clear hK K
                try simp only [Act.put, List.setIfInBounds_toArray, List.set_cons_zero, List.set_cons_succ]
                generalize ((wq4.setCell ⟨z, 0, none⟩ (.int .u64 (uz ov.d))).setCell ⟨z, 1, none⟩ (.int .u64 (uz ov.e))) = wq5 at hHeld Rz BD ⊢
                clear z0 z1 f0 f1
                refine wpAnyH_done (by kernel_rfl) ?_ _
                refine NoPanic.normal ?_
                clear hHeld
                have OK2 := Lib.hid (own_belowE OK.out (chain hd BD.out))
                have BK2 := Lib.hid (chain BK.out (chain hd BD.out))
                obtain ⟨z0, z1⟩ := Rz.out.cells
                have hs := BK2.out.size
                have zlt := Rz.out.lt
                have j5 : j ≤ 512 := by have := HJ.out; omega
                clear OK BK z3 z4 zx lG2 lX2 hd BD
                go_wp2_with (at_builtin; refine wpList_append_own _ rfl _ _ 28 rfl w5.heap.size 27 i0 (.int .u64 0) 1 8 Tryz.underlying28 hi hz0 hz1 hz2 rfl (by decide) _ _ _ rfl (OK2.out.alloc _) ⟨wq5.heap.size, 0, none⟩ 2 2 [.int .u64 (uz ov.d), .int .u64 (uz ov.e)] rfl rfl ?c1 ?c2 ?c3 ?c4 ?c5 ?_)
                case c1 => first | exact fun _ _ h => h | exact new_cells
                case c2 => intro u hu; simp at hu; rcases hu with rfl | rfl <;> rfl
                case c3 => unfold maxLen; omega
                case c4 => omega
                case c5 => simp; omega
                intro v' w8 hown2 hgrow _
                have O3 : Hid (w8.ownsRow w5.heap.size 27 1 v' (2 * (k + 1)) ((sayL op (k + 1)).flatMap ucells)) := by
                  show World.ownsRow _ _ _ _ _ _ _
                  rw [say_next, OPK.out, List.flatMap_append]
                  exact hown2
                have B8 : Hid (Below w5.heap.size w5 w8) := (BK2.out.alloc hs _).grown hgrow (by simp; omega) (fun q hqq => (OK2.out.lt _ hqq).1)
                clear hown2 hgrow OK2 BK2 hs z0 z1 zlt Rz zl
                go_wp2_with fail
                go_roundg (m - (k + 1))
                case measure => have := HG.out; have := KN.out; omega
                case rel => exact ⟨k + 1, j + 1, by have := KN.out; omega, rfl, by show _ = _; have := HJ.out; omega, by go_num, O3, B8⟩
              exact AllReadyH.nil
            exact AllReadyH.nil
          refine AllReadyH.cons (by simp only [List.getElem?_toArray, List.getElem?_cons_zero, List.getElem?_cons_succ]; rfl) (fun K hK => ?_) ?_
          · skip
            go_simp
            clear hHeld
            obtain ⟨z, hB⟩ : ∃ b, b = wq2.heap.size := ⟨_, rfl⟩
            have zl : wq1.heap.size ≤ z := by rw [hB]; exact BD.out.size
            have Rz : Hid (OC (wq2.alloc (.cells #[.int .u64 0, .int .u64 0] 71)) z On.z) := by rw [hB]; exact heap_alloc_new wq2 _
            rw [← hB]
            clear hB
            replace BD := Lib.hid (chain_alloc BD.out (.cells #[.int .u64 0, .int .u64 0] 71))
            refine hK.out _ _ ⟨(BD.out.cell (p := ⟨bG, oG + j * 5 + 3, none⟩) lG2).trans z3, (BD.out.cell (p := ⟨bX, oX + xj, none⟩) lX2).trans zx⟩ (fun hHeld => ?_)
            clear hK K
            try simp only [Act.put, List.setIfInBounds_toArray, List.set_cons_zero, List.set_cons_succ]
            generalize wq2.alloc (.cells #[.int .u64 0, .int .u64 0] 71) = wq6 at hHeld Rz BD ⊢
            refine wpAnyH_ready (rs := [14]) (by kernel_rfl) (by simp) ?_
            refine AllReadyH.cons (by simp only [List.getElem?_toArray, List.getElem?_cons_zero, List.getElem?_cons_succ]; rfl) (fun K hK => ?_) ?_
            · skip
              go_simp
              go_at_call 36
              (with_reducible refine (CO.out _).mono ?_)
              rintro e wq7 ⟨rfl, hb⟩
              clear hHeld
              replace BD := Lib.hid (chain BD.out hb)
              replace Rz := Lib.hid (Rz.out.below hb)
              clear hb
              go_wp2_with fail
              refine hK.out _ _ ⟨(BD.out.cell (p := ⟨bG, oG + j * 5 + 3, none⟩) lG2).trans z3, (BD.out.cell (p := ⟨bX, oX + xj, none⟩) lX2).trans zx⟩ (fun hHeld => ?_)
              clear hK K
              try simp only [Act.put, List.setIfInBounds_toArray, List.set_cons_zero, List.set_cons_succ]
              refine wpAnyH_ready (rs := [16]) (by kernel_rfl) (by simp) ?_
              refine AllReadyH.cons (by simp only [List.getElem?_toArray, List.getElem?_cons_zero, List.getElem?_cons_succ]; rfl) (fun K hK => ?_) ?_
              · skip
                obtain ⟨z0, z1⟩ := Rz.out.cells
                have f0 := Rz.out.frozen 0
                have f1 := Rz.out.frozen 1
                go_simp
                clear hHeld
                replace Rz := Lib.hid (Rz.out.set ov)
                replace BD := Lib.hid (below_set2 BD.out zl (.int .u64 (uz ov.d)) (.int .u64 (uz ov.e)))
                refine hK.out _ _ ⟨(BD.out.cell (p := ⟨bG, oG + j * 5 + 3, none⟩) lG2).trans z3, (BD.out.cell (p := ⟨bX, oX + xj, none⟩) lX2).trans zx⟩ (fun hHeld => ?_)
                clear hK K
                try simp only [Act.put, List.setIfInBounds_toArray, List.set_cons_zero, List.set_cons_succ]
                generalize ((wq7.setCell ⟨z, 0, none⟩ (.int .u64 (uz ov.d))).setCell ⟨z, 1, none⟩ (.int .u64 (uz ov.e))) = wq8 at hHeld Rz BD ⊢
                clear z0 z1 f0 f1
                refine wpAnyH_done (by kernel_rfl) ?_ _
                refine NoPanic.normal ?_
                clear hHeld
                have OK2 := Lib.hid (own_belowE OK.out (chain hd BD.out))
                have BK2 := Lib.hid (chain BK.out (chain hd BD.out))
                obtain ⟨z0, z1⟩ := Rz.out.cells
                have hs := BK2.out.size
                have zlt := Rz.out.lt
                have j5 : j ≤ 512 := by have := HJ.out; omega
                clear OK BK z3 z4 zx lG2 lX2 hd BD
                go_wp2_with (at_builtin; refine wpList_append_own _ rfl _ _ 28 rfl w5.heap.size 27 i0 (.int .u64 0) 1 8 Tryz.underlying28 hi hz0 hz1 hz2 rfl (by decide) _ _ _ rfl (OK2.out.alloc _) ⟨wq8.heap.size, 0, none⟩ 2 2 [.int .u64 (uz ov.d), .int .u64 (uz ov.e)] rfl rfl ?c1 ?c2 ?c3 ?c4 ?c5 ?_)
                case c1 => first | exact fun _ _ h => h | exact new_cells
                case c2 => intro u hu; simp at hu; rcases hu with rfl | rfl <;> rfl
                case c3 => unfold maxLen; omega
                case c4 => omega
                case c5 => simp; omega
                intro v' w8 hown2 hgrow _
                have O3 : Hid (w8.ownsRow w5.heap.size 27 1 v' (2 * (k + 1)) ((sayL op (k + 1)).flatMap ucells)) := by
                  show World.ownsRow _ _ _ _ _ _ _
                  rw [say_next, OPK.out, List.flatMap_append]
                  exact hown2
                have B8 : Hid (Below w5.heap.size w5 w8) := (BK2.out.alloc hs _).grown hgrow (by simp; omega) (fun q hqq => (OK2.out.lt _ hqq).1)
                clear hown2 hgrow OK2 BK2 hs z0 z1 zlt Rz zl
                go_wp2_with fail
                go_roundg (m - (k + 1))
                case measure => have := HG.out; have := KN.out; omega
                case rel => exact ⟨k + 1, j + 1, by have := KN.out; omega, rfl, by show _ = _; have := HJ.out; omega, by go_num, O3, B8⟩
              exact AllReadyH.nil
            exact AllReadyH.nil
          exact AllReadyH.nil
        refine AllReadyH.cons (by simp only [List.getElem?_toArray, List.getElem?_cons_zero, List.getElem?_cons_succ]; rfl) (fun K hK => ?_) ?_
        · skip
          go_simp
          clear hHeld
          obtain ⟨z, hB⟩ : ∃ b, b = wq1.heap.size := ⟨_, rfl⟩
          have zl : wq1.heap.size ≤ z := by rw [hB]; exact BD.out.size
          have Rz : Hid (OC (wq1.alloc (.cells #[.int .u64 0, .int .u64 0] 71)) z On.z) := by rw [hB]; exact heap_alloc_new wq1 _
          rw [← hB]
          clear hB
          replace BD := Lib.hid (chain_alloc BD.out (.cells #[.int .u64 0, .int .u64 0] 71))
          refine hK.out _ _ ⟨(BD.out.cell (p := ⟨bG, oG + j * 5 + 3, none⟩) lG2).trans z3, (BD.out.cell (p := ⟨bX, oX + xj, none⟩) lX2).trans zx⟩ (fun hHeld => ?_)
          clear hK K
          try simp only [Act.put, List.setIfInBounds_toArray, List.set_cons_zero, List.set_cons_succ]
          generalize wq1.alloc (.cells #[.int .u64 0, .int .u64 0] 71) = wq9 at hHeld Rz BD ⊢
          refine wpAnyH_ready (rs := [13]) (by kernel_rfl) (by simp) ?_
          refine AllReadyH.cons (by simp only [List.getElem?_toArray, List.getElem?_cons_zero, List.getElem?_cons_succ]; rfl) (fun K hK => ?_) ?_
          · skip
            go_simp
            go_at_call 37
            (with_reducible refine (CH.out _).mono ?_)
            rintro e wq10 ⟨rfl, hb⟩
            clear hHeld
            replace BD := Lib.hid (chain BD.out hb)
            replace Rz := Lib.hid (Rz.out.below hb)
            clear hb
            go_wp2_with fail
            refine hK.out _ _ ⟨(BD.out.cell (p := ⟨bG, oG + j * 5 + 3, none⟩) lG2).trans z3, (BD.out.cell (p := ⟨bX, oX + xj, none⟩) lX2).trans zx⟩ (fun hHeld => ?_)
            clear hK K
            try simp only [Act.put, List.setIfInBounds_toArray, List.set_cons_zero, List.set_cons_succ]
            refine wpAnyH_ready (rs := [14]) (by kernel_rfl) (by simp) ?_
            refine AllReadyH.cons (by simp only [List.getElem?_toArray, List.getElem?_cons_zero, List.getElem?_cons_succ]; rfl) (fun K hK => ?_) ?_
            · skip
              go_simp
              go_at_call 36
              (with_reducible refine (CO.out _).mono ?_)
              rintro e wq11 ⟨rfl, hb⟩
              clear hHeld
              replace BD := Lib.hid (chain BD.out hb)
              replace Rz := Lib.hid (Rz.out.below hb)
              clear hb
              go_wp2_with fail
              refine hK.out _ _ ⟨(BD.out.cell (p := ⟨bG, oG + j * 5 + 3, none⟩) lG2).trans z3, (BD.out.cell (p := ⟨bX, oX + xj, none⟩) lX2).trans zx⟩ (fun hHeld => ?_)
              clear hK K
              try simp only [Act.put, List.setIfInBounds_toArray, List.set_cons_zero, List.set_cons_succ]
              refine wpAnyH_ready (rs := [16]) (by kernel_rfl) (by simp) ?_
              refine AllReadyH.cons (by simp only [List.getElem?_toArray, List.getElem?_cons_zero, List.getElem?_cons_succ]; rfl) (fun K hK => ?_) ?_
              · skip
                obtain ⟨z0, z1⟩ := Rz.out.cells
                have f0 := Rz.out.frozen 0
                have f1 := Rz.out.frozen 1
                go_simp
                clear hHeld
                replace Rz := Lib.hid (Rz.out.set ov)
                replace BD := Lib.hid (below_set2 BD.out zl (.int .u64 (uz ov.d)) (.int .u64 (uz ov.e)))
                refine hK.out _ _ ⟨(BD.out.cell (p := ⟨bG, oG + j * 5 + 3, none⟩) lG2).trans z3, (BD.out.cell (p := ⟨bX, oX + xj, none⟩) lX2).trans zx⟩ (fun hHeld => ?_)
                clear hK K
                try simp only [Act.put, List.setIfInBounds_toArray, List.set_cons_zero, List.set_cons_succ]
                generalize ((wq11.setCell ⟨z, 0, none⟩ (.int .u64 (uz ov.d))).setCell ⟨z, 1, none⟩ (.int .u64 (uz ov.e))) = wq12 at hHeld Rz BD ⊢
                clear z0 z1 f0 f1
                refine wpAnyH_done (by kernel_rfl) ?_ _
                refine NoPanic.normal ?_
                clear hHeld
                have OK2 := Lib.hid (own_belowE OK.out (chain hd BD.out))
                have BK2 := Lib.hid (chain BK.out (chain hd BD.out))
                obtain ⟨z0, z1⟩ := Rz.out.cells
                have hs := BK2.out.size
                have zlt := Rz.out.lt
                have j5 : j ≤ 512 := by have := HJ.out; omega
                clear OK BK z3 z4 zx lG2 lX2 hd BD
                go_wp2_with (at_builtin; refine wpList_append_own _ rfl _ _ 28 rfl w5.heap.size 27 i0 (.int .u64 0) 1 8 Tryz.underlying28 hi hz0 hz1 hz2 rfl (by decide) _ _ _ rfl (OK2.out.alloc _) ⟨wq12.heap.size, 0, none⟩ 2 2 [.int .u64 (uz ov.d), .int .u64 (uz ov.e)] rfl rfl ?c1 ?c2 ?c3 ?c4 ?c5 ?_)
                case c1 => first | exact fun _ _ h => h | exact new_cells
                case c2 => intro u hu; simp at hu; rcases hu with rfl | rfl <;> rfl
                case c3 => unfold maxLen; omega
                case c4 => omega
                case c5 => simp; omega
                intro v' w8 hown2 hgrow _
                have O3 : Hid (w8.ownsRow w5.heap.size 27 1 v' (2 * (k + 1)) ((sayL op (k + 1)).flatMap ucells)) := by
                  show World.ownsRow _ _ _ _ _ _ _
                  rw [say_next, OPK.out, List.flatMap_append]
                  exact hown2
                have B8 : Hid (Below w5.heap.size w5 w8) := (BK2.out.alloc hs _).grown hgrow (by simp; omega) (fun q hqq => (OK2.out.lt _ hqq).1)
                clear hown2 hgrow OK2 BK2 hs z0 z1 zlt Rz zl
                go_wp2_with fail
                go_roundg (m - (k + 1))
                case measure => have := HG.out; have := KN.out; omega
                case rel => exact ⟨k + 1, j + 1, by have := KN.out; omega, rfl, by show _ = _; have := HJ.out; omega, by go_num, O3, B8⟩
              exact AllReadyH.nil
            exact AllReadyH.nil
          exact AllReadyH.nil
        exact AllReadyH.nil
      · have d2 : decide (0 ≤ G.w) = false := decide_eq_false gw
        obtain rfl : y = u := by rw [hy]; unfold yvU; rw [if_neg gw, hxj]; exact hu.symm
        clear gw hu hy
        have vfm := VFM.out; have vfm2 := VFM2.out
        go_wp2_with fail
        clear vfm vfm2
        refine wp_region_noPanic ?_
        refine wp_region_held_drew (S := fun w' => w'.cell? ⟨bG, oG + j * 5 + 3, none⟩ = some (.int .i64 (xj : Int)) ∧ w'.cell? ⟨bX, oX + xj, none⟩ = some (.int .u64 (uz y))) (by kernel_rfl) ⟨z3, zx⟩ (fun hHeld => ?_)
        have hd := below_drew wr
        replace z3 := (hd.cell (p := ⟨bG, oG + j * 5 + 3, none⟩) lG2).trans z3
        replace lG2 := Nat.lt_of_lt_of_le lG2 hd.size
        replace zx := (hd.cell (p := ⟨bX, oX + xj, none⟩) lX2).trans zx
        replace lX2 := Nat.lt_of_lt_of_le lX2 hd.size
        generalize wr.drew = wq1 at hHeld hd z3 lG2 zx lX2 ⊢
        have BD : Hid (Below wq1.heap.size wq1 wq1) := Below.refl _ _
        refine wpAnyH_take (i := 0) (v := ?vv2001) (by simp only [List.getElem?_toArray, List.getElem?_cons_zero]; rfl) (by kernel_rfl) (by kernel_rfl) (by kernel_rfl) (fun _ _ _ h => h) (Or.inl ⟨by rfl, ?yy2001⟩) (by assumption) ?rr2001
        case yy2001 => (intro w hSw; (try dsimp only at hSw); go_simp; first | done | with_reducible rfl)
        simp only [Act.put, List.setIfInBounds_toArray, List.set_cons_zero, List.set_cons_succ]
        refine wpAnyH_take (i := 1) (v := ?vv2002) (by simp only [List.getElem?_toArray, List.getElem?_cons_zero, List.getElem?_cons_succ]; rfl) (by kernel_rfl) (by kernel_rfl) (by kernel_rfl) (fun _ _ _ h => h) (Or.inl ⟨by rfl, ?yy2002⟩) (by assumption) ?rr2002
        case yy2002 => (intro w hSw; (try dsimp only at hSw); go_simp; first | done | with_reducible rfl)
        simp only [Act.put, List.setIfInBounds_toArray, List.set_cons_zero, List.set_cons_succ]
        refine wpAnyH_take (i := 2) (v := ?vv2003) (by simp only [List.getElem?_toArray, List.getElem?_cons_zero, List.getElem?_cons_succ]; rfl) (by kernel_rfl) (by kernel_rfl) (by kernel_rfl) (fun _ _ _ h => h) (Or.inl ⟨by rfl, ?yy2003⟩) (by assumption) ?rr2003
        case yy2003 => (intro w hSw; (try dsimp only at hSw); go_simp; first | done | with_reducible rfl)
        simp only [Act.put, List.setIfInBounds_toArray, List.set_cons_zero, List.set_cons_succ]
        refine wpAnyH_take (i := 3) (v := ?vv2004) (by simp only [List.getElem?_toArray, List.getElem?_cons_zero, List.getElem?_cons_succ]; rfl) (by kernel_rfl) (by kernel_rfl) (by kernel_rfl) (fun _ _ _ h => h) (Or.inl ⟨by rfl, ?yy2004⟩) (by assumption) ?rr2004
        case yy2004 => (intro w hSw; (try dsimp only at hSw); go_simp; first | done | with_reducible rfl)
        simp only [Act.put, List.setIfInBounds_toArray, List.set_cons_zero, List.set_cons_succ]
        refine wpAnyH_take (i := 4) (v := ?vv2005) (by simp only [List.getElem?_toArray, List.getElem?_cons_zero, List.getElem?_cons_succ]; rfl) (by kernel_rfl) (by kernel_rfl) (by kernel_rfl) (fun _ _ _ h => h) (Or.inl ⟨by rfl, ?yy2005⟩) (by assumption) ?rr2005
        case yy2005 => (intro w hSw; (try dsimp only at hSw); go_simp; first | done | with_reducible rfl)
        simp only [Act.put, List.setIfInBounds_toArray, List.set_cons_zero, List.set_cons_succ]
        refine wpAnyH_take (i := 5) (v := ?vv2006) (by simp only [List.getElem?_toArray, List.getElem?_cons_zero, List.getElem?_cons_succ]; rfl) (by kernel_rfl) (by kernel_rfl) (by kernel_rfl) (fun _ _ _ h => h) (Or.inl ⟨by rfl, ?yy2006⟩) (by assumption) ?rr2006
        case yy2006 => (intro w hSw; (try dsimp only at hSw); go_simp; first | done | with_reducible rfl)
        simp only [Act.put, List.setIfInBounds_toArray, List.set_cons_zero, List.set_cons_succ]
        refine wpAnyH_take (i := 6) (v := ?vv2007) (by simp only [List.getElem?_toArray, List.getElem?_cons_zero, List.getElem?_cons_succ]; rfl) (by kernel_rfl) (by kernel_rfl) (by kernel_rfl) (fun _ _ _ h => h) (Or.inl ⟨by rfl, ?yy2007⟩) (by assumption) ?rr2007
        case yy2007 => (intro w hSw; (try dsimp only at hSw); go_simp; first | done | with_reducible rfl)
        simp only [Act.put, List.setIfInBounds_toArray, List.set_cons_zero, List.set_cons_succ]
        refine wpAnyH_take (i := 7) (v := ?vv2008) (by simp only [List.getElem?_toArray, List.getElem?_cons_zero, List.getElem?_cons_succ]; rfl) (by kernel_rfl) (by kernel_rfl) (by kernel_rfl) (fun _ _ _ h => h) (Or.inl ⟨by rfl, ?yy2008⟩) (by assumption) ?rr2008
        case yy2008 => (intro w hSw; (try dsimp only at hSw); go_simp; first | done | with_reducible rfl)
        simp only [Act.put, List.setIfInBounds_toArray, List.set_cons_zero, List.set_cons_succ]
        refine wpAnyH_take (i := 8) (v := ?vv2009) (by simp only [List.getElem?_toArray, List.getElem?_cons_zero, List.getElem?_cons_succ]; rfl) (by kernel_rfl) (by kernel_rfl) (by kernel_rfl) (fun _ _ _ h => h) (Or.inl ⟨by rfl, ?yy2009⟩) (by assumption) ?rr2009
        case yy2009 => (intro w hSw; (try dsimp only at hSw); go_simp; first | done | with_reducible rfl)
        simp only [Act.put, List.setIfInBounds_toArray, List.set_cons_zero, List.set_cons_succ]
        refine wpAnyH_take (i := 9) (v := ?vv2010) (by simp only [List.getElem?_toArray, List.getElem?_cons_zero, List.getElem?_cons_succ]; rfl) (by kernel_rfl) (by kernel_rfl) (by kernel_rfl) (fun _ _ _ h => h) (Or.inl ⟨by rfl, ?yy2010⟩) (by assumption) ?rr2010
        case yy2010 => (intro w hSw; (try dsimp only at hSw); go_simp; first | done | with_reducible rfl)
        simp only [Act.put, List.setIfInBounds_toArray, List.set_cons_zero, List.set_cons_succ]
        refine wpAnyH_take (i := 10) (v := ?vv2011) (by simp only [List.getElem?_toArray, List.getElem?_cons_zero, List.getElem?_cons_succ]; rfl) (by kernel_rfl) (by kernel_rfl) (by kernel_rfl) (fun _ _ _ h => h) (Or.inl ⟨by rfl, ?yy2011⟩) (by assumption) ?rr2011
        case yy2011 => (intro w hSw; (try dsimp only at hSw); go_simp; first | done | with_reducible rfl)
        simp only [Act.put, List.setIfInBounds_toArray, List.set_cons_zero, List.set_cons_succ]
        refine wpAnyH_take (i := 11) (v := ?vv2012) (by simp only [List.getElem?_toArray, List.getElem?_cons_zero, List.getElem?_cons_succ]; rfl) (by kernel_rfl) (by kernel_rfl) (by kernel_rfl) (fun _ _ _ h => h) (Or.inl ⟨by rfl, ?yy2012⟩) (by assumption) ?rr2012
        case yy2012 => (intro w hSw; (try dsimp only at hSw); go_simp; first | done | with_reducible rfl)
        simp only [Act.put, List.setIfInBounds_toArray, List.set_cons_zero, List.set_cons_succ]
        refine wpAnyH_take (i := 12) (v := ?vv2013) (by simp only [List.getElem?_toArray, List.getElem?_cons_zero, List.getElem?_cons_succ]; rfl) (by kernel_rfl) (by kernel_rfl) (by kernel_rfl) (fun _ _ _ h => h) (Or.inl ⟨by rfl, ?yy2013⟩) (by assumption) ?rr2013
        case yy2013 => (intro w hSw; (try dsimp only at hSw); go_simp; first | done | with_reducible rfl)
        simp only [Act.put, List.setIfInBounds_toArray, List.set_cons_zero, List.set_cons_succ]
        refine wpAnyH_ready (rs := [13, 15]) (by kernel_rfl) (by simp) ?_
        refine AllReadyH.cons (by simp only [List.getElem?_toArray, List.getElem?_cons_zero, List.getElem?_cons_succ]; rfl) (fun K hK => ?_) ?_
        · skip
          go_simp
          go_at_call 37
          (with_reducible refine (CH.out _).mono ?_)
          rintro e wq2 ⟨rfl, hb⟩
          clear hHeld
          replace BD := Lib.hid (chain BD.out hb)
          clear hb
          go_wp2_with fail
          refine hK.out _ _ ⟨(BD.out.cell (p := ⟨bG, oG + j * 5 + 3, none⟩) lG2).trans z3, (BD.out.cell (p := ⟨bX, oX + xj, none⟩) lX2).trans zx⟩ (fun hHeld => ?_)
          clear hK K
          try simp only [Act.put, List.setIfInBounds_toArray, List.set_cons_zero, List.set_cons_succ]
          refine wpAnyH_ready (rs := [14, 15]) (by kernel_rfl) (by simp) ?_
          refine AllReadyH.cons (by simp only [List.getElem?_toArray, List.getElem?_cons_zero, List.getElem?_cons_succ]; rfl) (fun K hK => ?_) ?_
          · skip
            go_simp
            go_at_call 36
            (with_reducible refine (CO.out _).mono ?_)
            rintro e wq3 ⟨rfl, hb⟩
            clear hHeld
            replace BD := Lib.hid (chain BD.out hb)
            clear hb
            go_wp2_with fail
            refine hK.out _ _ ⟨(BD.out.cell (p := ⟨bG, oG + j * 5 + 3, none⟩) lG2).trans z3, (BD.out.cell (p := ⟨bX, oX + xj, none⟩) lX2).trans zx⟩ (fun hHeld => ?_)
            clear hK K
            try simp only [Act.put, List.setIfInBounds_toArray, List.set_cons_zero, List.set_cons_succ]
            refine wpAnyH_ready (rs := [15]) (by kernel_rfl) (by simp) ?_
            refine AllReadyH.cons (by simp only [List.getElem?_toArray, List.getElem?_cons_zero, List.getElem?_cons_succ]; rfl) (fun K hK => ?_) ?_
            · skip
              go_simp
              clear hHeld
              obtain ⟨z, hB⟩ : ∃ b, b = wq3.heap.size := ⟨_, rfl⟩
              have zl : wq1.heap.size ≤ z := by rw [hB]; exact BD.out.size
              have Rz : Hid (OC (wq3.alloc (.cells #[.int .u64 0, .int .u64 0] 71)) z On.z) := by rw [hB]; exact heap_alloc_new wq3 _
              rw [← hB]
              clear hB
              replace BD := Lib.hid (chain_alloc BD.out (.cells #[.int .u64 0, .int .u64 0] 71))
              refine hK.out _ _ ⟨(BD.out.cell (p := ⟨bG, oG + j * 5 + 3, none⟩) lG2).trans z3, (BD.out.cell (p := ⟨bX, oX + xj, none⟩) lX2).trans zx⟩ (fun hHeld => ?_)
              clear hK K
              try simp only [Act.put, List.setIfInBounds_toArray, List.set_cons_zero, List.set_cons_succ]
              generalize wq3.alloc (.cells #[.int .u64 0, .int .u64 0] 71) = wq4 at hHeld Rz BD ⊢
              refine wpAnyH_ready (rs := [16]) (by kernel_rfl) (by simp) ?_
              refine AllReadyH.cons (by simp only [List.getElem?_toArray, List.getElem?_cons_zero, List.getElem?_cons_succ]; rfl) (fun K hK => ?_) ?_
              · skip
                obtain ⟨z0, z1⟩ := Rz.out.cells
                have f0 := Rz.out.frozen 0
                have f1 := Rz.out.frozen 1
                go_simp
                clear hHeld
                replace Rz := Lib.hid (Rz.out.set ov)
                replace BD := Lib.hid (below_set2 BD.out zl (.int .u64 (uz ov.d)) (.int .u64 (uz ov.e)))
                refine hK.out _ _ ⟨(BD.out.cell (p := ⟨bG, oG + j * 5 + 3, none⟩) lG2).trans z3, (BD.out.cell (p := ⟨bX, oX + xj, none⟩) lX2).trans zx⟩ (fun hHeld => ?_)
                clear hK K
                try simp only [Act.put, List.setIfInBounds_toArray, List.set_cons_zero, List.set_cons_succ]
                generalize ((wq4.setCell ⟨z, 0, none⟩ (.int .u64 (uz ov.d))).setCell ⟨z, 1, none⟩ (.int .u64 (uz ov.e))) = wq5 at hHeld Rz BD ⊢
                clear z0 z1 f0 f1
                refine wpAnyH_done (by kernel_rfl) ?_ _
                refine NoPanic.normal ?_
                clear hHeld
                have OK2 := Lib.hid (own_belowE OK.out (chain hd BD.out))
                have BK2 := Lib.hid (chain BK.out (chain hd BD.out))
                obtain ⟨z0, z1⟩ := Rz.out.cells
                have hs := BK2.out.size
                have zlt := Rz.out.lt
                have j5 : j ≤ 512 := by have := HJ.out; omega
                clear OK BK z3 z4 zx lG2 lX2 hd BD
                go_wp2_with (at_builtin; refine wpList_append_own _ rfl _ _ 28 rfl w5.heap.size 27 i0 (.int .u64 0) 1 8 Tryz.underlying28 hi hz0 hz1 hz2 rfl (by decide) _ _ _ rfl (OK2.out.alloc _) ⟨wq5.heap.size, 0, none⟩ 2 2 [.int .u64 (uz ov.d), .int .u64 (uz ov.e)] rfl rfl ?c1 ?c2 ?c3 ?c4 ?c5 ?_)
                case c1 => first | exact fun _ _ h => h | exact new_cells
                case c2 => intro u hu; simp at hu; rcases hu with rfl | rfl <;> rfl
                case c3 => unfold maxLen; omega
                case c4 => omega
                case c5 => simp; omega
                intro v' w8 hown2 hgrow _
                have O3 : Hid (w8.ownsRow w5.heap.size 27 1 v' (2 * (k + 1)) ((sayL op (k + 1)).flatMap ucells)) := by
                  show World.ownsRow _ _ _ _ _ _ _
                  rw [say_next, OPK.out, List.flatMap_append]
                  exact hown2
                have B8 : Hid (Below w5.heap.size w5 w8) := (BK2.out.alloc hs _).grown hgrow (by simp; omega) (fun q hqq => (OK2.out.lt _ hqq).1)
                clear hown2 hgrow OK2 BK2 hs z0 z1 zlt Rz zl
                go_wp2_with fail
                go_roundg (m - (k + 1))
                case measure => have := HG.out; have := KN.out; omega
                case rel => exact ⟨k + 1, j + 1, by have := KN.out; omega, rfl, by show _ = _; have := HJ.out; omega, by go_num, O3, B8⟩
              exact AllReadyH.nil
            exact AllReadyH.nil
          refine AllReadyH.cons (by simp only [List.getElem?_toArray, List.getElem?_cons_zero, List.getElem?_cons_succ]; rfl) (fun K hK => ?_) ?_
          · skip
            go_simp
            clear hHeld
            obtain ⟨z, hB⟩ : ∃ b, b = wq2.heap.size := ⟨_, rfl⟩
            have zl : wq1.heap.size ≤ z := by rw [hB]; exact BD.out.size
            have Rz : Hid (OC (wq2.alloc (.cells #[.int .u64 0, .int .u64 0] 71)) z On.z) := by rw [hB]; exact heap_alloc_new wq2 _
            rw [← hB]
            clear hB
            replace BD := Lib.hid (chain_alloc BD.out (.cells #[.int .u64 0, .int .u64 0] 71))
            refine hK.out _ _ ⟨(BD.out.cell (p := ⟨bG, oG + j * 5 + 3, none⟩) lG2).trans z3, (BD.out.cell (p := ⟨bX, oX + xj, none⟩) lX2).trans zx⟩ (fun hHeld => ?_)
            clear hK K
            try simp only [Act.put, List.setIfInBounds_toArray, List.set_cons_zero, List.set_cons_succ]
            generalize wq2.alloc (.cells #[.int .u64 0, .int .u64 0] 71) = wq6 at hHeld Rz BD ⊢
            refine wpAnyH_ready (rs := [14]) (by kernel_rfl) (by simp) ?_
            refine AllReadyH.cons (by simp only [List.getElem?_toArray, List.getElem?_cons_zero, List.getElem?_cons_succ]; rfl) (fun K hK => ?_) ?_
            · skip
              go_simp
              go_at_call 36
              (with_reducible refine (CO.out _).mono ?_)
              rintro e wq7 ⟨rfl, hb⟩
              clear hHeld
              replace BD := Lib.hid (chain BD.out hb)
              replace Rz := Lib.hid (Rz.out.below hb)
              clear hb
              go_wp2_with fail
              refine hK.out _ _ ⟨(BD.out.cell (p := ⟨bG, oG + j * 5 + 3, none⟩) lG2).trans z3, (BD.out.cell (p := ⟨bX, oX + xj, none⟩) lX2).trans zx⟩ (fun hHeld => ?_)
              clear hK K
              try simp only [Act.put, List.setIfInBounds_toArray, List.set_cons_zero, List.set_cons_succ]
              refine wpAnyH_ready (rs := [16]) (by kernel_rfl) (by simp) ?_
              refine AllReadyH.cons (by simp only [List.getElem?_toArray, List.getElem?_cons_zero, List.getElem?_cons_succ]; rfl) (fun K hK => ?_) ?_
              · skip
                obtain ⟨z0, z1⟩ := Rz.out.cells
                have f0 := Rz.out.frozen 0
                have f1 := Rz.out.frozen 1
                go_simp
                clear hHeld
                replace Rz := Lib.hid (Rz.out.set ov)
                replace BD := Lib.hid (below_set2 BD.out zl (.int .u64 (uz ov.d)) (.int .u64 (uz ov.e)))
                refine hK.out _ _ ⟨(BD.out.cell (p := ⟨bG, oG + j * 5 + 3, none⟩) lG2).trans z3, (BD.out.cell (p := ⟨bX, oX + xj, none⟩) lX2).trans zx⟩ (fun hHeld => ?_)
                clear hK K
                try simp only [Act.put, List.setIfInBounds_toArray, List.set_cons_zero, List.set_cons_succ]
                generalize ((wq7.setCell ⟨z, 0, none⟩ (.int .u64 (uz ov.d))).setCell ⟨z, 1, none⟩ (.int .u64 (uz ov.e))) = wq8 at hHeld Rz BD ⊢
                clear z0 z1 f0 f1
                refine wpAnyH_done (by kernel_rfl) ?_ _
                refine NoPanic.normal ?_
                clear hHeld
                have OK2 := Lib.hid (own_belowE OK.out (chain hd BD.out))
                have BK2 := Lib.hid (chain BK.out (chain hd BD.out))
                obtain ⟨z0, z1⟩ := Rz.out.cells
                have hs := BK2.out.size
                have zlt := Rz.out.lt
                have j5 : j ≤ 512 := by have := HJ.out; omega
                clear OK BK z3 z4 zx lG2 lX2 hd BD
                go_wp2_with (at_builtin; refine wpList_append_own _ rfl _ _ 28 rfl w5.heap.size 27 i0 (.int .u64 0) 1 8 Tryz.underlying28 hi hz0 hz1 hz2 rfl (by decide) _ _ _ rfl (OK2.out.alloc _) ⟨wq8.heap.size, 0, none⟩ 2 2 [.int .u64 (uz ov.d), .int .u64 (uz ov.e)] rfl rfl ?c1 ?c2 ?c3 ?c4 ?c5 ?_)
                case c1 => first | exact fun _ _ h => h | exact new_cells
                case c2 => intro u hu; simp at hu; rcases hu with rfl | rfl <;> rfl
                case c3 => unfold maxLen; omega
                case c4 => omega
                case c5 => simp; omega
                intro v' w8 hown2 hgrow _
                have O3 : Hid (w8.ownsRow w5.heap.size 27 1 v' (2 * (k + 1)) ((sayL op (k + 1)).flatMap ucells)) := by
                  show World.ownsRow _ _ _ _ _ _ _
                  rw [say_next, OPK.out, List.flatMap_append]
                  exact hown2
                have B8 : Hid (Below w5.heap.size w5 w8) := (BK2.out.alloc hs _).grown hgrow (by simp; omega) (fun q hqq => (OK2.out.lt _ hqq).1)
                clear hown2 hgrow OK2 BK2 hs z0 z1 zlt Rz zl
                go_wp2_with fail
                go_roundg (m - (k + 1))
                case measure => have := HG.out; have := KN.out; omega
                case rel => exact ⟨k + 1, j + 1, by have := KN.out; omega, rfl, by show _ = _; have := HJ.out; omega, by go_num, O3, B8⟩
              exact AllReadyH.nil
            exact AllReadyH.nil
          exact AllReadyH.nil
        refine AllReadyH.cons (by simp only [List.getElem?_toArray, List.getElem?_cons_zero, List.getElem?_cons_succ]; rfl) (fun K hK => ?_) ?_
        · skip
          go_simp
          clear hHeld
          obtain ⟨z, hB⟩ : ∃ b, b = wq1.heap.size := ⟨_, rfl⟩
          have zl : wq1.heap.size ≤ z := by rw [hB]; exact BD.out.size
          have Rz : Hid (OC (wq1.alloc (.cells #[.int .u64 0, .int .u64 0] 71)) z On.z) := by rw [hB]; exact heap_alloc_new wq1 _
          rw [← hB]
          clear hB
          replace BD := Lib.hid (chain_alloc BD.out (.cells #[.int .u64 0, .int .u64 0] 71))
          refine hK.out _ _ ⟨(BD.out.cell (p := ⟨bG, oG + j * 5 + 3, none⟩) lG2).trans z3, (BD.out.cell (p := ⟨bX, oX + xj, none⟩) lX2).trans zx⟩ (fun hHeld => ?_)
          clear hK K
          try simp only [Act.put, List.setIfInBounds_toArray, List.set_cons_zero, List.set_cons_succ]
          generalize wq1.alloc (.cells #[.int .u64 0, .int .u64 0] 71) = wq9 at hHeld Rz BD ⊢
          refine wpAnyH_ready (rs := [13]) (by kernel_rfl) (by simp) ?_
          refine AllReadyH.cons (by simp only [List.getElem?_toArray, List.getElem?_cons_zero, List.getElem?_cons_succ]; rfl) (fun K hK => ?_) ?_
          · skip
            go_simp
            go_at_call 37
            (with_reducible refine (CH.out _).mono ?_)
            rintro e wq10 ⟨rfl, hb⟩
            clear hHeld
            replace BD := Lib.hid (chain BD.out hb)
            replace Rz := Lib.hid (Rz.out.below hb)
            clear hb
            go_wp2_with fail
            refine hK.out _ _ ⟨(BD.out.cell (p := ⟨bG, oG + j * 5 + 3, none⟩) lG2).trans z3, (BD.out.cell (p := ⟨bX, oX + xj, none⟩) lX2).trans zx⟩ (fun hHeld => ?_)
            clear hK K
            try simp only [Act.put, List.setIfInBounds_toArray, List.set_cons_zero, List.set_cons_succ]
            refine wpAnyH_ready (rs := [14]) (by kernel_rfl) (by simp) ?_
            refine AllReadyH.cons (by simp only [List.getElem?_toArray, List.getElem?_cons_zero, List.getElem?_cons_succ]; rfl) (fun K hK => ?_) ?_
            · skip
              go_simp
              go_at_call 36
              (with_reducible refine (CO.out _).mono ?_)
              rintro e wq11 ⟨rfl, hb⟩
              clear hHeld
              replace BD := Lib.hid (chain BD.out hb)
              replace Rz := Lib.hid (Rz.out.below hb)
              clear hb
              go_wp2_with fail
              refine hK.out _ _ ⟨(BD.out.cell (p := ⟨bG, oG + j * 5 + 3, none⟩) lG2).trans z3, (BD.out.cell (p := ⟨bX, oX + xj, none⟩) lX2).trans zx⟩ (fun hHeld => ?_)
              clear hK K
              try simp only [Act.put, List.setIfInBounds_toArray, List.set_cons_zero, List.set_cons_succ]
              refine wpAnyH_ready (rs := [16]) (by kernel_rfl) (by simp) ?_
              refine AllReadyH.cons (by simp only [List.getElem?_toArray, List.getElem?_cons_zero, List.getElem?_cons_succ]; rfl) (fun K hK => ?_) ?_
              · skip
                obtain ⟨z0, z1⟩ := Rz.out.cells
                have f0 := Rz.out.frozen 0
                have f1 := Rz.out.frozen 1
                go_simp
                clear hHeld
                replace Rz := Lib.hid (Rz.out.set ov)
                replace BD := Lib.hid (below_set2 BD.out zl (.int .u64 (uz ov.d)) (.int .u64 (uz ov.e)))
                refine hK.out _ _ ⟨(BD.out.cell (p := ⟨bG, oG + j * 5 + 3, none⟩) lG2).trans z3, (BD.out.cell (p := ⟨bX, oX + xj, none⟩) lX2).trans zx⟩ (fun hHeld => ?_)
                clear hK K
                try simp only [Act.put, List.setIfInBounds_toArray, List.set_cons_zero, List.set_cons_succ]
                generalize ((wq11.setCell ⟨z, 0, none⟩ (.int .u64 (uz ov.d))).setCell ⟨z, 1, none⟩ (.int .u64 (uz ov.e))) = wq12 at hHeld Rz BD ⊢
                clear z0 z1 f0 f1
                refine wpAnyH_done (by kernel_rfl) ?_ _
                refine NoPanic.normal ?_
                clear hHeld
                have OK2 := Lib.hid (own_belowE OK.out (chain hd BD.out))
                have BK2 := Lib.hid (chain BK.out (chain hd BD.out))
                obtain ⟨z0, z1⟩ := Rz.out.cells
                have hs := BK2.out.size
                have zlt := Rz.out.lt
                have j5 : j ≤ 512 := by have := HJ.out; omega
                clear OK BK z3 z4 zx lG2 lX2 hd BD
                go_wp2_with (at_builtin; refine wpList_append_own _ rfl _ _ 28 rfl w5.heap.size 27 i0 (.int .u64 0) 1 8 Tryz.underlying28 hi hz0 hz1 hz2 rfl (by decide) _ _ _ rfl (OK2.out.alloc _) ⟨wq12.heap.size, 0, none⟩ 2 2 [.int .u64 (uz ov.d), .int .u64 (uz ov.e)] rfl rfl ?c1 ?c2 ?c3 ?c4 ?c5 ?_)
                case c1 => first | exact fun _ _ h => h | exact new_cells
                case c2 => intro u hu; simp at hu; rcases hu with rfl | rfl <;> rfl
                case c3 => unfold maxLen; omega
                case c4 => omega
                case c5 => simp; omega
                intro v' w8 hown2 hgrow _
                have O3 : Hid (w8.ownsRow w5.heap.size 27 1 v' (2 * (k + 1)) ((sayL op (k + 1)).flatMap ucells)) := by
                  show World.ownsRow _ _ _ _ _ _ _
                  rw [say_next, OPK.out, List.flatMap_append]
                  exact hown2
                have B8 : Hid (Below w5.heap.size w5 w8) := (BK2.out.alloc hs _).grown hgrow (by simp; omega) (fun q hqq => (OK2.out.lt _ hqq).1)
                clear hown2 hgrow OK2 BK2 hs z0 z1 zlt Rz zl
                go_wp2_with fail
                go_roundg (m - (k + 1))
                case measure => have := HG.out; have := KN.out; omega
                case rel => exact ⟨k + 1, j + 1, by have := KN.out; omega, rfl, by show _ = _; have := HJ.out; omega, by go_num, O3, B8⟩
              exact AllReadyH.nil
            exact AllReadyH.nil
          exact AllReadyH.nil
        exact AllReadyH.nil
    · obtain rfl : k = m := by omega
      have hfm := HFM.out
      have hj := HJ.out
      obtain rfl : j = fm := by omega
      have d1 : decide (j < j) = false := by simp
      clear hfm hj
      obtain ⟨A', c', rfl, e1, hr, e3, e4⟩ := own_cap ucells_len (by decide) OK.out
      have HR2 := Lib.hid hr; have E3 := Lib.hid e3; have E4 := Lib.hid e4
      have BW := Lib.hid (chain B5.out BK.out)
      clear hr e1 e3 e4
      have vfm := VFM.out; have vfm2 := VFM2.out
      go_wp2_with fail
      go_ret2
      rw [HOK.out, E1.out]
      exact ⟨A', c', 2 * k, rfl, by rw [say_len], HR2.out, BW.out, E3.out, E4.out⟩

end Go.Proofs.YtklgjhldebdegaaGreat

namespace Go.Proofs.YtklgjhldebdegaaGreat
open Go.RowKit

def addR (a b : List UInt64) : List UInt64 := List.zipWith (· + ·) a b
theorem Rg.take {α : Type} {f : α → List Value} {w : World} {A : Option Addr} {xs : List α} (h : Rg f w A xs) (k : Nat) : Rg f w A (xs.take k) := fun h0 => by
  obtain ⟨b, off, e, hlt, hc⟩ := h (by have : (xs.take k).length ≤ xs.length := by simp; omega
                                       omega)
  refine ⟨b, off, e, hlt, fun j u hj => hc j u ?_⟩
  have q : xs.flatMap f = (xs.take k).flatMap f ++ (xs.drop k).flatMap f := by rw [← List.flatMap_append, List.take_append_drop]
  rw [q, List.getElem?_append_left (List.getElem?_eq_some_iff.1 hj).1]
  exact hj
theorem zip_takeR {g : UInt64 → UInt64 → UInt64} (xs ys : List UInt64) : List.zipWith g (xs.take (min xs.length ys.length)) (ys.take (min xs.length ys.length)) = List.zipWith g xs ys := by
  apply List.ext_getElem
  · simp
  · intro i h1 h2
    simp
theorem get_some {α : Type} {xs : List α} {k n : Nat} (h : k < n) (hn : xs.length = n) : ∃ x, xs[k]? = some x := ⟨_, List.getElem?_eq_getElem (by omega)⟩

set_option maxHeartbeats 400000 in
theorem nadd_core (A B : Option Addr) (cA cB na nb n : Nat) (xs ys : List UInt64) (w : World) (hx : Rg ucells w A xs) (hy : Rg ucells w B ys)
    (lx : xs.length = n) (ly : ys.length = n) (hn : n ≤ 1000000) (hc : (n = na ∧ n ≤ nb ∧ n ≤ nb) ∨ (n = nb ∧ n < na ∧ n ≤ na)) :
    Calls Tryz.prog 19 #[.slice A na cA, .slice B nb cB] w (RowNew ucells (List.zipWith (· + ·) xs ys) w) := by
  obtain ⟨i0, hi, hz0, hz1, hz2⟩ := info_parts Tryz.info27
  have HX := Lib.hid hx; clear hx
  have HY := Lib.hid hy; clear hy
  obtain ⟨zs, hzs⟩ : ∃ zs, zs = List.zipWith (· + ·) xs ys := ⟨_, rfl⟩
  rw [← hzs]
  have lz : zs.length = n := by rw [hzs]; simp [lx, ly]
  have HZ := Lib.hid hzs; clear hzs
  have LX := Lib.hid lx; clear lx
  have LY := Lib.hid ly; clear ly
  have LZ := Lib.hid lz; clear lz
  rcases hc with ⟨h1, h2, h3⟩ | ⟨h1, h2, h3⟩
  all_goals
    subst h1
    go_enter Tryz.func19, Tryz.ntmps19
    go_wp2_with fail
    go_loopw [5, 6] (fun v i wr => ∃ k : Nat, k ≤ n ∧ i = .int .i64 k ∧ Hid (wr.ownsRow w.heap.size 27 1 v k ((zs.take k).flatMap ucells)) ∧ Hid (Below w.heap.size w wr)) (fun _ i _ => n - (intOf i).toNat)
    case atStart => exact ⟨0, Nat.zero_le _, rfl, World.ownsRow_nil _ _ _ _, Below.refl _ _⟩
    case round =>
      obtain ⟨k, hk, rfl, HOk, HBk⟩ := hrel
      by_cases hlt : k < n
      · obtain ⟨b1, o1, rfl, l1, c1⟩ := HX.out (by rw [LX.out]; omega)
        obtain ⟨b2, o2, rfl, l2, c2⟩ := HY.out (by rw [LY.out]; omega)
        obtain ⟨x, HXk⟩ := get_some hlt LX.out
        obtain ⟨y, HYk⟩ := get_some hlt LY.out
        have d1 := (HBk.out.cell (p := ⟨b1, o1 + k, none⟩) l1).trans (su_cell c1 HXk)
        have d2 := (HBk.out.cell (p := ⟨b2, o2 + k, none⟩) l2).trans (su_cell c2 HYk)
        have HZk : Hid (zs[k]? = some (x + y)) := by
          show _ = _
          rw [HZ.out, List.getElem?_zipWith, HXk, HYk]
        have hq := Nat.lt_of_lt_of_le hlt h3
        have HU := Lib.hid (uz_add x y)
        have hs := HBk.out.size
        clear c1 c2 HXk HYk
        go_wp2_with fail
        have a1 : u5.ownBlock ≠ some b1 := fun h => absurd (HOk.out.lt _ h).1 (by omega)
        have a2 : u5.ownBlock ≠ some b2 := fun h => absurd (HOk.out.lt _ h).1 (by omega)
        have A1 := Lib.hid a1; clear a1
        have A2 := Lib.hid a2; clear a2
        have k0 : (0 : Int) ≤ (k : Int) := Int.natCast_nonneg _
        have k1 : (k : Int) < (n : Int) := by omega
        have k2 := Int.ofNat_lt.2 hq
        go_region_held3 (fun w' => w'.cell? ⟨b1, o1 + k, none⟩ = some (.int .u64 (uz x)) ∧ w'.cell? ⟨b2, o2 + k, none⟩ = some (.int .u64 (uz y)))
          (first
            | go_keep
            | (go_split_ands
               refine ⟨?_, ?_⟩
               · (rw [hgrow.cell_far _ (by simp; omega) (Ne.symm A1.out)]; assumption)
               · (rw [hgrow.cell_far _ (by simp; omega) (Ne.symm A2.out)]; assumption)))
          ((refine step_append_lies _ (by rfl) _ _ _ (by rfl) w.heap.size 27 i0 _ 1 8 Tryz.underlying28 hi hz0 hz1 hz2 rfl (by omega) u5 k ((zs.take k).flatMap ucells) (by rfl) ((HOk.out.alloc _).drew) ⟨wr.heap.size, 0, none⟩ 1 1 [.int .u64 (IntKind.u64.wrap (uz x + uz y))] (by rfl) (by rfl) (World.news_of_block (cs := #[.int .u64 (IntKind.u64.wrap (uz x + uz y))]) (t := 27) (fr := (0, 0)) (heap_alloc_new wr _)) (by simp [Value.oneCell']) (by omega) (by unfold maxLen; omega) (by omega) (by simp; omega) (wr.heap.size + 1) (by simp) ?_; intro gg cap w2 hown2 hgrow hat hlt2))
        have HO2 : Hid (w2.ownsRow w.heap.size 27 1 (.slice (some ⟨gg, 0, none⟩) (k + 1) cap) (k + 1) ((zs.take (k + 1)).flatMap ucells)) := by
          show World.ownsRow _ _ _ _ _ _ _
          rw [take_get HZk.out, List.flatMap_append]
          simp only [List.flatMap_cons, List.flatMap_nil, List.append_nil, ucells]
          rw [← HU.out]
          exact hown2
        have HB2 : Hid (Below w.heap.size w w2) := ((HBk.out.alloc hs _).drew).grown hgrow (by simp; omega) (fun q hqq => (HOk.out.lt _ hqq).1)
        clear hown2 hgrow hat hlt2 HOk HBk HX HY d1 d2 HZk HU A1 A2 l1 l2 hs hq k2
        go_wp2_with fail
        go_roundw
        case rel => exact ⟨k + 1, by omega, by go_num, HO2, HB2⟩
        case measure => simp [intOf]; omega
      · obtain rfl : k = n := by omega
        have hf := HOk.out
        rw [List.take_of_length_le (by rw [LZ.out]; exact Nat.le_refl _)] at hf
        obtain ⟨A', c', rfl, e1, hr, e3, e4⟩ := own_cap ucells_len (by decide) hf
        have HR := Lib.hid hr; have E3 := Lib.hid e3; have E4 := Lib.hid e4; have E5 := Lib.hid (own_new hf)
        clear hr hf e1 e3 e4
        go_wp2_with fail
        go_ret
        exact ⟨A', c', k, rfl, LZ.out.symm, HR.out, HBk.out, E3.out, E4.out, E5.out⟩
theorem nadd (A B : Option Addr) (cA cB na nb : Nat) (xs ys : List UInt64) (w : World) (hx : Rg ucells w A xs) (hy : Rg ucells w B ys) (lx : na = xs.length) (ly : nb = ys.length) (hn : na ≤ 1000000) :
    Calls Tryz.prog 19 #[.slice A na cA, .slice B nb cB] w (RowNew ucells (addR xs ys) w) := by
  subst lx ly
  have := nadd_core A B cA cB xs.length ys.length (min xs.length ys.length) (xs.take (min xs.length ys.length)) (ys.take (min xs.length ys.length)) w (hx.take _) (hy.take _) (by simp) (by simp) (by omega) (by omega)
  rw [zip_takeR] at this
  exact this

end Go.Proofs.YtklgjhldebdegaaGreat
