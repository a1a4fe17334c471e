/-
  What the laws of this seat stand on, part 14.
-/
import Derived.Test.YtklgjhldebdegaaGreatB13
import Derived.Deep.AppendLies
import Derived.Deep.QuietTactic
import Derived.BigQuiet
import Derived.StillTailTactics
namespace Go.Proofs.YtklgjhldebdegaaGreat
open Go.RowKit

/-- A row of numbers in a block of its own. -/
def RB (w : World) (g : Nat) (us : List UInt64) : Prop :=
  ∃ cs : Array Value, w.heap[g]? = some (.cells cs 27 (0, 0)) ∧ cs.size = us.length ∧ ∀ (j : Nat) u, us[j]? = some u → cs[j]? = some (.int .u64 (uz u))
theorem RB.lt {w : World} {g : Nat} {us : List UInt64} (h : RB w g us) : g < w.heap.size := by
  obtain ⟨cs, h1, _⟩ := h
  exact (Array.getElem?_eq_some_iff.1 h1).1
theorem RB.start (w : World) (n : Nat) : RB (w.alloc (.cells (madeCells #[.int .u64 0] n) 27)) w.heap.size (noughts n) := by
  refine ⟨_, heap_alloc_new w _, by rw [size_madeCells]; simp [noughts], fun j u hj => ?_⟩
  unfold noughts at hj
  rw [List.getElem?_replicate] at hj
  by_cases q : j < n
  · rw [if_pos q] at hj
    obtain rfl := Option.some.inj hj
    simp [madeCells, q, Nat.mod_one]
    rfl
  · rw [if_neg q] at hj; cases hj
theorem RB.kept {w w' : World} {g : Nat} {us : List UInt64} (h : RB w g us) (hb : w'.heap[g]? = w.heap[g]?) : RB w' g us := by
  obtain ⟨cs, h1, h2⟩ := h
  exact ⟨cs, hb.trans h1, h2⟩
theorem RB.below {w w' : World} {g : Nat} {us : List UInt64} (h : RB w g us) (hb : Below w.heap.size w w') : RB w' g us := h.kept (hb.block g h.lt)
theorem RB.cell {w : World} {g : Nat} {us : List UInt64} (h : RB w g us) {j : Nat} (hj : j < us.length) : w.cell? ⟨g, j, none⟩ = some (.int .u64 (uz (us.getD j 0))) := by
  obtain ⟨cs, h1, _, h3⟩ := h
  rw [Lib.cell_of_heap h1]
  exact h3 j _ (by rw [List.getElem?_eq_getElem hj]; simp [List.getD_eq_getElem?_getD, hj])
theorem RB.frozen {w : World} {g : Nat} {us : List UInt64} (h : RB w g us) (j : Nat) : w.frozen? ⟨g, j, none⟩ = false := by
  obtain ⟨cs, h1, _⟩ := h
  exact Lib.frozen_of_heap h1 j
theorem RB.set {w : World} {g : Nat} {us : List UInt64} (h : RB w g us) (j : Nat) (x : UInt64) : RB (w.setCell ⟨g, j, none⟩ (.int .u64 (uz x))) g (us.set j x) := by
  obtain ⟨cs, h1, h2, h3⟩ := h
  refine ⟨_, Lib.heap_setCell_same h1 _, by simp [h2], fun i u hi => ?_⟩
  rw [List.getElem?_set] at hi
  by_cases e : j = i
  · subst e
    rw [if_pos rfl] at hi
    by_cases q : j < us.length
    · rw [if_pos q] at hi
      obtain rfl := Option.some.inj hi
      exact Array.getElem?_setIfInBounds_self_of_lt (by omega)
    · rw [if_neg q] at hi; cases hi
  · rw [if_neg e] at hi
    rw [Array.getElem?_setIfInBounds_ne e]
    exact h3 i u hi
theorem RB.rg {w : World} {g : Nat} {us : List UInt64} (h : RB w g us) : Rg ucells w (some ⟨g, 0, none⟩) us := fun _ => by
  have hl := h.lt
  obtain ⟨cs, h1, h2, h3⟩ := h
  refine ⟨g, 0, rfl, hl, fun j u hu => ?_⟩
  rw [Nat.zero_add, Lib.cell_of_heap h1]
  have hj : j < us.length := by
    have := (List.getElem?_eq_some_iff.1 hu).1
    rw [flat_len ucells_len] at this; omega
  have hx := List.getElem?_eq_getElem hj
  have := flat_get ucells_len us j 0 _ hx (by decide)
  rw [Nat.mul_one, Nat.add_zero] at this
  rw [this] at hu
  obtain rfl := Option.some.inj hu
  exact h3 j _ hx
theorem RB.ne {w : World} {g b i : Nat} {us : List UInt64} (h : RB w g us) {x : Int} (hc : w.cell? ⟨b, i, none⟩ = some (.int .i64 x)) : b ≠ g := fun e => by
  subst e
  obtain ⟨cs, h1, h2, h3⟩ := h
  rw [Lib.cell_of_heap h1] at hc
  have hi := (Array.getElem?_eq_some_iff.1 hc).1
  have := h3 i _ (List.getElem?_eq_getElem (by omega))
  rw [hc] at this
  injection this with this
  injection this with this _
  cases this
theorem acc_row (at' : Nat → Nat) (val : Nat → UInt64) (o : List UInt64) (k a : Nat) (v : UInt64) (ha : at' k = a) (hv : val k = v) : accL at' val o (k + 1) = (accL at' val o k).set a ((accL at' val o k).getD a 0 + v) := by rw [accL, ha, hv]

set_option maxHeartbeats 8000000 in
set_option maxRecDepth 100000 in
theorem rnext13 (c h x : Int) (A X Y : Option Addr) (cA n cX nx cY ny : Nat) (ls : List Ly) (ms ts : List UInt64) (a : Int) (z : UInt64) (s : Int) (w : World) (hx : Rl w A ls) (ln : n = ls.length) (hn : n ≤ 60) (hX : Rg ucells w X ms) (lx : nx = ms.length) (hY : Rg ucells w Y ts) (ly : ny = ts.length) :
    Calls Tryz.prog 16 #[.agg #[.int .i64 c, .int .i64 h, .int .i64 x, .slice A n cA], .int .i64 a, .int .u64 (uz z), .int .i64 s, .slice X nx cX, .slice Y ny cY] w (PairTo (nextU ⟨c, h, x, ls⟩ a z s ms ts) (okNx ⟨c, h, x, ls⟩ s ms ts) w) := by
  obtain ⟨i0, hi, hz0, hz1, hz2⟩ := info_parts Tryz.info27
  have HX := Lib.hid hx; have LX := Lib.hid ln; have HXR := Lib.hid hX; have LXX := Lib.hid lx; have HYR := Lib.hid hY; have LYY := Lib.hid ly
  have NO : Hid (okNx ⟨c, h, x, ls⟩ s ms ts = false → nextU ⟨c, h, x, ls⟩ a z s ms ts = []) := fun e => if_neg (by rw [e]; decide)
  have hn1 : n ≤ 1000 := by omega
  obtain ⟨la, hla⟩ : ∃ la, la = (lineN ⟨c, h, x, ls⟩ s).1 := ⟨_, rfl⟩
  obtain ⟨lb, hlb⟩ : ∃ lb, lb = (lineN ⟨c, h, x, ls⟩ s).2 := ⟨_, rfl⟩
  obtain ⟨kn, hkn⟩ : ∃ kn, kn = inN ⟨c, h, x, ls⟩ s := ⟨_, rfl⟩
  have HLB := Lib.hid hlb; have HKN := Lib.hid hkn
  have LN : Hid (lineN ⟨c, h, x, ls⟩ s = (la, lb)) := by show _ = _; rw [hla, hlb]
  clear hx ln hX lx hY ly hla hlb hkn
  go_enter Tryz.func16, Tryz.ntmps16
  go_wp2_with fail
  refine (rin13 c h x A cA n ls s _ (HX.out.below ((Below.refl _ w).alloc (Nat.le_refl _) _)) LX.out hn).mono ?_
  rintro e w1 ⟨rfl, hb⟩
  rw [← HKN.out]
  have B1 := Lib.hid (chain ((Below.refl w.heap.size w).alloc (Nat.le_refl _) _) hb)
  have N1 := Lib.hid ((NB.new w c h x (.slice A n cA)).below hb)
  clear hb
  by_cases k0 : kn < 0
  · have b0 : decide (kn < 0) = true := decide_eq_true k0
    have E0 : Hid (okNx ⟨c, h, x, ls⟩ s ms ts = false) := decide_eq_false fun q => by
      have := HKN.out
      unfold inN at this
      rw [if_pos q.1] at this
      have := (size_bd (endS (⟨c, h, x, ls⟩ : Nt).s ((⟨c, h, x, ls⟩ : Nt).ls.take (stgN ⟨c, h, x, ls⟩ s.toNat)))).1
      omega
    have E1 := Lib.hid (NO.out E0.out)
    clear k0
    go_wp2_with fail
    go_ret2
    rw [E0.out, E1.out]
    exact ⟨none, 0, 0, rfl, rfl, Rg.nil _ _ _, B1.out, Nat.le_refl _, Nat.zero_le _⟩
  have b0 : decide (kn < 0) = false := decide_eq_false k0
  have hst : isSt ⟨c, h, x, ls⟩ s = true := by
    by_cases q : isSt ⟨c, h, x, ls⟩ s = true
    · exact q
    · have := in_no (N := ⟨c, h, x, ls⟩) (s := s) (by simpa using q)
      rw [HKN.out, this] at k0
      omega
  obtain ⟨he, s0, s1⟩ := isSt_out hst
  obtain ⟨st, rfl⟩ : ∃ st : Nat, s = st := ⟨s.toNat, by omega⟩
  have HE := Lib.hid he; have HST := Lib.hid hst
  have SB : Hid (st ≤ (stagesN ⟨c, h, x, ls⟩).length) := by show _ ≤ _; omega
  clear k0 hst he s0 s1
  obtain ⟨c0, c1, c2, c3⟩ := N1.out.cells
  go_wp2_with fail
  refine (rline8 c h x A cA n ls (st : Int) la lb LN.out _ (HX.out.below B1.out) LX.out hn).mono ?_
  rintro e w2 ⟨rfl, hb⟩
  have B2 := Lib.hid (chain B1.out hb)
  have N2 := Lib.hid (N1.out.below hb)
  clear hb c0 c1 c2 c3 B1 N1
  by_cases hxn : ¬ (nx : Int) = lb
  · have b1 : ((nx : Int) != lb) = true := by simpa using hxn
    have E0 : Hid (okNx ⟨c, h, x, ls⟩ (st : Int) ms ts = false) := decide_eq_false fun q => hxn (by rw [LXX.out, HLB.out]; exact q.2.1)
    have E1 := Lib.hid (NO.out E0.out)
    clear hxn
    go_wp2_with fail
    go_ret2
    rw [E0.out, E1.out]
    exact ⟨none, 0, 0, rfl, rfl, Rg.nil _ _ _, B2.out, Nat.le_refl _, Nat.zero_le _⟩
  have hxn : (nx : Int) = lb := Decidable.not_not.1 hxn
  have b1 : ((nx : Int) != lb) = false := by rw [hxn]; simp
  by_cases hyn : ¬ (ny : Int) = lb
  · have b2 : ((ny : Int) != lb) = true := by simpa using hyn
    have E0 : Hid (okNx ⟨c, h, x, ls⟩ (st : Int) ms ts = false) := decide_eq_false fun q => hyn (by rw [LYY.out, HLB.out]; exact q.2.2)
    have E1 := Lib.hid (NO.out E0.out)
    clear hxn hyn
    go_wp2_with fail
    go_ret2
    rw [E0.out, E1.out]
    exact ⟨none, 0, 0, rfl, rfl, Rg.nil _ _ _, B2.out, Nat.le_refl _, Nat.zero_le _⟩
  have hyn : (ny : Int) = lb := Decidable.not_not.1 hyn
  have b2 : ((ny : Int) != lb) = false := by rw [hyn]; simp
  have hok : okNx ⟨c, h, x, ls⟩ (st : Int) ms ts = true := decide_eq_true ⟨HST.out, by rw [← LXX.out, hxn]; exact HLB.out, by rw [← LYY.out, hyn]; exact HLB.out⟩
  have HOK := Lib.hid hok
  have HXN := Lib.hid hxn; have HYN := Lib.hid hyn
  clear NO hok hxn hyn
  obtain ⟨c0, c1, c2, c3⟩ := N2.out.cells
  go_wp2_with fail
  refine (rstages8 c h x A cA n ls _ (HX.out.below B2.out) LX.out hn).mono ?_
  rintro e w3 ⟨A2, k2, n2, rfl, hn2, hR2, hb, hd1, hd2⟩
  have B3 := Lib.hid (chain B2.out hb)
  have N3 := Lib.hid (N2.out.below hb)
  have RS := Lib.hid hR2
  have L2 := Lib.hid hn2
  clear hb hR2 hn2 hd1 hd2 c0 c1 c2 c3 B2 N2
  by_cases js : st = n2
  · subst js
    have b3 : ((st : Int) == (st : Int)) = true := by simp
    have E1 : Hid (nextU ⟨c, h, x, ls⟩ a z (st : Int) ms ts = addU ms ts) := by
      show _ = _
      unfold nextU
      rw [if_pos HOK.out, if_pos (by rw [L2.out])]
    have nb : nx ≤ 1000000 := by
      have := HXN.out
      have q := line_last HE.out
      rw [← L2.out, ← HLB.out] at q
      have := (size_bd (endS ⟨c, h, x⟩ ls)).2
      omega
    go_wp2_with fail
    refine (nadd X Y cX cY nx ny ms ts _ (HXR.out.below B3.out) (HYR.out.below B3.out) LXX.out LYY.out nb).mono ?_
    rintro e w4 ⟨A4, k4, n4, rfl, h1, h2, hb, h4, h5, h6⟩
    have M4 := Lib.hid h1; have R4 := Lib.hid h2; have B4 := Lib.hid (chain B3.out hb); have K4 := Lib.hid h4; have K5 := Lib.hid h5
    clear h1 h2 hb h4 h5 h6
    go_wp2_with fail
    go_ret2
    rw [HOK.out, E1.out]
    exact ⟨A4, k4, n4, rfl, M4.out, R4.out, B4.out, K4.out, K5.out⟩
  have b3 : ((st : Int) == (n2 : Int)) = false := by simp; omega
  have hs : st < (stagesN ⟨c, h, x, ls⟩).length := by have := SB.out; rw [← L2.out] at this ⊢; omega
  have HS := Lib.hid hs
  have LM : Hid (lb = ((2 * manyN ⟨c, h, x, ls⟩ st : Nat) : Int)) := by show _ = _; rw [HLB.out]; exact line_many HE.out hs
  obtain ⟨f, hf⟩ : ∃ f, f = fromN ⟨c, h, x, ls⟩ st := ⟨_, rfl⟩
  obtain ⟨m, hm⟩ : ∃ m, m = manyN ⟨c, h, x, ls⟩ st := ⟨_, rfl⟩
  have HF := Lib.hid hf; have HM := Lib.hid hm
  have bd := many_bd HE.out hs
  have gb := gates_bd (c := c) (h := h) (x := x) (ls := ls)
  rw [← hf, ← hm] at bd
  have GL : Hid (f + m ≤ (gatesN ⟨c, h, x, ls⟩).length) := bd
  have f5 : f ≤ 512 := by omega
  have m5 : f + m ≤ 512 := by omega
  have nxm : nx = 2 * m := by have := HXN.out; have := LM.out; rw [← hm] at this; omega
  have nym : ny = 2 * m := by have := HYN.out; have := LM.out; rw [← hm] at this; omega
  have RNG : Hid (rangeN ⟨c, h, x, ls⟩ (st : Int) = ((f : Int), (m : Int))) := by
    show _ = _
    have r := range_yes hs
    have q1 : 0 ≤ totP (((stagesN ⟨c, h, x, ls⟩).take st).map (atN ⟨c, h, x, ls⟩)) := (tot_bd _ (fun y hy => by obtain ⟨i, _, rfl⟩ := List.mem_map.1 hy; exact at_ok _ _)).2.2.1
    have q2 : 0 ≤ (atN ⟨c, h, x, ls⟩ ((stagesN ⟨c, h, x, ls⟩).getD st 0)).p := (KnOk.p (at_ok _ _)).1
    have e1 : (f : Int) = (rangeN ⟨c, h, x, ls⟩ (st : Int)).1 := by rw [hf]; unfold fromN; rw [r]; show ((totP _).toNat : Int) = totP _; omega
    have e2 : (m : Int) = (rangeN ⟨c, h, x, ls⟩ (st : Int)).2 := by rw [hm]; unfold manyN; rw [r]; show ((Kn.p _).toNat : Int) = Kn.p _; omega
    rw [e1, e2]
  obtain ⟨q1, q2, q3, q4⟩ := stg_at HE.out hs
  obtain ⟨ig, hig⟩ : ∃ ig, ig = stgN ⟨c, h, x, ls⟩ st := ⟨_, rfl⟩
  rw [← hig] at q1 q4
  obtain ⟨K, hK⟩ : ∃ K, K = atN ⟨c, h, x, ls⟩ (ig : Int) := ⟨_, rfl⟩
  have hl := get_ly q1
  have hKe := hK.trans (at_some HE.out hl)
  have GD : Good K := by rw [hK]; exact good_i HE.out q1
  obtain ⟨ku, hku⟩ : ∃ ku : Nat, K.u.n = ku := ⟨K.u.n.toNat, by have := size_bd K.u; omega⟩
  have ku8 : ku ≤ 128 := by have := size_bd K.u; omega
  have HKU := Lib.hid hku
  obtain ⟨at', hat'⟩ : ∃ at' : Nat → Nat, at' = fun j => (gtN ⟨c, h, x, ls⟩ (f + j)).a.toNat := ⟨_, rfl⟩
  obtain ⟨cl, hcl⟩ : ∃ cl : Nat → UInt64, cl = clA a z f ms ts := ⟨_, rfl⟩
  have E1 : Hid (nextU ⟨c, h, x, ls⟩ a z (st : Int) ms ts = poolsU ⟨c, h, x, ls⟩ (ig + 1) (accL at' cl (noughts ku) m)) := by
    show _ = _
    unfold nextU
    rw [if_pos HOK.out, if_neg (by rw [← L2.out]; omega), Int.toNat_natCast, ← hig, hat', hcl, hf, hm]
    unfold sumsU
    rw [← hig, ← hK, hku]
    rfl
  have AT := Lib.hid hat'; have CL := Lib.hid hcl
  have GI : Hid (∀ j : Nat, j < m → 0 ≤ (gtN ⟨c, h, x, ls⟩ (f + j)).a ∧ (gtN ⟨c, h, x, ls⟩ (f + j)).a < (ku : Int)) := fun j hj => by
    have := gate_in HE.out hs (j := j) (by rw [← hm]; exact hj)
    rw [← hf, ← hig, ← hK, hku] at this
    exact this.2.2.2
  have PS : Hid (∀ w, Calls Tryz.prog 32 #[.agg #[.int .i64 K.u.c, .int .i64 K.u.h, .int .i64 K.u.x]] w fun e w' => e = .returned (.int .i64 (ku : Int)) ∧ Below w.heap.size w w') := fun w => by rw [← hku]; exact rsize_any _ _ _ w
  have hmk : ∀ w : World, (Instr.makeSlice 28 (.int .i64 (ku : Int)) (.int .i64 (ku : Int))).run Tryz.prog w = .ok (.slice (some ⟨w.heap.size, 0, none⟩) ku ku) (w.alloc (.cells (madeCells #[.int .u64 0] ku) 27)) := fun w => by
    have := run_make (P := Tryz.prog) w 28 27 i0 _ Tryz.underlying28 hi hz0 .i64 .i64 ku ku (by omega) (Int.le_refl _) (by rw [hz2]; omega) (by omega)
    rw [hz1, Nat.mul_one] at this
    exact this
  have HMK := Lib.hid hmk
  have KU : Hid (K.u = endS ⟨c, h, x⟩ (ls.take (ig + 1))) := by show _ = _; rw [hKe, run_end c h x ls hl]
  have IGN : Hid (ig < ls.length) := q1
  have igl : ig < n := by rw [LX.out]; exact q1
  have SQ := Lib.hid q4
  have NXM := Lib.hid nxm; have NYM := Lib.hid nym
  clear hf hm bd gb hs js hat' hcl hmk q1 q2 q3 q4 hig hKe GD hku hl hK nxm nym
  obtain ⟨c0, c1, c2, c3⟩ := N3.out.cells
  go_wp2_with fail
  refine (rshapes_any c h x A cA n ls _ (HX.out.below B3.out) LX.out hn1).mono ?_
  rintro e w4 ⟨A1, k1, n1, rfl, hn1', hR, hb, hd1, hd2⟩
  rw [HE.out]
  rw [shN_ok HE.out] at hR hn1'
  rw [sh_len, ← LX.out] at hn1'
  have B4 := Lib.hid (chain B3.out hb)
  have N4 := Lib.hid (N3.out.below hb)
  have RS4 := Lib.hid (RS.out.below hb)
  obtain ⟨bS, oS, rfl, hlS, hcS⟩ := hR (by rw [sh_len]; omega)
  obtain ⟨bT, oT, rfl, hlT, hcT⟩ := RS4.out (by have := HS.out; omega)
  have y0 := in_cell hcT SQ.out
  have g2 := sh_get ls ⟨c, h, x⟩ (ig + 1) (by have := IGN.out; omega)
  rw [← KU.out] at g2
  obtain ⟨i1, hi1⟩ : ∃ i1, i1 = ig + 1 := ⟨_, rfl⟩
  rw [← hi1] at g2
  obtain ⟨a4, a5, a6⟩ := sh_at hcS g2
  have st0 : (0 : Int) ≤ (st : Int) := by omega
  have st1 : (st : Int) < (n2 : Int) := by have := HS.out; rw [← L2.out] at this; omega
  have st2 : st < n2 := by omega
  have i10 : (0 : Int) ≤ (i1 : Int) := by omega
  have i11 : (i1 : Int) < (n1 : Int) := by omega
  have i12 : i1 < n1 := by omega
  have v1 : IntKind.i64.wrap ((ig : Int) + 1) = (i1 : Int) := next_i64 hi1 (Nat.lt_succ_self ig) (by omega)
  have v2 : wrap64 ((ig : Int) + 1) = (i1 : Int) := next_wrap hi1 (Nat.lt_succ_self ig) (by omega)
  have V1 := Lib.hid v1; have V2 := Lib.hid v2
  have hmk := HMK.out
  have HI1 := Lib.hid hi1
  clear hb hR hn1' hd1 hd2 c0 c1 c2 c3 B3 N3 RS hcS hcT g2 hi1
  go_wp2_with fail
  refine (PS.out _).mono ?_
  rintro e w5 ⟨rfl, hb⟩
  have B5 := Lib.hid (chain B4.out hb)
  have N5 := Lib.hid (N4.out.below hb)
  have Y0 := Lib.hid ((hb.cell (p := ⟨bT, oT + st, none⟩) hlT).trans y0)
  have hlT5 := Nat.lt_of_lt_of_le hlT hb.size
  clear hb y0 a4 a5 a6 hlT hlS v1 v2 B4 N4 RS4
  obtain ⟨c0, c1, c2, c3⟩ := N5.out.cells
  have nl := N5.out.lt
  go_wp2_with fail
  obtain ⟨W6, hW6⟩ : ∃ W, W = w5.alloc (.cells (madeCells #[.int .u64 0] ku) 27) := ⟨_, rfl⟩
  obtain ⟨bO, hbO⟩ : ∃ b, b = w5.heap.size := ⟨_, rfl⟩
  have O6 : Hid (RB W6 bO (noughts ku)) := by rw [hW6, hbO]; exact RB.start w5 ku
  have b56 : Below w5.heap.size w5 W6 := by rw [hW6]; exact (Below.refl _ _).alloc (Nat.le_refl _) _
  rw [← hW6, ← hbO]
  have B6 := Lib.hid (chain B5.out b56)
  have N6 := Lib.hid (N5.out.below b56)
  have B56 : Hid (Below bO w5 W6) := by rw [hbO]; exact b56
  have HBO := Lib.hid hbO
  clear hW6 hbO b56 hmk c0 c1 c2 c3 nl
  refine (rrange8 c h x A cA n ls (st : Int) (f : Int) (m : Int) RNG.out _ (HX.out.below B6.out) LX.out hn).mono ?_
  rintro e w7 ⟨rfl, hb⟩
  have B7 := Lib.hid (chain B6.out hb)
  have N7 := Lib.hid (N6.out.below hb)
  have O7 := Lib.hid (O6.out.below hb)
  have B57 : Hid (Below bO w5 w7) := B56.out.trans (hb.mono (Nat.le_of_lt O6.out.lt))
  clear hb B6 N6 O6 B56
  obtain ⟨c0, c1, c2, c3⟩ := N7.out.cells
  go_wp2_with fail
  refine (rgates8 c h x A cA n ls _ (HX.out.below B7.out) LX.out hn).mono ?_
  rintro e w8 ⟨A3, k3, n3, rfl, hn3, hR3, hb, hd1, hd2⟩
  have B8 := Lib.hid (chain B7.out hb)
  have N8 := Lib.hid (N7.out.below hb)
  have O8 := Lib.hid (O7.out.below hb)
  have B58 : Hid (Below bO w5 w8) := B57.out.trans (hb.mono (Nat.le_of_lt O7.out.lt))
  have L3 := Lib.hid hn3
  have R3 := Lib.hid hR3
  have g3 : f + m ≤ n3 := by rw [hn3]; exact GL.out
  have G5 : n3 ≤ 512 := by rw [hn3]; exact gates_bd
  clear hb hR3 hn3 hd1 hd2 c0 c1 c2 c3 B7 N7 O7 B57
  go_wp2_with fail
  go_loopg [23, 24, 25] m (fun g s23 _ _ wx => ∃ k : Nat, k ≤ m ∧ Hid (g = m - k) ∧ s23 = .int .i64 (k : Int) ∧ Hid (RB wx bO (accL at' cl (noughts ku) k)) ∧ Hid (Below bO w5 wx) ∧ Hid (∀ b, b < w8.heap.size → b ≠ bO → wx.heap[b]? = w8.heap[b]?) ∧ Hid (w8.heap.size ≤ wx.heap.size))
  case atStart => exact ⟨0, by omega, by show _ = _; omega, rfl, O8, B58, fun _ _ _ => rfl, Nat.le_refl _⟩
  case round =>
    obtain ⟨k, hk, HG, rfl, OK, BK, KG, KS⟩ := hrel
    by_cases km : k < m
    · have d1 : (k : Int) < (m : Int) := by omega
      have KM : Hid (k < m) := km
      obtain ⟨bX, oX, rfl, lX, qX⟩ := HXR.out (by rw [← LXX.out, NXM.out]; omega)
      obtain ⟨bY, oY, rfl, lY, qY⟩ := HYR.out (by rw [← LYY.out, NYM.out]; omega)
      obtain ⟨p0, hp0⟩ : ∃ p0, p0 = 2 * k := ⟨_, rfl⟩
      obtain ⟨p1, hp1⟩ : ∃ p1, p1 = p0 + 1 := ⟨_, rfl⟩
      obtain ⟨mx, hmx⟩ : ∃ mx : On, mx = ⟨ug ms ((p0 : Nat) : Int), ug ms ((p1 : Nat) : Int)⟩ := ⟨_, rfl⟩
      obtain ⟨my, hmy⟩ : ∃ my : On, my = ⟨ug ts ((p0 : Nat) : Int), ug ts ((p1 : Nat) : Int)⟩ := ⟨_, rfl⟩
      have x0 := su_cell qX (ug_get (us := ms) (j := p0) (by rw [← LXX.out, NXM.out]; omega))
      have x1 := su_cell qX (ug_get (us := ms) (j := p1) (by rw [← LXX.out, NXM.out]; omega))
      have y0 := su_cell qY (ug_get (us := ts) (j := p0) (by rw [← LYY.out, NYM.out]; omega))
      have y1 := su_cell qY (ug_get (us := ts) (j := p1) (by rw [← LYY.out, NYM.out]; omega))
      rw [show ug ms ((p0 : Nat) : Int) = mx.d by rw [hmx]] at x0
      rw [show ug ms ((p1 : Nat) : Int) = mx.e by rw [hmx]] at x1
      rw [show ug ts ((p0 : Nat) : Int) = my.d by rw [hmy]] at y0
      rw [show ug ts ((p1 : Nat) : Int) = my.e by rw [hmy]] at y1
      have lX5 : bX < bO := by rw [HBO.out]; exact Nat.lt_of_lt_of_le lX B5.out.size
      have lY5 : bY < bO := by rw [HBO.out]; exact Nat.lt_of_lt_of_le lY B5.out.size
      have toX : ∀ {i : Nat} {v : Value}, w.cell? ⟨bX, i, none⟩ = some v → wr.cell? ⟨bX, i, none⟩ = some v := fun {i v} q => (BK.out.cell (p := ⟨bX, i, none⟩) lX5).trans ((B5.out.cell (p := ⟨bX, i, none⟩) lX).trans q)
      have toY : ∀ {i : Nat} {v : Value}, w.cell? ⟨bY, i, none⟩ = some v → wr.cell? ⟨bY, i, none⟩ = some v := fun {i v} q => (BK.out.cell (p := ⟨bY, i, none⟩) lY5).trans ((B5.out.cell (p := ⟨bY, i, none⟩) lY).trans q)
      replace x0 := toX x0
      replace x1 := toX x1
      replace y0 := toY y0
      replace y1 := toY y1
      have olt := OK.out.lt
      have lx0 : bX < wr.heap.size := by omega
      have lx1 : bX < wr.heap.size := by omega
      have ly0 : bY < wr.heap.size := by omega
      have ly1 : bY < wr.heap.size := by omega
      obtain ⟨ov, hov⟩ : ∃ ov, ov = sumO mx my := ⟨_, rfl⟩
      have CS : Hid (∀ w, Calls Tryz.prog 42 #[.agg #[.int .u64 (uz mx.d), .int .u64 (uz mx.e)], .agg #[.int .u64 (uz my.d), .int .u64 (uz my.e)]] w fun e w' => e = .returned (.agg #[.int .u64 (uz ov.d), .int .u64 (uz ov.e)]) ∧ Below w.heap.size w w') := fun w => by rw [hov]; exact rsum12 mx my w
      obtain ⟨j, hj⟩ : ∃ j, j = f + k := ⟨_, rfl⟩
      obtain ⟨tr, htr⟩ : ∃ tr, tr = halfU z a (UInt64.ofNat j) := ⟨_, rfl⟩
      have CH : Hid (∀ w, Calls Tryz.prog 37 #[.int .u64 (uz z), .int .i64 a, .int .u64 (uz (UInt64.ofNat j))] w fun e w' => e = .returned (.agg #[.int .u64 (uz tr.a), .int .u64 (uz tr.b), .int .u64 (uz tr.c)]) ∧ Below w.heap.size w w') := fun w => by rw [htr]; exact rhalf11 z a _ w
      obtain ⟨cv, hcv⟩ : ∃ cv, cv = closeU a ov tr := ⟨_, rfl⟩
      have CC : Hid (∀ w, Calls Tryz.prog 43 #[.int .i64 a, .agg #[.int .u64 (uz ov.d), .int .u64 (uz ov.e)], .agg #[.int .u64 (uz tr.a), .int .u64 (uz tr.b), .int .u64 (uz tr.c)]] w fun e w' => e = .returned (.int .u64 (uz cv)) ∧ Below w.heap.size w w') := fun w => by rw [hcv]; exact rclose12 a ov tr w
      have CV : Hid (cl k = cv) := by
        show _ = _
        rw [CL.out, hcv, hov, hmx, hmy, htr, hj, hp1, hp0]
        rfl
      obtain ⟨aN, haN⟩ : ∃ aN : Nat, (gtN ⟨c, h, x, ls⟩ j).a = aN := ⟨(gtN ⟨c, h, x, ls⟩ j).a.toNat, by have := (GI.out k km).1; rw [← hj] at this; omega⟩
      have aNk : aN < ku := by have := (GI.out k km).2; rw [← hj, haN] at this; omega
      have AV : Hid (at' k = aN) := by show _ = _; rw [AT.out]; show (gtN ⟨c, h, x, ls⟩ (f + k)).a.toNat = aN; rw [← hj, haN]; simp
      have NE : Hid (∀ b off, A3 = some ⟨b, off, none⟩ → 0 < (gatesN ⟨c, h, x, ls⟩).length → b < w8.heap.size ∧ b ≠ bO) := fun b off e h0 => by
        obtain ⟨b', o', e', l', q'⟩ := R3.out h0
        rw [e] at e'
        injection e' with e'
        injection e' with e1 e2
        subst e1
        have := (g_cells q' (gt_rng (c := c) (h := h) (x := x) (ls := ls) h0)).1
        exact ⟨l', O8.out.ne this⟩
      have R3k : Hid (Rg gcells wr A3 (gatesN ⟨c, h, x, ls⟩)) := R3.out.kept fun b off e h0 => KG.out b (NE.out b off e h0).1 (NE.out b off e h0).2
      obtain ⟨bG, oG, rfl, lG, qG⟩ := R3k.out (by have := GL.out; omega)
      obtain ⟨z0, z1, z2, z3, z4⟩ := g_cells qG (gt_rng (c := c) (h := h) (x := x) (ls := ls) (j := j) (by have := GL.out; omega))
      rw [haN] at z1
      have Z1 := Lib.hid z1
      have jf0 : (0 : Int) ≤ (j : Int) := by omega
      have jf1 : (j : Int) < (n3 : Int) := by omega
      have jf2 : j < n3 := by omega
      have p00 : (0 : Int) ≤ (p0 : Int) := by omega
      have p10 : (0 : Int) ≤ (p1 : Int) := by omega
      have p0x : p0 < nx := by have := NXM.out; omega
      have p1x : p1 < nx := by have := NXM.out; omega
      have p0y : p0 < ny := by have := NYM.out; omega
      have p1y : p1 < ny := by have := NYM.out; omega
      have v1 : IntKind.i64.wrap (2 * (k : Int)) = (p0 : Int) := by rw [IntWalk.i64_in _ (by omega)]; omega
      have P1 := Lib.hid v1
      clear v1
      have v1 : wrap64 (2 * (k : Int)) = (p0 : Int) := by rw [IntWalk.wrap64_in _ (by omega)]; omega
      have P2 := Lib.hid v1
      clear v1
      have P3 := Lib.hid (next_i64 hp1 (Nat.lt_succ_self p0) (show p0.succ ≤ 100000 by omega))
      have P4 := Lib.hid (next_wrap hp1 (Nat.lt_succ_self p0) (show p0.succ ≤ 100000 by omega))
      have v1 : IntKind.i64.wrap ((f : Int) + (k : Int)) = (j : Int) := by rw [IntWalk.i64_in _ (by omega)]; omega
      have P5 := Lib.hid v1
      clear v1
      have v1 : wrap64 ((f : Int) + (k : Int)) = (j : Int) := by rw [IntWalk.wrap64_in _ (by omega)]; omega
      have P6 := Lib.hid v1
      clear v1
      have u1 : IntKind.u64.wrap (j : Int) = uz (UInt64.ofNat j) := uz_conv j
      have HJ := Lib.hid hj
      clear hp0 hp1 hmx hmy hov htr hcv haN hj toX toY qX qY qG z0 z1 z2 z3 z4
      have v1 := P1.out; have v2 := P2.out; have v3 := P3.out; have v4 := P4.out
      go_wp2_with fail
      refine wp_region_noPanic ?_
      refine wp_region_held_drew (S := fun w' => w'.cell? ⟨bX, oX + p0, none⟩ = some (.int .u64 (uz mx.d)) ∧ w'.cell? ⟨bX, oX + p1, none⟩ = some (.int .u64 (uz mx.e)) ∧ w'.cell? ⟨bY, oY + p0, none⟩ = some (.int .u64 (uz my.d)) ∧ w'.cell? ⟨bY, oY + p1, none⟩ = some (.int .u64 (uz my.e))) (by kernel_rfl) ⟨x0, x1, y0, y1⟩ (fun hHeld => ?_)
      have hd := below_drew wr
      replace x0 := (hd.cell (p := ⟨bX, oX + p0, none⟩) lx0).trans x0
      replace lx0 := Nat.lt_of_lt_of_le lx0 hd.size
      replace x1 := (hd.cell (p := ⟨bX, oX + p1, none⟩) lx1).trans x1
      replace lx1 := Nat.lt_of_lt_of_le lx1 hd.size
      replace y0 := (hd.cell (p := ⟨bY, oY + p0, none⟩) ly0).trans y0
      replace ly0 := Nat.lt_of_lt_of_le ly0 hd.size
      replace y1 := (hd.cell (p := ⟨bY, oY + p1, none⟩) ly1).trans y1
      replace ly1 := Nat.lt_of_lt_of_le ly1 hd.size
      generalize wr.drew = wq1 at hHeld hd x0 lx0 x1 lx1 y0 ly0 y1 ly1 ⊢
      have BD : Hid (Below wq1.heap.size wq1 wq1) := Below.refl _ _
      refine wpAnyH_take (i := 0) (v := ?vv2001) (by simp only [List.getElem?_toArray, List.getElem?_cons_zero]; rfl) (by kernel_rfl) (by kernel_rfl) (by kernel_rfl) (fun _ _ _ h => h) (Or.inl ⟨by rfl, ?yy2001⟩) (by assumption) ?rr2001
      case yy2001 => (intro w hSw; (try dsimp only at hSw); go_simp; first | done | with_reducible rfl)
      simp only [Act.put, List.setIfInBounds_toArray, List.set_cons_zero, List.set_cons_succ]
      refine wpAnyH_take (i := 1) (v := ?vv2002) (by simp only [List.getElem?_toArray, List.getElem?_cons_zero, List.getElem?_cons_succ]; rfl) (by kernel_rfl) (by kernel_rfl) (by kernel_rfl) (fun _ _ _ h => h) (Or.inl ⟨by rfl, ?yy2002⟩) (by assumption) ?rr2002
      case yy2002 => (intro w hSw; (try dsimp only at hSw); go_simp; first | done | with_reducible rfl)
      simp only [Act.put, List.setIfInBounds_toArray, List.set_cons_zero, List.set_cons_succ]
      refine wpAnyH_take (i := 2) (v := ?vv2003) (by simp only [List.getElem?_toArray, List.getElem?_cons_zero, List.getElem?_cons_succ]; rfl) (by kernel_rfl) (by kernel_rfl) (by kernel_rfl) (fun _ _ _ h => h) (Or.inl ⟨by rfl, ?yy2003⟩) (by assumption) ?rr2003
      case yy2003 => (intro w hSw; (try dsimp only at hSw); go_simp; first | done | with_reducible rfl)
      simp only [Act.put, List.setIfInBounds_toArray, List.set_cons_zero, List.set_cons_succ]
      refine wpAnyH_take (i := 3) (v := ?vv2004) (by simp only [List.getElem?_toArray, List.getElem?_cons_zero, List.getElem?_cons_succ]; rfl) (by kernel_rfl) (by kernel_rfl) (by kernel_rfl) (fun _ _ _ h => h) (Or.inl ⟨by rfl, ?yy2004⟩) (by assumption) ?rr2004
      case yy2004 => (intro w hSw; (try dsimp only at hSw); go_simp; first | done | with_reducible rfl)
      simp only [Act.put, List.setIfInBounds_toArray, List.set_cons_zero, List.set_cons_succ]
      refine wpAnyH_take (i := 4) (v := ?vv2005) (by simp only [List.getElem?_toArray, List.getElem?_cons_zero, List.getElem?_cons_succ]; rfl) (by kernel_rfl) (by kernel_rfl) (by kernel_rfl) (fun _ _ _ h => h) (Or.inl ⟨by rfl, ?yy2005⟩) (by assumption) ?rr2005
      case yy2005 => (intro w hSw; (try dsimp only at hSw); go_simp; first | done | with_reducible rfl)
      simp only [Act.put, List.setIfInBounds_toArray, List.set_cons_zero, List.set_cons_succ]
      refine wpAnyH_take (i := 5) (v := ?vv2006) (by simp only [List.getElem?_toArray, List.getElem?_cons_zero, List.getElem?_cons_succ]; rfl) (by kernel_rfl) (by kernel_rfl) (by kernel_rfl) (fun _ _ _ h => h) (Or.inl ⟨by rfl, ?yy2006⟩) (by assumption) ?rr2006
      case yy2006 => (intro w hSw; (try dsimp only at hSw); go_simp; first | done | with_reducible rfl)
      simp only [Act.put, List.setIfInBounds_toArray, List.set_cons_zero, List.set_cons_succ]
      refine wpAnyH_take (i := 6) (v := ?vv2007) (by simp only [List.getElem?_toArray, List.getElem?_cons_zero, List.getElem?_cons_succ]; rfl) (by kernel_rfl) (by kernel_rfl) (by kernel_rfl) (fun _ _ _ h => h) (Or.inl ⟨by rfl, ?yy2007⟩) (by assumption) ?rr2007
      case yy2007 => (intro w hSw; (try dsimp only at hSw); go_simp; first | done | with_reducible rfl)
      simp only [Act.put, List.setIfInBounds_toArray, List.set_cons_zero, List.set_cons_succ]
      refine wpAnyH_take (i := 7) (v := ?vv2008) (by simp only [List.getElem?_toArray, List.getElem?_cons_zero, List.getElem?_cons_succ]; rfl) (by kernel_rfl) (by kernel_rfl) (by kernel_rfl) (fun _ _ _ h => h) (Or.inl ⟨by rfl, ?yy2008⟩) (by assumption) ?rr2008
      case yy2008 => (intro w hSw; (try dsimp only at hSw); go_simp; first | done | with_reducible rfl)
      simp only [Act.put, List.setIfInBounds_toArray, List.set_cons_zero, List.set_cons_succ]
      refine wpAnyH_take (i := 8) (v := ?vv2009) (by simp only [List.getElem?_toArray, List.getElem?_cons_zero, List.getElem?_cons_succ]; rfl) (by kernel_rfl) (by kernel_rfl) (by kernel_rfl) (fun _ _ _ h => h) (Or.inl ⟨by rfl, ?yy2009⟩) (by assumption) ?rr2009
      case yy2009 => (intro w hSw; (try dsimp only at hSw); go_simp; first | done | with_reducible rfl)
      simp only [Act.put, List.setIfInBounds_toArray, List.set_cons_zero, List.set_cons_succ]
      refine wpAnyH_take (i := 9) (v := ?vv2010) (by simp only [List.getElem?_toArray, List.getElem?_cons_zero, List.getElem?_cons_succ]; rfl) (by kernel_rfl) (by kernel_rfl) (by kernel_rfl) (fun _ _ _ h => h) (Or.inl ⟨by rfl, ?yy2010⟩) (by assumption) ?rr2010
      case yy2010 => (intro w hSw; (try dsimp only at hSw); go_simp; first | done | with_reducible rfl)
      simp only [Act.put, List.setIfInBounds_toArray, List.set_cons_zero, List.set_cons_succ]
      refine wpAnyH_take (i := 10) (v := ?vv2011) (by simp only [List.getElem?_toArray, List.getElem?_cons_zero, List.getElem?_cons_succ]; rfl) (by kernel_rfl) (by kernel_rfl) (by kernel_rfl) (fun _ _ _ h => h) (Or.inl ⟨by rfl, ?yy2011⟩) (by assumption) ?rr2011
      case yy2011 => (intro w hSw; (try dsimp only at hSw); go_simp; first | done | with_reducible rfl)
      simp only [Act.put, List.setIfInBounds_toArray, List.set_cons_zero, List.set_cons_succ]
      refine wpAnyH_take (i := 11) (v := ?vv2012) (by simp only [List.getElem?_toArray, List.getElem?_cons_zero, List.getElem?_cons_succ]; rfl) (by kernel_rfl) (by kernel_rfl) (by kernel_rfl) (fun _ _ _ h => h) (Or.inl ⟨by rfl, ?yy2012⟩) (by assumption) ?rr2012
      case yy2012 => (intro w hSw; (try dsimp only at hSw); go_simp; first | done | with_reducible rfl)
      simp only [Act.put, List.setIfInBounds_toArray, List.set_cons_zero, List.set_cons_succ]
      refine wpAnyH_take (i := 12) (v := ?vv2013) (by simp only [List.getElem?_toArray, List.getElem?_cons_zero, List.getElem?_cons_succ]; rfl) (by kernel_rfl) (by kernel_rfl) (by kernel_rfl) (fun _ _ _ h => h) (Or.inl ⟨by rfl, ?yy2013⟩) (by assumption) ?rr2013
      case yy2013 => (intro w hSw; (try dsimp only at hSw); go_simp; first | done | with_reducible rfl)
      simp only [Act.put, List.setIfInBounds_toArray, List.set_cons_zero, List.set_cons_succ]
      refine wpAnyH_take (i := 13) (v := ?vv2014) (by simp only [List.getElem?_toArray, List.getElem?_cons_zero, List.getElem?_cons_succ]; rfl) (by kernel_rfl) (by kernel_rfl) (by kernel_rfl) (fun _ _ _ h => h) (Or.inl ⟨by rfl, ?yy2014⟩) (by assumption) ?rr2014
      case yy2014 => (intro w hSw; (try dsimp only at hSw); go_simp; first | done | with_reducible rfl)
      simp only [Act.put, List.setIfInBounds_toArray, List.set_cons_zero, List.set_cons_succ]
      refine wpAnyH_take (i := 14) (v := ?vv2015) (by simp only [List.getElem?_toArray, List.getElem?_cons_zero, List.getElem?_cons_succ]; rfl) (by kernel_rfl) (by kernel_rfl) (by kernel_rfl) (fun _ _ _ h => h) (Or.inl ⟨by rfl, ?yy2015⟩) (by assumption) ?rr2015
      case yy2015 => (intro w hSw; (try dsimp only at hSw); go_simp; first | done | with_reducible rfl)
      simp only [Act.put, List.setIfInBounds_toArray, List.set_cons_zero, List.set_cons_succ]
      refine wpAnyH_take (i := 15) (v := ?vv2016) (by simp only [List.getElem?_toArray, List.getElem?_cons_zero, List.getElem?_cons_succ]; rfl) (by kernel_rfl) (by kernel_rfl) (by kernel_rfl) (fun _ _ _ h => h) (Or.inl ⟨by rfl, ?yy2016⟩) (by assumption) ?rr2016
      case yy2016 => (intro w hSw; (try dsimp only at hSw); go_simp; first | done | with_reducible rfl)
      simp only [Act.put, List.setIfInBounds_toArray, List.set_cons_zero, List.set_cons_succ]
      refine wpAnyH_take (i := 16) (v := ?vv2017) (by simp only [List.getElem?_toArray, List.getElem?_cons_zero, List.getElem?_cons_succ]; rfl) (by kernel_rfl) (by kernel_rfl) (by kernel_rfl) (fun _ _ _ h => h) (Or.inl ⟨by rfl, ?yy2017⟩) (by assumption) ?rr2017
      case yy2017 => (intro w hSw; (try dsimp only at hSw); go_simp; first | done | with_reducible rfl)
      simp only [Act.put, List.setIfInBounds_toArray, List.set_cons_zero, List.set_cons_succ]
      refine wpAnyH_take (i := 17) (v := ?vv2018) (by simp only [List.getElem?_toArray, List.getElem?_cons_zero, List.getElem?_cons_succ]; rfl) (by kernel_rfl) (by kernel_rfl) (by kernel_rfl) (fun _ _ _ h => h) (Or.inl ⟨by rfl, ?yy2018⟩) (by assumption) ?rr2018
      case yy2018 => (intro w hSw; (try dsimp only at hSw); go_simp; first | done | with_reducible rfl)
      simp only [Act.put, List.setIfInBounds_toArray, List.set_cons_zero, List.set_cons_succ]
      refine wpAnyH_take (i := 18) (v := ?vv2019) (by simp only [List.getElem?_toArray, List.getElem?_cons_zero, List.getElem?_cons_succ]; rfl) (by kernel_rfl) (by kernel_rfl) (by kernel_rfl) (fun _ _ _ h => h) (Or.inl ⟨by rfl, ?yy2019⟩) (by assumption) ?rr2019
      case yy2019 => (intro w hSw; (try dsimp only at hSw); go_simp; first | done | with_reducible rfl)
      simp only [Act.put, List.setIfInBounds_toArray, List.set_cons_zero, List.set_cons_succ]
      refine wpAnyH_take (i := 19) (v := ?vv2020) (by simp only [List.getElem?_toArray, List.getElem?_cons_zero, List.getElem?_cons_succ]; rfl) (by kernel_rfl) (by kernel_rfl) (by kernel_rfl) (fun _ _ _ h => h) (Or.inl ⟨by rfl, ?yy2020⟩) (by assumption) ?rr2020
      case yy2020 => (intro w hSw; (try dsimp only at hSw); go_simp; first | done | with_reducible rfl)
      simp only [Act.put, List.setIfInBounds_toArray, List.set_cons_zero, List.set_cons_succ]
      refine wpAnyH_take (i := 20) (v := ?vv2021) (by simp only [List.getElem?_toArray, List.getElem?_cons_zero, List.getElem?_cons_succ]; rfl) (by kernel_rfl) (by kernel_rfl) (by kernel_rfl) (fun _ _ _ h => h) (Or.inl ⟨by rfl, ?yy2021⟩) (by assumption) ?rr2021
      case yy2021 => (intro w hSw; (try dsimp only at hSw); go_simp; first | done | with_reducible rfl)
      simp only [Act.put, List.setIfInBounds_toArray, List.set_cons_zero, List.set_cons_succ]
      refine wpAnyH_take (i := 21) (v := ?vv2022) (by simp only [List.getElem?_toArray, List.getElem?_cons_zero, List.getElem?_cons_succ]; rfl) (by kernel_rfl) (by kernel_rfl) (by kernel_rfl) (fun _ _ _ h => h) (Or.inl ⟨by rfl, ?yy2022⟩) (by assumption) ?rr2022
      case yy2022 => (intro w hSw; (try dsimp only at hSw); go_simp; first | done | with_reducible rfl)
      simp only [Act.put, List.setIfInBounds_toArray, List.set_cons_zero, List.set_cons_succ]
      refine wpAnyH_take (i := 22) (v := ?vv2023) (by simp only [List.getElem?_toArray, List.getElem?_cons_zero, List.getElem?_cons_succ]; rfl) (by kernel_rfl) (by kernel_rfl) (by kernel_rfl) (fun _ _ _ h => h) (Or.inl ⟨by rfl, ?yy2023⟩) (by assumption) ?rr2023
      case yy2023 => (intro w hSw; (try dsimp only at hSw); go_simp; first | done | with_reducible rfl)
      simp only [Act.put, List.setIfInBounds_toArray, List.set_cons_zero, List.set_cons_succ]
      refine wpAnyH_take (i := 23) (v := ?vv2024) (by simp only [List.getElem?_toArray, List.getElem?_cons_zero, List.getElem?_cons_succ]; rfl) (by kernel_rfl) (by kernel_rfl) (by kernel_rfl) (fun _ _ _ h => h) (Or.inl ⟨by rfl, ?yy2024⟩) (by assumption) ?rr2024
      case yy2024 => (intro w hSw; (try dsimp only at hSw); go_simp; first | done | with_reducible rfl)
      simp only [Act.put, List.setIfInBounds_toArray, List.set_cons_zero, List.set_cons_succ]
      refine wpAnyH_ready (rs := [24, 25]) (by kernel_rfl) (by simp) ?_
      refine AllReadyH.cons (by simp only [List.getElem?_toArray, List.getElem?_cons_zero, List.getElem?_cons_succ]; rfl) (fun K hK => ?_) ?_
      · skip
        go_simp
        go_at_call 42
        (with_reducible refine (CS.out _).mono ?_)
        rintro e wq2 ⟨rfl, hb⟩
        clear hHeld
        replace BD := Lib.hid (chain BD.out hb)
        clear hb
        go_wp2_with fail
        refine hK.out _ _ ⟨(BD.out.cell (p := ⟨bX, oX + p0, none⟩) lx0).trans x0, (BD.out.cell (p := ⟨bX, oX + p1, none⟩) lx1).trans x1, (BD.out.cell (p := ⟨bY, oY + p0, none⟩) ly0).trans y0, (BD.out.cell (p := ⟨bY, oY + p1, none⟩) ly1).trans y1⟩ (fun hHeld => ?_)
        clear hK K
        try simp only [Act.put, List.setIfInBounds_toArray, List.set_cons_zero, List.set_cons_succ]
        refine wpAnyH_ready (rs := [25]) (by kernel_rfl) (by simp) ?_
        refine AllReadyH.cons (by simp only [List.getElem?_toArray, List.getElem?_cons_zero, List.getElem?_cons_succ]; rfl) (fun K hK => ?_) ?_
        · skip
          go_simp
          clear hHeld
          obtain ⟨z, hB⟩ : ∃ b, b = wq2.heap.size := ⟨_, rfl⟩
          have zl : wq1.heap.size ≤ z := by rw [hB]; exact BD.out.size
          have Rz : Hid (OC (wq2.alloc (.cells #[.int .u64 0, .int .u64 0] 71)) z On.z) := by rw [hB]; exact heap_alloc_new wq2 _
          rw [← hB]
          clear hB
          replace BD := Lib.hid (chain_alloc BD.out (.cells #[.int .u64 0, .int .u64 0] 71))
          refine hK.out _ _ ⟨(BD.out.cell (p := ⟨bX, oX + p0, none⟩) lx0).trans x0, (BD.out.cell (p := ⟨bX, oX + p1, none⟩) lx1).trans x1, (BD.out.cell (p := ⟨bY, oY + p0, none⟩) ly0).trans y0, (BD.out.cell (p := ⟨bY, oY + p1, none⟩) ly1).trans y1⟩ (fun hHeld => ?_)
          clear hK K
          try simp only [Act.put, List.setIfInBounds_toArray, List.set_cons_zero, List.set_cons_succ]
          generalize wq2.alloc (.cells #[.int .u64 0, .int .u64 0] 71) = wq3 at hHeld Rz BD ⊢
          refine wpAnyH_ready (rs := [26]) (by kernel_rfl) (by simp) ?_
          refine AllReadyH.cons (by simp only [List.getElem?_toArray, List.getElem?_cons_zero, List.getElem?_cons_succ]; rfl) (fun K hK => ?_) ?_
          · skip
            obtain ⟨z0, z1⟩ := Rz.out.cells
            have f0 := Rz.out.frozen 0
            have f1 := Rz.out.frozen 1
            go_simp
            clear hHeld
            replace Rz := Lib.hid (Rz.out.set ov)
            replace BD := Lib.hid (below_set2 BD.out zl (.int .u64 (uz ov.d)) (.int .u64 (uz ov.e)))
            refine hK.out _ _ ⟨(BD.out.cell (p := ⟨bX, oX + p0, none⟩) lx0).trans x0, (BD.out.cell (p := ⟨bX, oX + p1, none⟩) lx1).trans x1, (BD.out.cell (p := ⟨bY, oY + p0, none⟩) ly0).trans y0, (BD.out.cell (p := ⟨bY, oY + p1, none⟩) ly1).trans y1⟩ (fun hHeld => ?_)
            clear hK K
            try simp only [Act.put, List.setIfInBounds_toArray, List.set_cons_zero, List.set_cons_succ]
            generalize ((wq3.setCell ⟨z, 0, none⟩ (.int .u64 (uz ov.d))).setCell ⟨z, 1, none⟩ (.int .u64 (uz ov.e))) = wq4 at hHeld Rz BD ⊢
            clear z0 z1 f0 f1
            refine wpAnyH_done (by kernel_rfl) ?_ _
            refine NoPanic.normal ?_
            clear hHeld
            have BD1 := chain hd BD.out
            have BK2 : Hid (Below bO w5 wq4) := BK.out.trans (BD1.mono (Nat.le_of_lt olt))
            have OK2 : Hid (RB wq4 bO (accL at' cl (noughts ku) k)) := OK.out.below BD1
            have KG2 : Hid (∀ b, b < w8.heap.size → b ≠ bO → wq4.heap[b]? = w8.heap[b]?) := fun b hb hn => (BD1.block b (by have := KS.out; omega)).trans (KG.out b hb hn)
            have KS2 : Hid (w8.heap.size ≤ wq4.heap.size) := Nat.le_trans KS.out BD1.size
            have zg := (BD1.cell (p := ⟨bG, oG + j * 5 + 1, none⟩) lG).trans Z1.out
            have zne : z ≠ bO := by have := hd.size; omega
            obtain ⟨z0, z1⟩ := Rz.out.cells
            have lz0 := Rz.out.lt
            have lz1 := Rz.out.lt
            have oc := OK2.out.cell (j := aN) (by rw [acc_len]; simp [noughts]; exact aNk)
            have lO := OK2.out.lt
            obtain ⟨old, hold⟩ : ∃ old, old = (accL at' cl (noughts ku) k).getD aN 0 := ⟨_, rfl⟩
            rw [← hold] at oc
            obtain ⟨nv, hnv⟩ : ∃ nv, nv = old + cv := ⟨_, rfl⟩
            have OLD := Lib.hid hold; have NV := Lib.hid hnv
            have e1 : IntKind.u64.wrap (uz old + uz cv) = uz nv := by rw [hnv]; exact uz_add _ _
            have aN0 : (0 : Int) ≤ (aN : Int) := Int.natCast_nonneg _
            have aN1 : (aN : Int) < (ku : Int) := Int.ofNat_lt.2 aNk
            clear hold hnv x0 x1 y0 y1 lx0 lx1 ly0 ly1 BD1 BD hd BK OK KG KS Rz zl v1 v2 v3 v4
            have v5 := P5.out; have v6 := P6.out
            go_wp2_with fail
            clear v5 v6 zg
            have v5 := P5.out; have v6 := P6.out
            refine wp_region_noPanic ?_
            refine wp_region_held_drew (S := fun w' => w'.cell? ⟨z, 0, none⟩ = some (.int .u64 (uz ov.d)) ∧ w'.cell? ⟨z, 1, none⟩ = some (.int .u64 (uz ov.e))) (by kernel_rfl) ⟨z0, z1⟩ (fun hHeld => ?_)
            have hd := below_drew wq4
            replace z0 := (hd.cell (p := ⟨z, 0, none⟩) lz0).trans z0
            replace lz0 := Nat.lt_of_lt_of_le lz0 hd.size
            replace z1 := (hd.cell (p := ⟨z, 1, none⟩) lz1).trans z1
            replace lz1 := Nat.lt_of_lt_of_le lz1 hd.size
            replace oc := (hd.cell (p := ⟨bO, aN, none⟩) lO).trans oc
            replace lO := Nat.lt_of_lt_of_le lO hd.size
            generalize wq4.drew = wq1 at hHeld hd z0 lz0 z1 lz1 oc lO ⊢
            have BD : Hid (Below wq1.heap.size wq1 wq1) := Below.refl _ _
            refine wpAnyH_take (i := 0) (v := ?vv3001) (by simp only [List.getElem?_toArray, List.getElem?_cons_zero]; rfl) (by kernel_rfl) (by kernel_rfl) (by kernel_rfl) (fun _ _ _ h => h) (Or.inl ⟨by rfl, ?yy3001⟩) (by assumption) ?rr3001
            case yy3001 => (intro w hSw; (try dsimp only at hSw); go_simp; first | done | with_reducible rfl)
            simp only [Act.put, List.setIfInBounds_toArray, List.set_cons_zero, List.set_cons_succ]
            refine wpAnyH_take (i := 1) (v := ?vv3002) (by simp only [List.getElem?_toArray, List.getElem?_cons_zero, List.getElem?_cons_succ]; rfl) (by kernel_rfl) (by kernel_rfl) (by kernel_rfl) (fun _ _ _ h => h) (Or.inl ⟨by rfl, ?yy3002⟩) (by assumption) ?rr3002
            case yy3002 => (intro w hSw; (try dsimp only at hSw); go_simp; first | done | with_reducible rfl)
            simp only [Act.put, List.setIfInBounds_toArray, List.set_cons_zero, List.set_cons_succ]
            refine wpAnyH_take (i := 2) (v := ?vv3003) (by simp only [List.getElem?_toArray, List.getElem?_cons_zero, List.getElem?_cons_succ]; rfl) (by kernel_rfl) (by kernel_rfl) (by kernel_rfl) (fun _ _ _ h => h) (Or.inl ⟨by rfl, ?yy3003⟩) (by assumption) ?rr3003
            case yy3003 => (intro w hSw; (try dsimp only at hSw); go_simp; first | done | with_reducible rfl)
            simp only [Act.put, List.setIfInBounds_toArray, List.set_cons_zero, List.set_cons_succ]
            refine wpAnyH_take (i := 3) (v := ?vv3004) (by simp only [List.getElem?_toArray, List.getElem?_cons_zero, List.getElem?_cons_succ]; rfl) (by kernel_rfl) (by kernel_rfl) (by kernel_rfl) (fun _ _ _ h => h) (Or.inl ⟨by rfl, ?yy3004⟩) (by assumption) ?rr3004
            case yy3004 => (intro w hSw; (try dsimp only at hSw); go_simp; first | done | with_reducible rfl)
            simp only [Act.put, List.setIfInBounds_toArray, List.set_cons_zero, List.set_cons_succ]
            refine wpAnyH_take (i := 4) (v := ?vv3005) (by simp only [List.getElem?_toArray, List.getElem?_cons_zero, List.getElem?_cons_succ]; rfl) (by kernel_rfl) (by kernel_rfl) (by kernel_rfl) (fun _ _ _ h => h) (Or.inl ⟨by rfl, ?yy3005⟩) (by assumption) ?rr3005
            case yy3005 => (intro w hSw; (try dsimp only at hSw); go_simp; first | done | with_reducible rfl)
            simp only [Act.put, List.setIfInBounds_toArray, List.set_cons_zero, List.set_cons_succ]
            refine wpAnyH_take (i := 6) (v := ?vv3006) (by simp only [List.getElem?_toArray, List.getElem?_cons_zero, List.getElem?_cons_succ]; rfl) (by kernel_rfl) (by kernel_rfl) (by kernel_rfl) (fun _ _ _ h => h) (Or.inl ⟨by rfl, ?yy3006⟩) (by assumption) ?rr3006
            case yy3006 => (intro w hSw; (try dsimp only at hSw); go_simp; first | done | with_reducible rfl)
            simp only [Act.put, List.setIfInBounds_toArray, List.set_cons_zero, List.set_cons_succ]
            refine wpAnyH_take (i := 7) (v := ?vv3007) (by simp only [List.getElem?_toArray, List.getElem?_cons_zero, List.getElem?_cons_succ]; rfl) (by kernel_rfl) (by kernel_rfl) (by kernel_rfl) (fun _ _ _ h => h) (Or.inl ⟨by rfl, ?yy3007⟩) (by assumption) ?rr3007
            case yy3007 => (intro w hSw; (try dsimp only at hSw); go_simp; first | done | with_reducible rfl)
            simp only [Act.put, List.setIfInBounds_toArray, List.set_cons_zero, List.set_cons_succ]
            refine wpAnyH_take (i := 8) (v := ?vv3008) (by simp only [List.getElem?_toArray, List.getElem?_cons_zero, List.getElem?_cons_succ]; rfl) (by kernel_rfl) (by kernel_rfl) (by kernel_rfl) (fun _ _ _ h => h) (Or.inl ⟨by rfl, ?yy3008⟩) (by assumption) ?rr3008
            case yy3008 => (intro w hSw; (try dsimp only at hSw); go_simp; first | done | with_reducible rfl)
            simp only [Act.put, List.setIfInBounds_toArray, List.set_cons_zero, List.set_cons_succ]
            refine wpAnyH_take (i := 9) (v := ?vv3009) (by simp only [List.getElem?_toArray, List.getElem?_cons_zero, List.getElem?_cons_succ]; rfl) (by kernel_rfl) (by kernel_rfl) (by kernel_rfl) (fun _ _ _ h => h) (Or.inl ⟨by rfl, ?yy3009⟩) (by assumption) ?rr3009
            case yy3009 => (intro w hSw; (try dsimp only at hSw); go_simp; first | done | with_reducible rfl)
            simp only [Act.put, List.setIfInBounds_toArray, List.set_cons_zero, List.set_cons_succ]
            refine wpAnyH_take (i := 10) (v := ?vv3010) (by simp only [List.getElem?_toArray, List.getElem?_cons_zero, List.getElem?_cons_succ]; rfl) (by kernel_rfl) (by kernel_rfl) (by kernel_rfl) (fun _ _ _ h => h) (Or.inl ⟨by rfl, ?yy3010⟩) (by assumption) ?rr3010
            case yy3010 => (intro w hSw; (try dsimp only at hSw); go_simp; first | done | with_reducible rfl)
            simp only [Act.put, List.setIfInBounds_toArray, List.set_cons_zero, List.set_cons_succ]
            refine wpAnyH_take (i := 11) (v := ?vv3011) (by simp only [List.getElem?_toArray, List.getElem?_cons_zero, List.getElem?_cons_succ]; rfl) (by kernel_rfl) (by kernel_rfl) (by kernel_rfl) (fun _ _ _ h => h) (Or.inl ⟨by rfl, ?yy3011⟩) (by assumption) ?rr3011
            case yy3011 => (intro w hSw; (try dsimp only at hSw); go_simp; first | done | with_reducible rfl)
            simp only [Act.put, List.setIfInBounds_toArray, List.set_cons_zero, List.set_cons_succ]
            refine wpAnyH_take (i := 12) (v := ?vv3012) (by simp only [List.getElem?_toArray, List.getElem?_cons_zero, List.getElem?_cons_succ]; rfl) (by kernel_rfl) (by kernel_rfl) (by kernel_rfl) (fun _ _ _ h => h) (Or.inl ⟨by rfl, ?yy3012⟩) (by assumption) ?rr3012
            case yy3012 => (intro w hSw; (try dsimp only at hSw); go_simp; first | done | with_reducible rfl)
            simp only [Act.put, List.setIfInBounds_toArray, List.set_cons_zero, List.set_cons_succ]
            refine wpAnyH_take (i := 13) (v := ?vv3013) (by simp only [List.getElem?_toArray, List.getElem?_cons_zero, List.getElem?_cons_succ]; rfl) (by kernel_rfl) (by kernel_rfl) (by kernel_rfl) (fun _ _ _ h => h) (Or.inl ⟨by rfl, ?yy3013⟩) (by assumption) ?rr3013
            case yy3013 => (intro w hSw; (try dsimp only at hSw); go_simp; first | done | with_reducible rfl)
            simp only [Act.put, List.setIfInBounds_toArray, List.set_cons_zero, List.set_cons_succ]
            refine wpAnyH_ready (rs := [5, 14]) (by kernel_rfl) (by simp) ?_
            refine AllReadyH.cons (by simp only [List.getElem?_toArray, List.getElem?_cons_zero, List.getElem?_cons_succ]; rfl) (fun K hK => ?_) ?_
            · skip
              have zc : wq1.cell? ⟨bO, aN, none⟩ = some (.int .u64 (uz old)) := (BD.out.cell (p := ⟨bO, aN, none⟩) lO).trans oc
              go_simp
              clear zc
              clear hHeld
              refine hK.out _ _ ⟨(BD.out.cell (p := ⟨z, 0, none⟩) lz0).trans z0, (BD.out.cell (p := ⟨z, 1, none⟩) lz1).trans z1⟩ (fun hHeld => ?_)
              clear hK K
              try simp only [Act.put, List.setIfInBounds_toArray, List.set_cons_zero, List.set_cons_succ]
              refine wpAnyH_ready (rs := [14]) (by kernel_rfl) (by simp) ?_
              refine AllReadyH.cons (by simp only [List.getElem?_toArray, List.getElem?_cons_zero, List.getElem?_cons_succ]; rfl) (fun K hK => ?_) ?_
              · skip
                go_simp
                go_at_call 37
                (with_reducible refine (CH.out _).mono ?_)
                rintro e wq3 ⟨rfl, hb⟩
                clear hHeld
                replace BD := Lib.hid (chain BD.out hb)
                clear hb
                go_wp2_with fail
                refine hK.out _ _ ⟨(BD.out.cell (p := ⟨z, 0, none⟩) lz0).trans z0, (BD.out.cell (p := ⟨z, 1, none⟩) lz1).trans z1⟩ (fun hHeld => ?_)
                clear hK K
                try simp only [Act.put, List.setIfInBounds_toArray, List.set_cons_zero, List.set_cons_succ]
                refine wpAnyH_ready (rs := [15]) (by kernel_rfl) (by simp) ?_
                refine AllReadyH.cons (by simp only [List.getElem?_toArray, List.getElem?_cons_zero, List.getElem?_cons_succ]; rfl) (fun K hK => ?_) ?_
                · skip
                  go_simp
                  go_at_call 43
                  (with_reducible refine (CC.out _).mono ?_)
                  rintro e wq4 ⟨rfl, hb⟩
                  clear hHeld
                  replace BD := Lib.hid (chain BD.out hb)
                  clear hb
                  go_wp2_with fail
                  refine hK.out _ _ ⟨(BD.out.cell (p := ⟨z, 0, none⟩) lz0).trans z0, (BD.out.cell (p := ⟨z, 1, none⟩) lz1).trans z1⟩ (fun hHeld => ?_)
                  clear hK K
                  try simp only [Act.put, List.setIfInBounds_toArray, List.set_cons_zero, List.set_cons_succ]
                  refine wpAnyH_take (i := 16) (v := ?vv3014) (by simp only [List.getElem?_toArray, List.getElem?_cons_zero, List.getElem?_cons_succ]; rfl) (by kernel_rfl) (by kernel_rfl) (by kernel_rfl) (fun _ _ _ h => h) (Or.inl ⟨by rfl, ?yy3014⟩) (by assumption) ?rr3014
                  case yy3014 => (intro w hSw; (try dsimp only at hSw); go_simp; first | done | with_reducible rfl)
                  simp only [Act.put, List.setIfInBounds_toArray, List.set_cons_zero, List.set_cons_succ]
                  refine wpAnyH_take (i := 17) (v := ?vv3015) (by simp only [List.getElem?_toArray, List.getElem?_cons_zero, List.getElem?_cons_succ]; rfl) (by kernel_rfl) (by kernel_rfl) (by kernel_rfl) (fun _ _ _ h => h) (Or.inl ⟨by rfl, ?yy3015⟩) (by assumption) ?rr3015
                  case yy3015 => (intro w hSw; (try dsimp only at hSw); go_simp; first | done | with_reducible rfl)
                  simp only [Act.put, List.setIfInBounds_toArray, List.set_cons_zero, List.set_cons_succ]
                  refine wpAnyH_ready (rs := [18]) (by kernel_rfl) (by simp) ?_
                  refine AllReadyH.cons (by simp only [List.getElem?_toArray, List.getElem?_cons_zero, List.getElem?_cons_succ]; rfl) (fun K hK => ?_) ?_
                  · skip
                    have RBw := OK2.out.below (chain hd BD.out)
                    have zc := RBw.cell (j := aN) (by rw [acc_len]; simp [noughts]; exact aNk)
                    have f0 := RBw.frozen aN
                    go_simp
                    clear hHeld
                    have b0 : Below bO w5 wq4 := BK2.out.trans ((chain hd BD.out).mono (Nat.le_of_lt OK2.out.lt))
                    have OKn : Hid (RB (wq4.setCell ⟨bO, aN, none⟩ (.int .u64 (uz nv))) bO (accL at' cl (noughts ku) (k + 1))) := by
                      show RB _ _ _
                      rw [acc_row at' cl (noughts ku) k aN cv AV.out CV.out, ← OLD.out, ← NV.out]
                      exact RBw.set aN nv
                    have BKn : Hid (Below bO w5 (wq4.setCell ⟨bO, aN, none⟩ (.int .u64 (uz nv)))) := b0.setCell (p := ⟨bO, aN, none⟩) (Nat.le_refl _) _
                    have KGn : Hid (∀ b, b < w8.heap.size → b ≠ bO → (wq4.setCell ⟨bO, aN, none⟩ (.int .u64 (uz nv))).heap[b]? = w8.heap[b]?) := fun b hb hn => (Below.heap_setCell wq4 ⟨bO, aN, none⟩ _ b hn).trans (((chain hd BD.out).block b (by have := KS2.out; omega)).trans (KG2.out b hb hn))
                    have KSn : Hid (w8.heap.size ≤ (wq4.setCell ⟨bO, aN, none⟩ (.int .u64 (uz nv))).heap.size) := by
                      show _ ≤ _
                      rw [World.size_setCell]
                      exact Nat.le_trans KS2.out (chain hd BD.out).size
                    refine hK.out _ _ ⟨(World.cell?_setCell_far _ _ _ _ (Ne.symm zne)).trans ((BD.out.cell (p := ⟨z, 0, none⟩) lz0).trans z0), (World.cell?_setCell_far _ _ _ _ (Ne.symm zne)).trans ((BD.out.cell (p := ⟨z, 1, none⟩) lz1).trans z1)⟩ (fun hHeld => ?_)
                    clear hK K
                    try simp only [Act.put, List.setIfInBounds_toArray, List.set_cons_zero, List.set_cons_succ]
                    clear b0 RBw zc f0
                    generalize wq4.setCell ⟨bO, aN, none⟩ (.int .u64 (uz nv)) = wq5 at hHeld OKn BKn KGn KSn ⊢
                    refine wpAnyH_done (by kernel_rfl) ?_ _
                    refine NoPanic.normal ?_
                    clear hHeld
                    go_wp2_with fail
                    go_roundg (m - (k + 1))
                    case measure => have := HG.out; have := KM.out; omega
                    case rel => exact ⟨k + 1, by have := KM.out; omega, rfl, by go_num, OKn, BKn, KGn, KSn⟩
                  exact AllReadyH.nil
                exact AllReadyH.nil
              exact AllReadyH.nil
            refine AllReadyH.cons (by simp only [List.getElem?_toArray, List.getElem?_cons_zero, List.getElem?_cons_succ]; rfl) (fun K hK => ?_) ?_
            · skip
              go_simp
              go_at_call 37
              (with_reducible refine (CH.out _).mono ?_)
              rintro e wq6 ⟨rfl, hb⟩
              clear hHeld
              replace BD := Lib.hid (chain BD.out hb)
              clear hb
              go_wp2_with fail
              refine hK.out _ _ ⟨(BD.out.cell (p := ⟨z, 0, none⟩) lz0).trans z0, (BD.out.cell (p := ⟨z, 1, none⟩) lz1).trans z1⟩ (fun hHeld => ?_)
              clear hK K
              try simp only [Act.put, List.setIfInBounds_toArray, List.set_cons_zero, List.set_cons_succ]
              refine wpAnyH_ready (rs := [5, 15]) (by kernel_rfl) (by simp) ?_
              refine AllReadyH.cons (by simp only [List.getElem?_toArray, List.getElem?_cons_zero, List.getElem?_cons_succ]; rfl) (fun K hK => ?_) ?_
              · skip
                have zc : wq6.cell? ⟨bO, aN, none⟩ = some (.int .u64 (uz old)) := (BD.out.cell (p := ⟨bO, aN, none⟩) lO).trans oc
                go_simp
                clear zc
                clear hHeld
                refine hK.out _ _ ⟨(BD.out.cell (p := ⟨z, 0, none⟩) lz0).trans z0, (BD.out.cell (p := ⟨z, 1, none⟩) lz1).trans z1⟩ (fun hHeld => ?_)
                clear hK K
                try simp only [Act.put, List.setIfInBounds_toArray, List.set_cons_zero, List.set_cons_succ]
                refine wpAnyH_ready (rs := [15]) (by kernel_rfl) (by simp) ?_
                refine AllReadyH.cons (by simp only [List.getElem?_toArray, List.getElem?_cons_zero, List.getElem?_cons_succ]; rfl) (fun K hK => ?_) ?_
                · skip
                  go_simp
                  go_at_call 43
                  (with_reducible refine (CC.out _).mono ?_)
                  rintro e wq8 ⟨rfl, hb⟩
                  clear hHeld
                  replace BD := Lib.hid (chain BD.out hb)
                  clear hb
                  go_wp2_with fail
                  refine hK.out _ _ ⟨(BD.out.cell (p := ⟨z, 0, none⟩) lz0).trans z0, (BD.out.cell (p := ⟨z, 1, none⟩) lz1).trans z1⟩ (fun hHeld => ?_)
                  clear hK K
                  try simp only [Act.put, List.setIfInBounds_toArray, List.set_cons_zero, List.set_cons_succ]
                  refine wpAnyH_take (i := 16) (v := ?vv3016) (by simp only [List.getElem?_toArray, List.getElem?_cons_zero, List.getElem?_cons_succ]; rfl) (by kernel_rfl) (by kernel_rfl) (by kernel_rfl) (fun _ _ _ h => h) (Or.inl ⟨by rfl, ?yy3016⟩) (by assumption) ?rr3016
                  case yy3016 => (intro w hSw; (try dsimp only at hSw); go_simp; first | done | with_reducible rfl)
                  simp only [Act.put, List.setIfInBounds_toArray, List.set_cons_zero, List.set_cons_succ]
                  refine wpAnyH_take (i := 17) (v := ?vv3017) (by simp only [List.getElem?_toArray, List.getElem?_cons_zero, List.getElem?_cons_succ]; rfl) (by kernel_rfl) (by kernel_rfl) (by kernel_rfl) (fun _ _ _ h => h) (Or.inl ⟨by rfl, ?yy3017⟩) (by assumption) ?rr3017
                  case yy3017 => (intro w hSw; (try dsimp only at hSw); go_simp; first | done | with_reducible rfl)
                  simp only [Act.put, List.setIfInBounds_toArray, List.set_cons_zero, List.set_cons_succ]
                  refine wpAnyH_ready (rs := [18]) (by kernel_rfl) (by simp) ?_
                  refine AllReadyH.cons (by simp only [List.getElem?_toArray, List.getElem?_cons_zero, List.getElem?_cons_succ]; rfl) (fun K hK => ?_) ?_
                  · skip
                    have RBw := OK2.out.below (chain hd BD.out)
                    have zc := RBw.cell (j := aN) (by rw [acc_len]; simp [noughts]; exact aNk)
                    have f0 := RBw.frozen aN
                    go_simp
                    clear hHeld
                    have b0 : Below bO w5 wq8 := BK2.out.trans ((chain hd BD.out).mono (Nat.le_of_lt OK2.out.lt))
                    have OKn : Hid (RB (wq8.setCell ⟨bO, aN, none⟩ (.int .u64 (uz nv))) bO (accL at' cl (noughts ku) (k + 1))) := by
                      show RB _ _ _
                      rw [acc_row at' cl (noughts ku) k aN cv AV.out CV.out, ← OLD.out, ← NV.out]
                      exact RBw.set aN nv
                    have BKn : Hid (Below bO w5 (wq8.setCell ⟨bO, aN, none⟩ (.int .u64 (uz nv)))) := b0.setCell (p := ⟨bO, aN, none⟩) (Nat.le_refl _) _
                    have KGn : Hid (∀ b, b < w8.heap.size → b ≠ bO → (wq8.setCell ⟨bO, aN, none⟩ (.int .u64 (uz nv))).heap[b]? = w8.heap[b]?) := fun b hb hn => (Below.heap_setCell wq8 ⟨bO, aN, none⟩ _ b hn).trans (((chain hd BD.out).block b (by have := KS2.out; omega)).trans (KG2.out b hb hn))
                    have KSn : Hid (w8.heap.size ≤ (wq8.setCell ⟨bO, aN, none⟩ (.int .u64 (uz nv))).heap.size) := by
                      show _ ≤ _
                      rw [World.size_setCell]
                      exact Nat.le_trans KS2.out (chain hd BD.out).size
                    refine hK.out _ _ ⟨(World.cell?_setCell_far _ _ _ _ (Ne.symm zne)).trans ((BD.out.cell (p := ⟨z, 0, none⟩) lz0).trans z0), (World.cell?_setCell_far _ _ _ _ (Ne.symm zne)).trans ((BD.out.cell (p := ⟨z, 1, none⟩) lz1).trans z1)⟩ (fun hHeld => ?_)
                    clear hK K
                    try simp only [Act.put, List.setIfInBounds_toArray, List.set_cons_zero, List.set_cons_succ]
                    clear b0 RBw zc f0
                    generalize wq8.setCell ⟨bO, aN, none⟩ (.int .u64 (uz nv)) = wq9 at hHeld OKn BKn KGn KSn ⊢
                    refine wpAnyH_done (by kernel_rfl) ?_ _
                    refine NoPanic.normal ?_
                    clear hHeld
                    go_wp2_with fail
                    go_roundg (m - (k + 1))
                    case measure => have := HG.out; have := KM.out; omega
                    case rel => exact ⟨k + 1, by have := KM.out; omega, rfl, by go_num, OKn, BKn, KGn, KSn⟩
                  exact AllReadyH.nil
                exact AllReadyH.nil
              refine AllReadyH.cons (by simp only [List.getElem?_toArray, List.getElem?_cons_zero, List.getElem?_cons_succ]; rfl) (fun K hK => ?_) ?_
              · skip
                go_simp
                go_at_call 43
                (with_reducible refine (CC.out _).mono ?_)
                rintro e wq10 ⟨rfl, hb⟩
                clear hHeld
                replace BD := Lib.hid (chain BD.out hb)
                clear hb
                go_wp2_with fail
                refine hK.out _ _ ⟨(BD.out.cell (p := ⟨z, 0, none⟩) lz0).trans z0, (BD.out.cell (p := ⟨z, 1, none⟩) lz1).trans z1⟩ (fun hHeld => ?_)
                clear hK K
                try simp only [Act.put, List.setIfInBounds_toArray, List.set_cons_zero, List.set_cons_succ]
                refine wpAnyH_ready (rs := [5]) (by kernel_rfl) (by simp) ?_
                refine AllReadyH.cons (by simp only [List.getElem?_toArray, List.getElem?_cons_zero, List.getElem?_cons_succ]; rfl) (fun K hK => ?_) ?_
                · skip
                  have zc : wq10.cell? ⟨bO, aN, none⟩ = some (.int .u64 (uz old)) := (BD.out.cell (p := ⟨bO, aN, none⟩) lO).trans oc
                  go_simp
                  clear zc
                  clear hHeld
                  refine hK.out _ _ ⟨(BD.out.cell (p := ⟨z, 0, none⟩) lz0).trans z0, (BD.out.cell (p := ⟨z, 1, none⟩) lz1).trans z1⟩ (fun hHeld => ?_)
                  clear hK K
                  try simp only [Act.put, List.setIfInBounds_toArray, List.set_cons_zero, List.set_cons_succ]
                  refine wpAnyH_take (i := 16) (v := ?vv3018) (by simp only [List.getElem?_toArray, List.getElem?_cons_zero, List.getElem?_cons_succ]; rfl) (by kernel_rfl) (by kernel_rfl) (by kernel_rfl) (fun _ _ _ h => h) (Or.inl ⟨by rfl, ?yy3018⟩) (by assumption) ?rr3018
                  case yy3018 => (intro w hSw; (try dsimp only at hSw); go_simp; first | done | with_reducible rfl)
                  simp only [Act.put, List.setIfInBounds_toArray, List.set_cons_zero, List.set_cons_succ]
                  refine wpAnyH_take (i := 17) (v := ?vv3019) (by simp only [List.getElem?_toArray, List.getElem?_cons_zero, List.getElem?_cons_succ]; rfl) (by kernel_rfl) (by kernel_rfl) (by kernel_rfl) (fun _ _ _ h => h) (Or.inl ⟨by rfl, ?yy3019⟩) (by assumption) ?rr3019
                  case yy3019 => (intro w hSw; (try dsimp only at hSw); go_simp; first | done | with_reducible rfl)
                  simp only [Act.put, List.setIfInBounds_toArray, List.set_cons_zero, List.set_cons_succ]
                  refine wpAnyH_ready (rs := [18]) (by kernel_rfl) (by simp) ?_
                  refine AllReadyH.cons (by simp only [List.getElem?_toArray, List.getElem?_cons_zero, List.getElem?_cons_succ]; rfl) (fun K hK => ?_) ?_
                  · skip
                    have RBw := OK2.out.below (chain hd BD.out)
                    have zc := RBw.cell (j := aN) (by rw [acc_len]; simp [noughts]; exact aNk)
                    have f0 := RBw.frozen aN
                    go_simp
                    clear hHeld
                    have b0 : Below bO w5 wq10 := BK2.out.trans ((chain hd BD.out).mono (Nat.le_of_lt OK2.out.lt))
                    have OKn : Hid (RB (wq10.setCell ⟨bO, aN, none⟩ (.int .u64 (uz nv))) bO (accL at' cl (noughts ku) (k + 1))) := by
                      show RB _ _ _
                      rw [acc_row at' cl (noughts ku) k aN cv AV.out CV.out, ← OLD.out, ← NV.out]
                      exact RBw.set aN nv
                    have BKn : Hid (Below bO w5 (wq10.setCell ⟨bO, aN, none⟩ (.int .u64 (uz nv)))) := b0.setCell (p := ⟨bO, aN, none⟩) (Nat.le_refl _) _
                    have KGn : Hid (∀ b, b < w8.heap.size → b ≠ bO → (wq10.setCell ⟨bO, aN, none⟩ (.int .u64 (uz nv))).heap[b]? = w8.heap[b]?) := fun b hb hn => (Below.heap_setCell wq10 ⟨bO, aN, none⟩ _ b hn).trans (((chain hd BD.out).block b (by have := KS2.out; omega)).trans (KG2.out b hb hn))
                    have KSn : Hid (w8.heap.size ≤ (wq10.setCell ⟨bO, aN, none⟩ (.int .u64 (uz nv))).heap.size) := by
                      show _ ≤ _
                      rw [World.size_setCell]
                      exact Nat.le_trans KS2.out (chain hd BD.out).size
                    refine hK.out _ _ ⟨(World.cell?_setCell_far _ _ _ _ (Ne.symm zne)).trans ((BD.out.cell (p := ⟨z, 0, none⟩) lz0).trans z0), (World.cell?_setCell_far _ _ _ _ (Ne.symm zne)).trans ((BD.out.cell (p := ⟨z, 1, none⟩) lz1).trans z1)⟩ (fun hHeld => ?_)
                    clear hK K
                    try simp only [Act.put, List.setIfInBounds_toArray, List.set_cons_zero, List.set_cons_succ]
                    clear b0 RBw zc f0
                    generalize wq10.setCell ⟨bO, aN, none⟩ (.int .u64 (uz nv)) = wq12 at hHeld OKn BKn KGn KSn ⊢
                    refine wpAnyH_done (by kernel_rfl) ?_ _
                    refine NoPanic.normal ?_
                    clear hHeld
                    go_wp2_with fail
                    go_roundg (m - (k + 1))
                    case measure => have := HG.out; have := KM.out; omega
                    case rel => exact ⟨k + 1, by have := KM.out; omega, rfl, by go_num, OKn, BKn, KGn, KSn⟩
                  exact AllReadyH.nil
                exact AllReadyH.nil
              exact AllReadyH.nil
            exact AllReadyH.nil
          exact AllReadyH.nil
        exact AllReadyH.nil
      refine AllReadyH.cons (by simp only [List.getElem?_toArray, List.getElem?_cons_zero, List.getElem?_cons_succ]; rfl) (fun K hK => ?_) ?_
      · skip
        go_simp
        clear hHeld
        obtain ⟨z, hB⟩ : ∃ b, b = wq1.heap.size := ⟨_, rfl⟩
        have zl : wq1.heap.size ≤ z := by rw [hB]; exact BD.out.size
        have Rz : Hid (OC (wq1.alloc (.cells #[.int .u64 0, .int .u64 0] 71)) z On.z) := by rw [hB]; exact heap_alloc_new wq1 _
        rw [← hB]
        clear hB
        replace BD := Lib.hid (chain_alloc BD.out (.cells #[.int .u64 0, .int .u64 0] 71))
        refine hK.out _ _ ⟨(BD.out.cell (p := ⟨bX, oX + p0, none⟩) lx0).trans x0, (BD.out.cell (p := ⟨bX, oX + p1, none⟩) lx1).trans x1, (BD.out.cell (p := ⟨bY, oY + p0, none⟩) ly0).trans y0, (BD.out.cell (p := ⟨bY, oY + p1, none⟩) ly1).trans y1⟩ (fun hHeld => ?_)
        clear hK K
        try simp only [Act.put, List.setIfInBounds_toArray, List.set_cons_zero, List.set_cons_succ]
        generalize wq1.alloc (.cells #[.int .u64 0, .int .u64 0] 71) = wq5 at hHeld Rz BD ⊢
        refine wpAnyH_ready (rs := [24]) (by kernel_rfl) (by simp) ?_
        refine AllReadyH.cons (by simp only [List.getElem?_toArray, List.getElem?_cons_zero, List.getElem?_cons_succ]; rfl) (fun K hK => ?_) ?_
        · skip
          go_simp
          go_at_call 42
          (with_reducible refine (CS.out _).mono ?_)
          rintro e wq6 ⟨rfl, hb⟩
          clear hHeld
          replace BD := Lib.hid (chain BD.out hb)
          replace Rz := Lib.hid (Rz.out.below hb)
          clear hb
          go_wp2_with fail
          refine hK.out _ _ ⟨(BD.out.cell (p := ⟨bX, oX + p0, none⟩) lx0).trans x0, (BD.out.cell (p := ⟨bX, oX + p1, none⟩) lx1).trans x1, (BD.out.cell (p := ⟨bY, oY + p0, none⟩) ly0).trans y0, (BD.out.cell (p := ⟨bY, oY + p1, none⟩) ly1).trans y1⟩ (fun hHeld => ?_)
          clear hK K
          try simp only [Act.put, List.setIfInBounds_toArray, List.set_cons_zero, List.set_cons_succ]
          refine wpAnyH_ready (rs := [26]) (by kernel_rfl) (by simp) ?_
          refine AllReadyH.cons (by simp only [List.getElem?_toArray, List.getElem?_cons_zero, List.getElem?_cons_succ]; rfl) (fun K hK => ?_) ?_
          · skip
            obtain ⟨z0, z1⟩ := Rz.out.cells
            have f0 := Rz.out.frozen 0
            have f1 := Rz.out.frozen 1
            go_simp
            clear hHeld
            replace Rz := Lib.hid (Rz.out.set ov)
            replace BD := Lib.hid (below_set2 BD.out zl (.int .u64 (uz ov.d)) (.int .u64 (uz ov.e)))
            refine hK.out _ _ ⟨(BD.out.cell (p := ⟨bX, oX + p0, none⟩) lx0).trans x0, (BD.out.cell (p := ⟨bX, oX + p1, none⟩) lx1).trans x1, (BD.out.cell (p := ⟨bY, oY + p0, none⟩) ly0).trans y0, (BD.out.cell (p := ⟨bY, oY + p1, none⟩) ly1).trans y1⟩ (fun hHeld => ?_)
            clear hK K
            try simp only [Act.put, List.setIfInBounds_toArray, List.set_cons_zero, List.set_cons_succ]
            generalize ((wq6.setCell ⟨z, 0, none⟩ (.int .u64 (uz ov.d))).setCell ⟨z, 1, none⟩ (.int .u64 (uz ov.e))) = wq7 at hHeld Rz BD ⊢
            clear z0 z1 f0 f1
            refine wpAnyH_done (by kernel_rfl) ?_ _
            refine NoPanic.normal ?_
            clear hHeld
            have BD1 := chain hd BD.out
            have BK2 : Hid (Below bO w5 wq7) := BK.out.trans (BD1.mono (Nat.le_of_lt olt))
            have OK2 : Hid (RB wq7 bO (accL at' cl (noughts ku) k)) := OK.out.below BD1
            have KG2 : Hid (∀ b, b < w8.heap.size → b ≠ bO → wq7.heap[b]? = w8.heap[b]?) := fun b hb hn => (BD1.block b (by have := KS.out; omega)).trans (KG.out b hb hn)
            have KS2 : Hid (w8.heap.size ≤ wq7.heap.size) := Nat.le_trans KS.out BD1.size
            have zg := (BD1.cell (p := ⟨bG, oG + j * 5 + 1, none⟩) lG).trans Z1.out
            have zne : z ≠ bO := by have := hd.size; omega
            obtain ⟨z0, z1⟩ := Rz.out.cells
            have lz0 := Rz.out.lt
            have lz1 := Rz.out.lt
            have oc := OK2.out.cell (j := aN) (by rw [acc_len]; simp [noughts]; exact aNk)
            have lO := OK2.out.lt
            obtain ⟨old, hold⟩ : ∃ old, old = (accL at' cl (noughts ku) k).getD aN 0 := ⟨_, rfl⟩
            rw [← hold] at oc
            obtain ⟨nv, hnv⟩ : ∃ nv, nv = old + cv := ⟨_, rfl⟩
            have OLD := Lib.hid hold; have NV := Lib.hid hnv
            have e1 : IntKind.u64.wrap (uz old + uz cv) = uz nv := by rw [hnv]; exact uz_add _ _
            have aN0 : (0 : Int) ≤ (aN : Int) := Int.natCast_nonneg _
            have aN1 : (aN : Int) < (ku : Int) := Int.ofNat_lt.2 aNk
            clear hold hnv x0 x1 y0 y1 lx0 lx1 ly0 ly1 BD1 BD hd BK OK KG KS Rz zl v1 v2 v3 v4
            have v5 := P5.out; have v6 := P6.out
            go_wp2_with fail
            clear v5 v6 zg
            have v5 := P5.out; have v6 := P6.out
            refine wp_region_noPanic ?_
            refine wp_region_held_drew (S := fun w' => w'.cell? ⟨z, 0, none⟩ = some (.int .u64 (uz ov.d)) ∧ w'.cell? ⟨z, 1, none⟩ = some (.int .u64 (uz ov.e))) (by kernel_rfl) ⟨z0, z1⟩ (fun hHeld => ?_)
            have hd := below_drew wq7
            replace z0 := (hd.cell (p := ⟨z, 0, none⟩) lz0).trans z0
            replace lz0 := Nat.lt_of_lt_of_le lz0 hd.size
            replace z1 := (hd.cell (p := ⟨z, 1, none⟩) lz1).trans z1
            replace lz1 := Nat.lt_of_lt_of_le lz1 hd.size
            replace oc := (hd.cell (p := ⟨bO, aN, none⟩) lO).trans oc
            replace lO := Nat.lt_of_lt_of_le lO hd.size
            generalize wq7.drew = wq1 at hHeld hd z0 lz0 z1 lz1 oc lO ⊢
            have BD : Hid (Below wq1.heap.size wq1 wq1) := Below.refl _ _
            refine wpAnyH_take (i := 0) (v := ?vv4001) (by simp only [List.getElem?_toArray, List.getElem?_cons_zero]; rfl) (by kernel_rfl) (by kernel_rfl) (by kernel_rfl) (fun _ _ _ h => h) (Or.inl ⟨by rfl, ?yy4001⟩) (by assumption) ?rr4001
            case yy4001 => (intro w hSw; (try dsimp only at hSw); go_simp; first | done | with_reducible rfl)
            simp only [Act.put, List.setIfInBounds_toArray, List.set_cons_zero, List.set_cons_succ]
            refine wpAnyH_take (i := 1) (v := ?vv4002) (by simp only [List.getElem?_toArray, List.getElem?_cons_zero, List.getElem?_cons_succ]; rfl) (by kernel_rfl) (by kernel_rfl) (by kernel_rfl) (fun _ _ _ h => h) (Or.inl ⟨by rfl, ?yy4002⟩) (by assumption) ?rr4002
            case yy4002 => (intro w hSw; (try dsimp only at hSw); go_simp; first | done | with_reducible rfl)
            simp only [Act.put, List.setIfInBounds_toArray, List.set_cons_zero, List.set_cons_succ]
            refine wpAnyH_take (i := 2) (v := ?vv4003) (by simp only [List.getElem?_toArray, List.getElem?_cons_zero, List.getElem?_cons_succ]; rfl) (by kernel_rfl) (by kernel_rfl) (by kernel_rfl) (fun _ _ _ h => h) (Or.inl ⟨by rfl, ?yy4003⟩) (by assumption) ?rr4003
            case yy4003 => (intro w hSw; (try dsimp only at hSw); go_simp; first | done | with_reducible rfl)
            simp only [Act.put, List.setIfInBounds_toArray, List.set_cons_zero, List.set_cons_succ]
            refine wpAnyH_take (i := 3) (v := ?vv4004) (by simp only [List.getElem?_toArray, List.getElem?_cons_zero, List.getElem?_cons_succ]; rfl) (by kernel_rfl) (by kernel_rfl) (by kernel_rfl) (fun _ _ _ h => h) (Or.inl ⟨by rfl, ?yy4004⟩) (by assumption) ?rr4004
            case yy4004 => (intro w hSw; (try dsimp only at hSw); go_simp; first | done | with_reducible rfl)
            simp only [Act.put, List.setIfInBounds_toArray, List.set_cons_zero, List.set_cons_succ]
            refine wpAnyH_take (i := 4) (v := ?vv4005) (by simp only [List.getElem?_toArray, List.getElem?_cons_zero, List.getElem?_cons_succ]; rfl) (by kernel_rfl) (by kernel_rfl) (by kernel_rfl) (fun _ _ _ h => h) (Or.inl ⟨by rfl, ?yy4005⟩) (by assumption) ?rr4005
            case yy4005 => (intro w hSw; (try dsimp only at hSw); go_simp; first | done | with_reducible rfl)
            simp only [Act.put, List.setIfInBounds_toArray, List.set_cons_zero, List.set_cons_succ]
            refine wpAnyH_take (i := 6) (v := ?vv4006) (by simp only [List.getElem?_toArray, List.getElem?_cons_zero, List.getElem?_cons_succ]; rfl) (by kernel_rfl) (by kernel_rfl) (by kernel_rfl) (fun _ _ _ h => h) (Or.inl ⟨by rfl, ?yy4006⟩) (by assumption) ?rr4006
            case yy4006 => (intro w hSw; (try dsimp only at hSw); go_simp; first | done | with_reducible rfl)
            simp only [Act.put, List.setIfInBounds_toArray, List.set_cons_zero, List.set_cons_succ]
            refine wpAnyH_take (i := 7) (v := ?vv4007) (by simp only [List.getElem?_toArray, List.getElem?_cons_zero, List.getElem?_cons_succ]; rfl) (by kernel_rfl) (by kernel_rfl) (by kernel_rfl) (fun _ _ _ h => h) (Or.inl ⟨by rfl, ?yy4007⟩) (by assumption) ?rr4007
            case yy4007 => (intro w hSw; (try dsimp only at hSw); go_simp; first | done | with_reducible rfl)
            simp only [Act.put, List.setIfInBounds_toArray, List.set_cons_zero, List.set_cons_succ]
            refine wpAnyH_take (i := 8) (v := ?vv4008) (by simp only [List.getElem?_toArray, List.getElem?_cons_zero, List.getElem?_cons_succ]; rfl) (by kernel_rfl) (by kernel_rfl) (by kernel_rfl) (fun _ _ _ h => h) (Or.inl ⟨by rfl, ?yy4008⟩) (by assumption) ?rr4008
            case yy4008 => (intro w hSw; (try dsimp only at hSw); go_simp; first | done | with_reducible rfl)
            simp only [Act.put, List.setIfInBounds_toArray, List.set_cons_zero, List.set_cons_succ]
            refine wpAnyH_take (i := 9) (v := ?vv4009) (by simp only [List.getElem?_toArray, List.getElem?_cons_zero, List.getElem?_cons_succ]; rfl) (by kernel_rfl) (by kernel_rfl) (by kernel_rfl) (fun _ _ _ h => h) (Or.inl ⟨by rfl, ?yy4009⟩) (by assumption) ?rr4009
            case yy4009 => (intro w hSw; (try dsimp only at hSw); go_simp; first | done | with_reducible rfl)
            simp only [Act.put, List.setIfInBounds_toArray, List.set_cons_zero, List.set_cons_succ]
            refine wpAnyH_take (i := 10) (v := ?vv4010) (by simp only [List.getElem?_toArray, List.getElem?_cons_zero, List.getElem?_cons_succ]; rfl) (by kernel_rfl) (by kernel_rfl) (by kernel_rfl) (fun _ _ _ h => h) (Or.inl ⟨by rfl, ?yy4010⟩) (by assumption) ?rr4010
            case yy4010 => (intro w hSw; (try dsimp only at hSw); go_simp; first | done | with_reducible rfl)
            simp only [Act.put, List.setIfInBounds_toArray, List.set_cons_zero, List.set_cons_succ]
            refine wpAnyH_take (i := 11) (v := ?vv4011) (by simp only [List.getElem?_toArray, List.getElem?_cons_zero, List.getElem?_cons_succ]; rfl) (by kernel_rfl) (by kernel_rfl) (by kernel_rfl) (fun _ _ _ h => h) (Or.inl ⟨by rfl, ?yy4011⟩) (by assumption) ?rr4011
            case yy4011 => (intro w hSw; (try dsimp only at hSw); go_simp; first | done | with_reducible rfl)
            simp only [Act.put, List.setIfInBounds_toArray, List.set_cons_zero, List.set_cons_succ]
            refine wpAnyH_take (i := 12) (v := ?vv4012) (by simp only [List.getElem?_toArray, List.getElem?_cons_zero, List.getElem?_cons_succ]; rfl) (by kernel_rfl) (by kernel_rfl) (by kernel_rfl) (fun _ _ _ h => h) (Or.inl ⟨by rfl, ?yy4012⟩) (by assumption) ?rr4012
            case yy4012 => (intro w hSw; (try dsimp only at hSw); go_simp; first | done | with_reducible rfl)
            simp only [Act.put, List.setIfInBounds_toArray, List.set_cons_zero, List.set_cons_succ]
            refine wpAnyH_take (i := 13) (v := ?vv4013) (by simp only [List.getElem?_toArray, List.getElem?_cons_zero, List.getElem?_cons_succ]; rfl) (by kernel_rfl) (by kernel_rfl) (by kernel_rfl) (fun _ _ _ h => h) (Or.inl ⟨by rfl, ?yy4013⟩) (by assumption) ?rr4013
            case yy4013 => (intro w hSw; (try dsimp only at hSw); go_simp; first | done | with_reducible rfl)
            simp only [Act.put, List.setIfInBounds_toArray, List.set_cons_zero, List.set_cons_succ]
            refine wpAnyH_ready (rs := [5, 14]) (by kernel_rfl) (by simp) ?_
            refine AllReadyH.cons (by simp only [List.getElem?_toArray, List.getElem?_cons_zero, List.getElem?_cons_succ]; rfl) (fun K hK => ?_) ?_
            · skip
              have zc : wq1.cell? ⟨bO, aN, none⟩ = some (.int .u64 (uz old)) := (BD.out.cell (p := ⟨bO, aN, none⟩) lO).trans oc
              go_simp
              clear zc
              clear hHeld
              refine hK.out _ _ ⟨(BD.out.cell (p := ⟨z, 0, none⟩) lz0).trans z0, (BD.out.cell (p := ⟨z, 1, none⟩) lz1).trans z1⟩ (fun hHeld => ?_)
              clear hK K
              try simp only [Act.put, List.setIfInBounds_toArray, List.set_cons_zero, List.set_cons_succ]
              refine wpAnyH_ready (rs := [14]) (by kernel_rfl) (by simp) ?_
              refine AllReadyH.cons (by simp only [List.getElem?_toArray, List.getElem?_cons_zero, List.getElem?_cons_succ]; rfl) (fun K hK => ?_) ?_
              · skip
                go_simp
                go_at_call 37
                (with_reducible refine (CH.out _).mono ?_)
                rintro e wq3 ⟨rfl, hb⟩
                clear hHeld
                replace BD := Lib.hid (chain BD.out hb)
                clear hb
                go_wp2_with fail
                refine hK.out _ _ ⟨(BD.out.cell (p := ⟨z, 0, none⟩) lz0).trans z0, (BD.out.cell (p := ⟨z, 1, none⟩) lz1).trans z1⟩ (fun hHeld => ?_)
                clear hK K
                try simp only [Act.put, List.setIfInBounds_toArray, List.set_cons_zero, List.set_cons_succ]
                refine wpAnyH_ready (rs := [15]) (by kernel_rfl) (by simp) ?_
                refine AllReadyH.cons (by simp only [List.getElem?_toArray, List.getElem?_cons_zero, List.getElem?_cons_succ]; rfl) (fun K hK => ?_) ?_
                · skip
                  go_simp
                  go_at_call 43
                  (with_reducible refine (CC.out _).mono ?_)
                  rintro e wq4 ⟨rfl, hb⟩
                  clear hHeld
                  replace BD := Lib.hid (chain BD.out hb)
                  clear hb
                  go_wp2_with fail
                  refine hK.out _ _ ⟨(BD.out.cell (p := ⟨z, 0, none⟩) lz0).trans z0, (BD.out.cell (p := ⟨z, 1, none⟩) lz1).trans z1⟩ (fun hHeld => ?_)
                  clear hK K
                  try simp only [Act.put, List.setIfInBounds_toArray, List.set_cons_zero, List.set_cons_succ]
                  refine wpAnyH_take (i := 16) (v := ?vv4014) (by simp only [List.getElem?_toArray, List.getElem?_cons_zero, List.getElem?_cons_succ]; rfl) (by kernel_rfl) (by kernel_rfl) (by kernel_rfl) (fun _ _ _ h => h) (Or.inl ⟨by rfl, ?yy4014⟩) (by assumption) ?rr4014
                  case yy4014 => (intro w hSw; (try dsimp only at hSw); go_simp; first | done | with_reducible rfl)
                  simp only [Act.put, List.setIfInBounds_toArray, List.set_cons_zero, List.set_cons_succ]
                  refine wpAnyH_take (i := 17) (v := ?vv4015) (by simp only [List.getElem?_toArray, List.getElem?_cons_zero, List.getElem?_cons_succ]; rfl) (by kernel_rfl) (by kernel_rfl) (by kernel_rfl) (fun _ _ _ h => h) (Or.inl ⟨by rfl, ?yy4015⟩) (by assumption) ?rr4015
                  case yy4015 => (intro w hSw; (try dsimp only at hSw); go_simp; first | done | with_reducible rfl)
                  simp only [Act.put, List.setIfInBounds_toArray, List.set_cons_zero, List.set_cons_succ]
                  refine wpAnyH_ready (rs := [18]) (by kernel_rfl) (by simp) ?_
                  refine AllReadyH.cons (by simp only [List.getElem?_toArray, List.getElem?_cons_zero, List.getElem?_cons_succ]; rfl) (fun K hK => ?_) ?_
                  · skip
                    have RBw := OK2.out.below (chain hd BD.out)
                    have zc := RBw.cell (j := aN) (by rw [acc_len]; simp [noughts]; exact aNk)
                    have f0 := RBw.frozen aN
                    go_simp
                    clear hHeld
                    have b0 : Below bO w5 wq4 := BK2.out.trans ((chain hd BD.out).mono (Nat.le_of_lt OK2.out.lt))
                    have OKn : Hid (RB (wq4.setCell ⟨bO, aN, none⟩ (.int .u64 (uz nv))) bO (accL at' cl (noughts ku) (k + 1))) := by
                      show RB _ _ _
                      rw [acc_row at' cl (noughts ku) k aN cv AV.out CV.out, ← OLD.out, ← NV.out]
                      exact RBw.set aN nv
                    have BKn : Hid (Below bO w5 (wq4.setCell ⟨bO, aN, none⟩ (.int .u64 (uz nv)))) := b0.setCell (p := ⟨bO, aN, none⟩) (Nat.le_refl _) _
                    have KGn : Hid (∀ b, b < w8.heap.size → b ≠ bO → (wq4.setCell ⟨bO, aN, none⟩ (.int .u64 (uz nv))).heap[b]? = w8.heap[b]?) := fun b hb hn => (Below.heap_setCell wq4 ⟨bO, aN, none⟩ _ b hn).trans (((chain hd BD.out).block b (by have := KS2.out; omega)).trans (KG2.out b hb hn))
                    have KSn : Hid (w8.heap.size ≤ (wq4.setCell ⟨bO, aN, none⟩ (.int .u64 (uz nv))).heap.size) := by
                      show _ ≤ _
                      rw [World.size_setCell]
                      exact Nat.le_trans KS2.out (chain hd BD.out).size
                    refine hK.out _ _ ⟨(World.cell?_setCell_far _ _ _ _ (Ne.symm zne)).trans ((BD.out.cell (p := ⟨z, 0, none⟩) lz0).trans z0), (World.cell?_setCell_far _ _ _ _ (Ne.symm zne)).trans ((BD.out.cell (p := ⟨z, 1, none⟩) lz1).trans z1)⟩ (fun hHeld => ?_)
                    clear hK K
                    try simp only [Act.put, List.setIfInBounds_toArray, List.set_cons_zero, List.set_cons_succ]
                    clear b0 RBw zc f0
                    generalize wq4.setCell ⟨bO, aN, none⟩ (.int .u64 (uz nv)) = wq5 at hHeld OKn BKn KGn KSn ⊢
                    refine wpAnyH_done (by kernel_rfl) ?_ _
                    refine NoPanic.normal ?_
                    clear hHeld
                    go_wp2_with fail
                    go_roundg (m - (k + 1))
                    case measure => have := HG.out; have := KM.out; omega
                    case rel => exact ⟨k + 1, by have := KM.out; omega, rfl, by go_num, OKn, BKn, KGn, KSn⟩
                  exact AllReadyH.nil
                exact AllReadyH.nil
              exact AllReadyH.nil
            refine AllReadyH.cons (by simp only [List.getElem?_toArray, List.getElem?_cons_zero, List.getElem?_cons_succ]; rfl) (fun K hK => ?_) ?_
            · skip
              go_simp
              go_at_call 37
              (with_reducible refine (CH.out _).mono ?_)
              rintro e wq6 ⟨rfl, hb⟩
              clear hHeld
              replace BD := Lib.hid (chain BD.out hb)
              clear hb
              go_wp2_with fail
              refine hK.out _ _ ⟨(BD.out.cell (p := ⟨z, 0, none⟩) lz0).trans z0, (BD.out.cell (p := ⟨z, 1, none⟩) lz1).trans z1⟩ (fun hHeld => ?_)
              clear hK K
              try simp only [Act.put, List.setIfInBounds_toArray, List.set_cons_zero, List.set_cons_succ]
              refine wpAnyH_ready (rs := [5, 15]) (by kernel_rfl) (by simp) ?_
              refine AllReadyH.cons (by simp only [List.getElem?_toArray, List.getElem?_cons_zero, List.getElem?_cons_succ]; rfl) (fun K hK => ?_) ?_
              · skip
                have zc : wq6.cell? ⟨bO, aN, none⟩ = some (.int .u64 (uz old)) := (BD.out.cell (p := ⟨bO, aN, none⟩) lO).trans oc
                go_simp
                clear zc
                clear hHeld
                refine hK.out _ _ ⟨(BD.out.cell (p := ⟨z, 0, none⟩) lz0).trans z0, (BD.out.cell (p := ⟨z, 1, none⟩) lz1).trans z1⟩ (fun hHeld => ?_)
                clear hK K
                try simp only [Act.put, List.setIfInBounds_toArray, List.set_cons_zero, List.set_cons_succ]
                refine wpAnyH_ready (rs := [15]) (by kernel_rfl) (by simp) ?_
                refine AllReadyH.cons (by simp only [List.getElem?_toArray, List.getElem?_cons_zero, List.getElem?_cons_succ]; rfl) (fun K hK => ?_) ?_
                · skip
                  go_simp
                  go_at_call 43
                  (with_reducible refine (CC.out _).mono ?_)
                  rintro e wq8 ⟨rfl, hb⟩
                  clear hHeld
                  replace BD := Lib.hid (chain BD.out hb)
                  clear hb
                  go_wp2_with fail
                  refine hK.out _ _ ⟨(BD.out.cell (p := ⟨z, 0, none⟩) lz0).trans z0, (BD.out.cell (p := ⟨z, 1, none⟩) lz1).trans z1⟩ (fun hHeld => ?_)
                  clear hK K
                  try simp only [Act.put, List.setIfInBounds_toArray, List.set_cons_zero, List.set_cons_succ]
                  refine wpAnyH_take (i := 16) (v := ?vv4016) (by simp only [List.getElem?_toArray, List.getElem?_cons_zero, List.getElem?_cons_succ]; rfl) (by kernel_rfl) (by kernel_rfl) (by kernel_rfl) (fun _ _ _ h => h) (Or.inl ⟨by rfl, ?yy4016⟩) (by assumption) ?rr4016
                  case yy4016 => (intro w hSw; (try dsimp only at hSw); go_simp; first | done | with_reducible rfl)
                  simp only [Act.put, List.setIfInBounds_toArray, List.set_cons_zero, List.set_cons_succ]
                  refine wpAnyH_take (i := 17) (v := ?vv4017) (by simp only [List.getElem?_toArray, List.getElem?_cons_zero, List.getElem?_cons_succ]; rfl) (by kernel_rfl) (by kernel_rfl) (by kernel_rfl) (fun _ _ _ h => h) (Or.inl ⟨by rfl, ?yy4017⟩) (by assumption) ?rr4017
                  case yy4017 => (intro w hSw; (try dsimp only at hSw); go_simp; first | done | with_reducible rfl)
                  simp only [Act.put, List.setIfInBounds_toArray, List.set_cons_zero, List.set_cons_succ]
                  refine wpAnyH_ready (rs := [18]) (by kernel_rfl) (by simp) ?_
                  refine AllReadyH.cons (by simp only [List.getElem?_toArray, List.getElem?_cons_zero, List.getElem?_cons_succ]; rfl) (fun K hK => ?_) ?_
                  · skip
                    have RBw := OK2.out.below (chain hd BD.out)
                    have zc := RBw.cell (j := aN) (by rw [acc_len]; simp [noughts]; exact aNk)
                    have f0 := RBw.frozen aN
                    go_simp
                    clear hHeld
                    have b0 : Below bO w5 wq8 := BK2.out.trans ((chain hd BD.out).mono (Nat.le_of_lt OK2.out.lt))
                    have OKn : Hid (RB (wq8.setCell ⟨bO, aN, none⟩ (.int .u64 (uz nv))) bO (accL at' cl (noughts ku) (k + 1))) := by
                      show RB _ _ _
                      rw [acc_row at' cl (noughts ku) k aN cv AV.out CV.out, ← OLD.out, ← NV.out]
                      exact RBw.set aN nv
                    have BKn : Hid (Below bO w5 (wq8.setCell ⟨bO, aN, none⟩ (.int .u64 (uz nv)))) := b0.setCell (p := ⟨bO, aN, none⟩) (Nat.le_refl _) _
                    have KGn : Hid (∀ b, b < w8.heap.size → b ≠ bO → (wq8.setCell ⟨bO, aN, none⟩ (.int .u64 (uz nv))).heap[b]? = w8.heap[b]?) := fun b hb hn => (Below.heap_setCell wq8 ⟨bO, aN, none⟩ _ b hn).trans (((chain hd BD.out).block b (by have := KS2.out; omega)).trans (KG2.out b hb hn))
                    have KSn : Hid (w8.heap.size ≤ (wq8.setCell ⟨bO, aN, none⟩ (.int .u64 (uz nv))).heap.size) := by
                      show _ ≤ _
                      rw [World.size_setCell]
                      exact Nat.le_trans KS2.out (chain hd BD.out).size
                    refine hK.out _ _ ⟨(World.cell?_setCell_far _ _ _ _ (Ne.symm zne)).trans ((BD.out.cell (p := ⟨z, 0, none⟩) lz0).trans z0), (World.cell?_setCell_far _ _ _ _ (Ne.symm zne)).trans ((BD.out.cell (p := ⟨z, 1, none⟩) lz1).trans z1)⟩ (fun hHeld => ?_)
                    clear hK K
                    try simp only [Act.put, List.setIfInBounds_toArray, List.set_cons_zero, List.set_cons_succ]
                    clear b0 RBw zc f0
                    generalize wq8.setCell ⟨bO, aN, none⟩ (.int .u64 (uz nv)) = wq9 at hHeld OKn BKn KGn KSn ⊢
                    refine wpAnyH_done (by kernel_rfl) ?_ _
                    refine NoPanic.normal ?_
                    clear hHeld
                    go_wp2_with fail
                    go_roundg (m - (k + 1))
                    case measure => have := HG.out; have := KM.out; omega
                    case rel => exact ⟨k + 1, by have := KM.out; omega, rfl, by go_num, OKn, BKn, KGn, KSn⟩
                  exact AllReadyH.nil
                exact AllReadyH.nil
              refine AllReadyH.cons (by simp only [List.getElem?_toArray, List.getElem?_cons_zero, List.getElem?_cons_succ]; rfl) (fun K hK => ?_) ?_
              · skip
                go_simp
                go_at_call 43
                (with_reducible refine (CC.out _).mono ?_)
                rintro e wq10 ⟨rfl, hb⟩
                clear hHeld
                replace BD := Lib.hid (chain BD.out hb)
                clear hb
                go_wp2_with fail
                refine hK.out _ _ ⟨(BD.out.cell (p := ⟨z, 0, none⟩) lz0).trans z0, (BD.out.cell (p := ⟨z, 1, none⟩) lz1).trans z1⟩ (fun hHeld => ?_)
                clear hK K
                try simp only [Act.put, List.setIfInBounds_toArray, List.set_cons_zero, List.set_cons_succ]
                refine wpAnyH_ready (rs := [5]) (by kernel_rfl) (by simp) ?_
                refine AllReadyH.cons (by simp only [List.getElem?_toArray, List.getElem?_cons_zero, List.getElem?_cons_succ]; rfl) (fun K hK => ?_) ?_
                · skip
                  have zc : wq10.cell? ⟨bO, aN, none⟩ = some (.int .u64 (uz old)) := (BD.out.cell (p := ⟨bO, aN, none⟩) lO).trans oc
                  go_simp
                  clear zc
                  clear hHeld
                  refine hK.out _ _ ⟨(BD.out.cell (p := ⟨z, 0, none⟩) lz0).trans z0, (BD.out.cell (p := ⟨z, 1, none⟩) lz1).trans z1⟩ (fun hHeld => ?_)
                  clear hK K
                  try simp only [Act.put, List.setIfInBounds_toArray, List.set_cons_zero, List.set_cons_succ]
                  refine wpAnyH_take (i := 16) (v := ?vv4018) (by simp only [List.getElem?_toArray, List.getElem?_cons_zero, List.getElem?_cons_succ]; rfl) (by kernel_rfl) (by kernel_rfl) (by kernel_rfl) (fun _ _ _ h => h) (Or.inl ⟨by rfl, ?yy4018⟩) (by assumption) ?rr4018
                  case yy4018 => (intro w hSw; (try dsimp only at hSw); go_simp; first | done | with_reducible rfl)
                  simp only [Act.put, List.setIfInBounds_toArray, List.set_cons_zero, List.set_cons_succ]
                  refine wpAnyH_take (i := 17) (v := ?vv4019) (by simp only [List.getElem?_toArray, List.getElem?_cons_zero, List.getElem?_cons_succ]; rfl) (by kernel_rfl) (by kernel_rfl) (by kernel_rfl) (fun _ _ _ h => h) (Or.inl ⟨by rfl, ?yy4019⟩) (by assumption) ?rr4019
                  case yy4019 => (intro w hSw; (try dsimp only at hSw); go_simp; first | done | with_reducible rfl)
                  simp only [Act.put, List.setIfInBounds_toArray, List.set_cons_zero, List.set_cons_succ]
                  refine wpAnyH_ready (rs := [18]) (by kernel_rfl) (by simp) ?_
                  refine AllReadyH.cons (by simp only [List.getElem?_toArray, List.getElem?_cons_zero, List.getElem?_cons_succ]; rfl) (fun K hK => ?_) ?_
                  · skip
                    have RBw := OK2.out.below (chain hd BD.out)
                    have zc := RBw.cell (j := aN) (by rw [acc_len]; simp [noughts]; exact aNk)
                    have f0 := RBw.frozen aN
                    go_simp
                    clear hHeld
                    have b0 : Below bO w5 wq10 := BK2.out.trans ((chain hd BD.out).mono (Nat.le_of_lt OK2.out.lt))
                    have OKn : Hid (RB (wq10.setCell ⟨bO, aN, none⟩ (.int .u64 (uz nv))) bO (accL at' cl (noughts ku) (k + 1))) := by
                      show RB _ _ _
                      rw [acc_row at' cl (noughts ku) k aN cv AV.out CV.out, ← OLD.out, ← NV.out]
                      exact RBw.set aN nv
                    have BKn : Hid (Below bO w5 (wq10.setCell ⟨bO, aN, none⟩ (.int .u64 (uz nv)))) := b0.setCell (p := ⟨bO, aN, none⟩) (Nat.le_refl _) _
                    have KGn : Hid (∀ b, b < w8.heap.size → b ≠ bO → (wq10.setCell ⟨bO, aN, none⟩ (.int .u64 (uz nv))).heap[b]? = w8.heap[b]?) := fun b hb hn => (Below.heap_setCell wq10 ⟨bO, aN, none⟩ _ b hn).trans (((chain hd BD.out).block b (by have := KS2.out; omega)).trans (KG2.out b hb hn))
                    have KSn : Hid (w8.heap.size ≤ (wq10.setCell ⟨bO, aN, none⟩ (.int .u64 (uz nv))).heap.size) := by
                      show _ ≤ _
                      rw [World.size_setCell]
                      exact Nat.le_trans KS2.out (chain hd BD.out).size
                    refine hK.out _ _ ⟨(World.cell?_setCell_far _ _ _ _ (Ne.symm zne)).trans ((BD.out.cell (p := ⟨z, 0, none⟩) lz0).trans z0), (World.cell?_setCell_far _ _ _ _ (Ne.symm zne)).trans ((BD.out.cell (p := ⟨z, 1, none⟩) lz1).trans z1)⟩ (fun hHeld => ?_)
                    clear hK K
                    try simp only [Act.put, List.setIfInBounds_toArray, List.set_cons_zero, List.set_cons_succ]
                    clear b0 RBw zc f0
                    generalize wq10.setCell ⟨bO, aN, none⟩ (.int .u64 (uz nv)) = wq12 at hHeld OKn BKn KGn KSn ⊢
                    refine wpAnyH_done (by kernel_rfl) ?_ _
                    refine NoPanic.normal ?_
                    clear hHeld
                    go_wp2_with fail
                    go_roundg (m - (k + 1))
                    case measure => have := HG.out; have := KM.out; omega
                    case rel => exact ⟨k + 1, by have := KM.out; omega, rfl, by go_num, OKn, BKn, KGn, KSn⟩
                  exact AllReadyH.nil
                exact AllReadyH.nil
              exact AllReadyH.nil
            exact AllReadyH.nil
          exact AllReadyH.nil
        exact AllReadyH.nil
      exact AllReadyH.nil
    · obtain rfl : k = m := by omega
      have d1 : decide (k < k) = false := by simp
      obtain ⟨us, hus⟩ : ∃ us, us = accL at' cl (noughts ku) k := ⟨_, rfl⟩
      rw [← hus] at OK E1
      have UL : Hid (us.length = ku) := by show _ = _; rw [hus, acc_len]; simp [noughts]
      have BKw : Hid (Below w5.heap.size w5 wr) := by show Below _ _ _; rw [← HBO.out]; exact BK.out
      have BW := Lib.hid (chain B5.out BKw.out)
      have yt := (BKw.out.cell (p := ⟨bT, oT + st, none⟩) hlT5).trans Y0.out
      obtain ⟨c0, c1, c2, c3⟩ := (N5.out.below BKw.out).cells
      have RG := Lib.hid OK.out.rg
      have CP : Hid (∀ w', Rl w' A ls → Rg ucells w' (some ⟨bO, 0, none⟩) us → Calls Tryz.prog 33 #[.agg #[.int .i64 c, .int .i64 h, .int .i64 x, .slice A n cA], .int .i64 (i1 : Int), .slice (some ⟨bO, 0, none⟩) ku ku] w' (RowAny (ku ≤ ku ∧ ku ≤ maxLen) (poolsU ⟨c, h, x, ls⟩ (ig + 1) us) w')) := fun w' z1 z2 => by
        have hi1 := HI1.out
        have := rpools13 c h x A (some ⟨bO, 0, none⟩) cA n ku ku ls us (ig + 1) w' z1 LX.out hn z2 UL.out.symm HE.out (by have := IGN.out; omega) (by rw [UL.out, ← KU.out]; exact HKU.out.symm)
        rw [← hi1] at this
        rw [← hi1]
        exact this
      have v1 := V1.out; have v2 := V2.out
      have lT2 := Nat.lt_of_lt_of_le hlT5 BKw.out.size
      have ln0 := (N5.out.below BKw.out).lt
      have ln1 := ln0; have ln2 := ln0; have ln3 := ln0
      clear hus OK KG KS
      go_wp2_with fail
      refine wp_region_noPanic ?_
      refine wp_region_held_drew (S := fun w' => w'.cell? ⟨bT, oT + st, none⟩ = some (.int .i64 (ig : Int)) ∧ w'.cell? ⟨w.heap.size, 0, none⟩ = some (.int .i64 c) ∧ w'.cell? ⟨w.heap.size, 1, none⟩ = some (.int .i64 h) ∧ w'.cell? ⟨w.heap.size, 2, none⟩ = some (.int .i64 x) ∧ w'.cell? ⟨w.heap.size, 3, none⟩ = some (.slice A n cA)) (by kernel_rfl) ⟨yt, c0, c1, c2, c3⟩ (fun hHeld => ?_)
      have hd := below_drew wr
      replace yt := (hd.cell (p := ⟨bT, oT + st, none⟩) lT2).trans yt
      replace lT2 := Nat.lt_of_lt_of_le lT2 hd.size
      replace c0 := (hd.cell (p := ⟨w.heap.size, 0, none⟩) ln0).trans c0
      replace ln0 := Nat.lt_of_lt_of_le ln0 hd.size
      replace c1 := (hd.cell (p := ⟨w.heap.size, 1, none⟩) ln1).trans c1
      replace ln1 := Nat.lt_of_lt_of_le ln1 hd.size
      replace c2 := (hd.cell (p := ⟨w.heap.size, 2, none⟩) ln2).trans c2
      replace ln2 := Nat.lt_of_lt_of_le ln2 hd.size
      replace c3 := (hd.cell (p := ⟨w.heap.size, 3, none⟩) ln3).trans c3
      replace ln3 := Nat.lt_of_lt_of_le ln3 hd.size
      generalize wr.drew = wq1 at hHeld hd yt lT2 c0 ln0 c1 ln1 c2 ln2 c3 ln3 ⊢
      have BD : Hid (Below wq1.heap.size wq1 wq1) := Below.refl _ _
      refine wpAnyH_take (i := 0) (v := ?vv1001) (by simp only [List.getElem?_toArray, List.getElem?_cons_zero]; rfl) (by kernel_rfl) (by kernel_rfl) (by kernel_rfl) (fun _ _ _ h => h) (Or.inl ⟨by rfl, ?yy1001⟩) (by assumption) ?rr1001
      case yy1001 => (intro w hSw; (try dsimp only at hSw); go_simp; first | done | with_reducible rfl)
      simp only [Act.put, List.setIfInBounds_toArray, List.set_cons_zero, List.set_cons_succ]
      refine wpAnyH_take (i := 1) (v := ?vv1002) (by simp only [List.getElem?_toArray, List.getElem?_cons_zero, List.getElem?_cons_succ]; rfl) (by kernel_rfl) (by kernel_rfl) (by kernel_rfl) (fun _ _ _ h => h) (Or.inl ⟨by rfl, ?yy1002⟩) (by assumption) ?rr1002
      case yy1002 => (intro w hSw; (try dsimp only at hSw); go_simp; first | done | with_reducible rfl)
      simp only [Act.put, List.setIfInBounds_toArray, List.set_cons_zero, List.set_cons_succ]
      refine wpAnyH_take (i := 2) (v := ?vv1003) (by simp only [List.getElem?_toArray, List.getElem?_cons_zero, List.getElem?_cons_succ]; rfl) (by kernel_rfl) (by kernel_rfl) (by kernel_rfl) (fun _ _ _ h => h) (Or.inl ⟨by rfl, ?yy1003⟩) (by assumption) ?rr1003
      case yy1003 => (intro w hSw; (try dsimp only at hSw); go_simp; first | done | with_reducible rfl)
      simp only [Act.put, List.setIfInBounds_toArray, List.set_cons_zero, List.set_cons_succ]
      refine wpAnyH_take (i := 3) (v := ?vv1004) (by simp only [List.getElem?_toArray, List.getElem?_cons_zero, List.getElem?_cons_succ]; rfl) (by kernel_rfl) (by kernel_rfl) (by kernel_rfl) (fun _ _ _ h => h) (Or.inl ⟨by rfl, ?yy1004⟩) (by assumption) ?rr1004
      case yy1004 => (intro w hSw; (try dsimp only at hSw); go_simp; first | done | with_reducible rfl)
      simp only [Act.put, List.setIfInBounds_toArray, List.set_cons_zero, List.set_cons_succ]
      refine wpAnyH_take (i := 4) (v := ?vv1005) (by simp only [List.getElem?_toArray, List.getElem?_cons_zero, List.getElem?_cons_succ]; rfl) (by kernel_rfl) (by kernel_rfl) (by kernel_rfl) (fun _ _ _ h => h) (Or.inl ⟨by rfl, ?yy1005⟩) (by assumption) ?rr1005
      case yy1005 => (intro w hSw; (try dsimp only at hSw); go_simp; first | done | with_reducible rfl)
      simp only [Act.put, List.setIfInBounds_toArray, List.set_cons_zero, List.set_cons_succ]
      refine wpAnyH_take (i := 5) (v := ?vv1006) (by simp only [List.getElem?_toArray, List.getElem?_cons_zero, List.getElem?_cons_succ]; rfl) (by kernel_rfl) (by kernel_rfl) (by kernel_rfl) (fun _ _ _ h => h) (Or.inl ⟨by rfl, ?yy1006⟩) (by assumption) ?rr1006
      case yy1006 => (intro w hSw; (try dsimp only at hSw); go_simp; first | done | with_reducible rfl)
      simp only [Act.put, List.setIfInBounds_toArray, List.set_cons_zero, List.set_cons_succ]
      refine wpAnyH_take (i := 6) (v := ?vv1007) (by simp only [List.getElem?_toArray, List.getElem?_cons_zero, List.getElem?_cons_succ]; rfl) (by kernel_rfl) (by kernel_rfl) (by kernel_rfl) (fun _ _ _ h => h) (Or.inl ⟨by rfl, ?yy1007⟩) (by assumption) ?rr1007
      case yy1007 => (intro w hSw; (try dsimp only at hSw); go_simp; first | done | with_reducible rfl)
      simp only [Act.put, List.setIfInBounds_toArray, List.set_cons_zero, List.set_cons_succ]
      refine wpAnyH_ready (rs := [7]) (by kernel_rfl) (by simp) ?_
      refine AllReadyH.cons (by simp only [List.getElem?_toArray, List.getElem?_cons_zero, List.getElem?_cons_succ]; rfl) (fun K hK => ?_) ?_
      · skip
        go_simp
        go_at_call 33
        (with_reducible refine (CP.out _ (HX.out.below (chain BW.out (chain hd BD.out))) (RG.out.below (chain hd BD.out))).mono ?_)
        rintro e wq2 ⟨A9, k9, n9, rfl, m9, r9, hb, p9⟩
        have M9 := Lib.hid m9; have R9 := Lib.hid r9; have P9 := Lib.hid p9
        clear hHeld m9 r9 p9
        replace BD := Lib.hid (chain BD.out hb)
        clear hb
        go_wp2_with fail
        refine hK.out _ _ ⟨(BD.out.cell (p := ⟨bT, oT + st, none⟩) lT2).trans yt, (BD.out.cell (p := ⟨w.heap.size, 0, none⟩) ln0).trans c0, (BD.out.cell (p := ⟨w.heap.size, 1, none⟩) ln1).trans c1, (BD.out.cell (p := ⟨w.heap.size, 2, none⟩) ln2).trans c2, (BD.out.cell (p := ⟨w.heap.size, 3, none⟩) ln3).trans c3⟩ (fun hHeld => ?_)
        clear hK K
        try simp only [Act.put, List.setIfInBounds_toArray, List.set_cons_zero, List.set_cons_succ]
        refine wpAnyH_take (i := 8) (v := ?vv1008) (by simp only [List.getElem?_toArray, List.getElem?_cons_zero, List.getElem?_cons_succ]; rfl) (by kernel_rfl) (by kernel_rfl) (by kernel_rfl) (fun _ _ _ h => h) (Or.inl ⟨by rfl, ?yy1008⟩) (by assumption) ?rr1008
        case yy1008 => (intro w hSw; (try dsimp only at hSw); go_simp; first | done | with_reducible rfl)
        simp only [Act.put, List.setIfInBounds_toArray, List.set_cons_zero, List.set_cons_succ]
        refine wpAnyH_take (i := 9) (v := ?vv1009) (by simp only [List.getElem?_toArray, List.getElem?_cons_zero, List.getElem?_cons_succ]; rfl) (by kernel_rfl) (by kernel_rfl) (by kernel_rfl) (fun _ _ _ h => h) (Or.inl ⟨by rfl, ?yy1009⟩) (by assumption) ?rr1009
        case yy1009 => (intro w hSw; (try dsimp only at hSw); go_simp; first | done | with_reducible rfl)
        simp only [Act.put, List.setIfInBounds_toArray, List.set_cons_zero, List.set_cons_succ]
        refine wpAnyH_done (by kernel_rfl) ?_ _
        refine NoPanic.normal ?_
        clear hHeld
        have BF := Lib.hid (chain BW.out (chain hd BD.out))
        clear hd BD yt c0 c1 c2 c3 BKw BW BK N5
        go_wp2_with fail
        go_ret2
        rw [HOK.out, E1.out]
        exact ⟨A9, k9, n9, rfl, M9.out, R9.out, BF.out, (P9.out ⟨Nat.le_refl _, by unfold maxLen; omega⟩).1, (P9.out ⟨Nat.le_refl _, by unfold maxLen; omega⟩).2⟩
      exact AllReadyH.nil

end Go.Proofs.YtklgjhldebdegaaGreat
