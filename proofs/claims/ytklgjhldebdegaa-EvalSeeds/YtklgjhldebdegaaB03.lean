/-
  What the laws of this seat stand on, part 3.
-/
import Derived.Test.YtklgjhldebdegaaB02
import Derived.Laws.StructEq
import Derived.WalkLawsBesides
import Derived.Deep.LoopGhost
namespace Go.Proofs.Ytklgjhldebdegaa
open Go.RowKit

theorem Try.info70 : (Try.prog.info? 70).map (fun i => (i.zero, i.size, i.bytes)) = some (some (.agg #[.int .i64 0, .int .i64 0, .int .i64 0, .int .i64 0, .int .i64 0, .int .i64 0, .int .i64 0, .int .i64 0, .int .i64 0, .int .i64 0, .int .i64 0]), 11, 88) := by kernel_rfl
theorem KB.news {w : World} {g : Nat} {k : Kn} (H : KB w g k) : ∀ j u, (kcells k)[j]? = some u → w.cell? ((⟨g, 0, none⟩ : Addr).add j) = some u := fun j u hu => by
  rw [plain_add, Nat.zero_add, Lib.cell_of_heap H]
  simpa [kcells] using hu
theorem kcells_one (k : Kn) : ∀ u ∈ kcells k, u.oneCell' = true := fun u hu => by
  simp only [kcells, List.mem_cons, List.not_mem_nil, or_false] at hu
  rcases hu with rfl | rfl | rfl | rfl | rfl | rfl | rfl | rfl | rfl | rfl | rfl <;> rfl
theorem own_ne_low {w : World} {B n e s b : Nat} {v : Value} {xs : List Value} (h : w.ownsRow B e s v n xs) (hb : b < B) : some b ≠ v.ownBlock := fun he => by
  have := (h.lt b he.symm).1
  omega
theorem own_ne_high {w : World} {B n e s b : Nat} {v : Value} {xs : List Value} (h : w.ownsRow B e s v n xs) (hb : w.heap.size ≤ b) : some b ≠ v.ownBlock := fun he => by
  have := (h.lt b he.symm).2
  omega

theorem weights_at (k : Kn) (n : Int) (e : k.w = n) (w : World) (hk : KnOk k) : Calls Try.prog 38 #[.agg #[.int .i64 k.l.k, .int .i64 k.l.o, .int .i64 k.l.s, .int .i64 k.l.t, .int .i64 k.i.c, .int .i64 k.i.h, .int .i64 k.i.x, .int .i64 k.u.c, .int .i64 k.u.h, .int .i64 k.u.x, .int .i64 k.a]] w fun e w' => e = .returned (.int .i64 n) ∧ Below w.heap.size w w' := weights_is k n e w hk

/-! ### One layer more -/
theorem fit_stop {s : Sh} {ls : List Ly} {k : Nat} {l : Ly} (h : ls[k]? = some l) (ho : okS (endS s (ls.take k)) l = false) : fitL s ls = false := by
  obtain ⟨hk, e⟩ := List.getElem?_eq_some_iff.1 h
  rw [← List.take_append_drop k ls, fit_app, List.drop_eq_getElem_cons hk, e, fitL, ho, Bool.false_and, Bool.and_false]
theorem fit_next {s : Sh} {ls : List Ly} {k : Nat} {l : Ly} (h : ls[k]? = some l) (hf : fitL s (ls.take k) = true) (ho : okS (endS s (ls.take k)) l = true) : fitL s (ls.take (k + 1)) = true := by
  rw [take_get h, fit_app, hf, fitL, ho]; rfl
theorem end_next {s : Sh} {ls : List Ly} {k : Nat} {l : Ly} (h : ls[k]? = some l) : endS s (ls.take (k + 1)) = outS (endS s (ls.take k)) l := by
  rw [take_get h, end_app]; rfl
theorem w_next {s : Sh} {ls : List Ly} {k : Nat} {l : Ly} (h : ls[k]? = some l) : sumW s (ls.take (k + 1)) = sumW s (ls.take k) + wI (endS s (ls.take k)) l := by
  rw [take_get h, w_app]; simp [sumW]
theorem p_next {s : Sh} {ls : List Ly} {k : Nat} {l : Ly} (h : ls[k]? = some l) : sumP s (ls.take (k + 1)) = sumP s (ls.take k) + pI (endS s (ls.take k)) (outS (endS s (ls.take k)) l) l := by
  rw [take_get h, p_app]; simp [sumP]
theorem kn_next {s : Sh} {ls : List Ly} {k : Nat} {l : Ly} (h : ls[k]? = some l) : knL s 0 (ls.take (k + 1)) = knL s 0 (ls.take k) ++ [⟨l, endS s (ls.take k), outS (endS s (ls.take k)) l, sumW s (ls.take k)⟩] := by
  rw [take_get h, kn_app]; simp [knL]
theorem sum_bd {s : Sh} {ls : List Ly} (r : s.r = true) (hk : ls.all lyB = true) (hf : fitL s ls = true) (hl : ls.length ≤ 1000) : 0 ≤ sumW s ls ∧ sumW s ls ≤ 9216000 ∧ 0 ≤ sumP s ls ∧ sumP s ls ≤ 1327104000 := by
  have a := tot_bd (knL s 0 ls) (kn_all ls s 0 r hk hf)
  rw [tot_w, tot_p, kn_len] at a
  omega
theorem all_take {ls : List Ly} (h : ls.all lyB = true) (k : Nat) : (ls.take k).all lyB = true := by
  rw [List.all_eq_true] at h ⊢
  exact fun x hx => h x (List.mem_of_mem_take hx)

/-- How things stand when some layers have been looked at. -/
def LookAt (w : World) (bi : Nat) (s : Sh) (xs : List Ly) (wr : World) : Prop :=
  SB wr bi (endS s xs) ∧ (∃ v, CB wr (w.heap.size + 1) 62 v ∧ wr.ownsRow (bi + 1) 70 11 v xs.length ((knL s 0 xs).flatMap kcells)) ∧ CB wr (w.heap.size + 1 + 1) 53 (.int .i64 0) ∧ Below w.heap.size w wr

set_option maxHeartbeats 8000000 in
set_option maxRecDepth 100000 in
theorem look_rest (c h x : Int) (A : Option Addr) (cA n : Nat) (ls : List Ly) (w : World) (hx : Rl w A ls) (ln : n = ls.length) (hn : n ≤ 1000) (hf : formB ⟨c, h, x, ls⟩ = true) (hr : rightB c h x = true) :
    Calls Try.prog 24 #[.agg #[.int .i64 c, .int .i64 h, .int .i64 x, .slice A n cA]] w (LookTo ⟨c, h, x, ls⟩ w) := by
  have hmf : ∀ (fn : Fn) (first cap : Array Value) (w : World), (Instr.makeFunc fn first cap).run Try.prog w = .ok (.func fn first cap) w := fun _ _ _ _ => rfl
  obtain ⟨i0, hi, hz0, hz1, hz2⟩ := info_parts Try.info70
  have HX := Lib.hid hx; have LX := Lib.hid ln; have HF := Lib.hid hf; have HR := Lib.hid hr
  clear hx ln hf hr
  go_enter_defers Try.func24, Try.ntmps24
  go_wp2_with fail
  refine (form_any c h x A cA n ls _ (HX.out.below (below_three w _ _ _)) LX.out hn).mono ?_
  rintro e w1 ⟨rfl, hb⟩
  rw [HF.out]
  obtain ⟨k1, k2⟩ := cb_three w (.cells #[.int .i64 c, .int .i64 h, .int .i64 x, .slice A n cA] 26) (.slice none 0 0) (.int .i64 0)
  have K1 := Lib.hid (k1.below hb); have K2 := Lib.hid (k2.below hb)
  have HB := Lib.hid (chain (below_three w _ _ _) hb)
  have hN := (((NB.new w c h x (.slice A n cA)).alloc (.cells #[.slice none 0 0] 62)).alloc (.cells #[.int .i64 0] 53)).below hb
  have HN := Lib.hid hN
  obtain ⟨n0, n1, n2, n3⟩ := hN.cells
  clear hb k1 k2 hN
  go_wp2_with fail
  refine (must_yes 12 _).mono ?_
  rintro e w' ⟨rfl, rfl⟩
  go_wp2_with fail
  refine (right_any c h x _).mono ?_
  rintro e w2 ⟨rfl, hb⟩
  rw [HR.out]
  have J1 := Lib.hid (K1.out.below hb); have J2 := Lib.hid (K2.out.below hb)
  have HC := Lib.hid (chain HB.out hb)
  have hN2 := HN.out.below hb
  clear n0 n1 n2 n3
  obtain ⟨n0, n1, n2, n3⟩ := hN2.cells
  have lw2 := hN2.lt
  clear hb K1 K2 HB HN hN2
  go_wp2_with fail
  refine (must_yes 1 _).mono ?_
  rintro e w' ⟨rfl, rfl⟩
  go_wp2_with fail
  have L2 := J2.out.lt
  obtain ⟨bi, hbi⟩ : ∃ bi, bi = w2.heap.size := ⟨_, rfl⟩
  rw [← hbi]
  obtain ⟨s, HS⟩ : ∃ s : Sh, Hid (s = ⟨c, h, x⟩) := ⟨_, rfl⟩
  have AT0 : Hid (LookAt w bi s [] (w2.alloc (.cells #[.int .i64 c, .int .i64 h, .int .i64 x] 23))) := by
    rw [HS.out, hbi]
    refine ⟨SB.new w2 ⟨c, h, x⟩, ⟨.slice none 0 0, (Lib.alloc_old _ _ _ J1.out.lt).trans J1.out, ⟨rfl, .inl ⟨rfl, rfl⟩⟩⟩, (Lib.alloc_old _ _ _ J2.out.lt).trans J2.out, HC.out.alloc HC.out.size _⟩
  have hbi2 : w.heap.size + 1 + 1 < bi := by rw [hbi]; exact L2
  clear J1 J2 HC n0 n1 n2 n3 L2 hbi lw2
  have HA : Hid (ls.all lyB = true) := (form_parts HF.out).2.2
  have HSR : Hid (s.r = true) := by rw [HS.out]; exact HR.out
  generalize w2.alloc (.cells #[.int .i64 c, .int .i64 h, .int .i64 x] 23) = wX at AT0 ⊢
  go_loopw [5, 24] (fun a i wr => ∃ k : Nat, k ≤ n ∧ a = .int .i64 (sumW s (ls.take k)) ∧ i = .int .i64 k ∧ Hid (fitL s (ls.take k) = true) ∧ Hid (LookAt w bi s (ls.take k) wr)) (fun _ i _ => n - (intOf i).toNat)
  case atStart => exact ⟨0, Nat.zero_le _, rfl, rfl, rfl, AT0⟩
  case round =>
    obtain ⟨k, hk, rfl, rfl, FT, AT⟩ := hrel
    by_cases hlt : k < n
    · have hkl : k < ls.length := by rw [← LX.out]; exact hlt
      obtain ⟨b1, o1, rfl, l1, q⟩ := HX.out (by omega)
      obtain ⟨hS, ⟨v, hV, hO⟩, hW, hB⟩ := id AT.out
      obtain ⟨l, hle⟩ : ∃ l, l = ls.getD k Ly.z := ⟨_, rfl⟩
      have hq := (q k hkl).below hB l1
      rw [← hle] at hq
      have HL : Hid (ls[k]? = some l) := by show _ = _; rw [hle]; exact get_ly hkl
      have hly : lyB l = true := List.all_eq_true.1 HA.out l (List.mem_of_getElem? HL.out)
      have HLY := Lib.hid hly
      obtain ⟨p0, p1, p2, p3⟩ := hq
      have bd := sum_bd HSR.out (all_take HA.out k) FT.out (by rw [List.length_take]; omega)
      obtain ⟨S, hSe⟩ : ∃ S, S = endS s (ls.take k) := ⟨_, rfl⟩
      obtain ⟨a, hae⟩ : ∃ a, a = sumW s (ls.take k) := ⟨_, rfl⟩
      rw [← hSe] at hS
      rw [← hae] at bd
      rw [← hae]
      obtain ⟨bd1, bd2, _, _⟩ := bd
      have HSE := Lib.hid hSe; have HAE := Lib.hid hae
      obtain ⟨s0, s1, s2⟩ := hS.cells
      have cv := hV.cell
      have lS := hS.lt
      have h3a : w.heap.size + 1 < wr.heap.size := hV.lt
      have h3b : w.heap.size + 1 + 1 < wr.heap.size := hW.lt
      have HSB := Lib.hid hS; have HV := Lib.hid hV; have HO := Lib.hid hO; have HW := Lib.hid hW; have HB := Lib.hid hB
      clear q hle hSe hae hS hV hO hW hB hly AT
      go_wp2_with fail
      cases ho : okS S l
      · have HOK := Lib.hid ho
        clear ho
        refine (place_no l S a _ HLY.out HOK.out).mono ?_
        rintro e w3 ⟨rfl, hb⟩
        have B0 : Below wr.heap.size wr w3 := ((Below.refl wr.heap.size wr).alloc (Nat.le_refl _) _).trans (hb.mono (by simp))
        have V3 := Lib.hid (HV.out.below B0); have W3 := Lib.hid (HW.out.below B0)
        have B3 := Lib.hid (chain HB.out B0)
        clear hb B0
        unfold shapeWrong
        go_wp2_with fail
        exact leave_wrong 21 rfl rfl V3.out W3.out (by omega) (look_bad (err_shape HF.out HR.out (by
          have := fit_stop HL.out (s := s) (by rw [← HSE.out]; exact HOK.out)
          rw [HS.out] at this; exact this)) (by decide) (below_wrong B3.out (by omega) (by omega) _ _))
      · have HOK := Lib.hid ho
        clear ho
        refine (place_yes l S a _ HLY.out HOK.out).mono ?_
        rintro e w3 ⟨rfl, hb⟩
        obtain ⟨K, hK⟩ : ∃ K : Kn, K = ⟨l, S, outS S l, a⟩ := ⟨_, rfl⟩
        rw [← hK]
        unfold kv
        have B0 : Below wr.heap.size wr w3 := ((Below.refl wr.heap.size wr).alloc (Nat.le_refl _) _).trans (hb.mono (by simp))
        have z0 : wr.heap.size < w3.heap.size := by have := hb.size; simp at this; omega
        have hS3 := HSB.out.below B0
        have S3 := Lib.hid hS3
        have hV3 := HV.out.below B0
        have V3 := Lib.hid hV3; have W3 := Lib.hid (HW.out.below B0)
        have O3 := Lib.hid (own_belowE HO.out B0)
        have NH := Lib.hid (own_ne_high HO.out (b := w3.heap.size) (by omega))
        have B3 := Lib.hid (chain HB.out B0)
        have KOK : Hid (KnOk K) := by rw [hK]; exact kn_ok a (by rw [HSE.out]; exact end_right _ _ HSR.out (all_take HA.out k) FT.out) HLY.out HOK.out
        have KN : Hid (K = ⟨l, S, outS S l, a⟩) := hK
        have cv3 := hV3.cell
        have fv3 := hV3.frozen
        have lV3 := hV3.lt
        have lS3 := hS3.lt
        have lz : (ls.take k).length = k := by rw [List.length_take]; omega
        clear hb B0 hK hS3 hV3 HSB HV HW HO HB p0 p1 p2 p3 s0 s1 s2 cv
        go_wp2_with (at_builtin; refine wpList_append_own _ rfl _ _ 62 rfl (bi + 1) 70 i0 (.agg #[.int .i64 0, .int .i64 0, .int .i64 0, .int .i64 0, .int .i64 0, .int .i64 0, .int .i64 0, .int .i64 0, .int .i64 0, .int .i64 0, .int .i64 0]) 11 88 Try.underlying62 hi hz0 hz1 hz2 rfl (by decide) v k _ rfl (by have := (O3.out.alloc (.cells #[.int .i64 K.l.k, .int .i64 K.l.o, .int .i64 K.l.s, .int .i64 K.l.t, .int .i64 K.i.c, .int .i64 K.i.h, .int .i64 K.i.x, .int .i64 K.u.c, .int .i64 K.u.h, .int .i64 K.u.x, .int .i64 K.a] 70)).alloc (.cells #[.int .i64 K.l.k, .int .i64 K.l.o, .int .i64 K.l.s, .int .i64 K.l.t, .int .i64 K.i.c, .int .i64 K.i.h, .int .i64 K.i.x, .int .i64 K.u.c, .int .i64 K.u.h, .int .i64 K.u.x, .int .i64 K.a] 70); rwa [lz] at this) ⟨w3.heap.size + 1, 0, none⟩ 1 1 (kcells K) rfl rfl ?c1 (kcells_one K) ?c3 ?c4 ?c5 ?_)
        case c1 =>
          have := (KB.new (w3.alloc (.cells #[.int .i64 K.l.k, .int .i64 K.l.o, .int .i64 K.l.s, .int .i64 K.l.t, .int .i64 K.i.c, .int .i64 K.i.h, .int .i64 K.i.x, .int .i64 K.u.c, .int .i64 K.u.h, .int .i64 K.u.x, .int .i64 K.a] 70)) K).news
          rwa [show (w3.alloc _).heap.size = w3.heap.size + 1 by simp] at this
        case c3 => unfold maxLen; omega
        case c4 => omega
        case c5 => simp; omega
        intro v' w4 hown2 hgrow _
        have O4 : Hid (w4.ownsRow (bi + 1) 70 11 v' (k + 1) ((knL s 0 (ls.take (k + 1))).flatMap kcells)) := by
          show w4.ownsRow _ _ _ _ _ _
          rw [kn_next HL.out, ← HSE.out, ← HAE.out, ← KN.out, List.flatMap_append]
          simpa using hown2
        obtain ⟨A', c', hv', hd1, hd2⟩ := own_rg kcells_len (by decide) O4.out
        clear hd1 hd2 lz
        subst hv'
        have hS4 : SB w4 bi S := (hgrow.block bi (by simp; omega) (own_ne_low O3.out (by omega))).trans ((Lib.alloc_old _ _ _ (by simp; omega)).trans ((Lib.alloc_old _ _ _ (by omega)).trans S3.out))
        have hV4 : CB w4 (w.heap.size + 1) 62 v := (hgrow.block _ (by simp; omega) (own_ne_low O3.out (by omega))).trans ((Lib.alloc_old _ _ _ (by simp; omega)).trans ((Lib.alloc_old _ _ _ (by omega)).trans V3.out))
        have hW4 : CB w4 (w.heap.size + 1 + 1) 53 (.int .i64 0) := (hgrow.block _ (by simp; omega) (own_ne_low O3.out (by omega))).trans ((Lib.alloc_old _ _ _ (by simp; omega)).trans ((Lib.alloc_old _ _ _ (by omega)).trans W3.out))
        have hK4 : KB w4 w3.heap.size K := (hgrow.block _ (by simp; omega) NH.out).trans ((KB.new w3 K).alloc _)
        have hB4 : Below w.heap.size w w4 := ((B3.out.alloc B3.out.size _).alloc (by simp; have := B3.out.size; omega) _).grown hgrow (by simp; have := B3.out.size; omega) (fun q hqq => by have := (O3.out.lt _ hqq).1; omega)
        have S4 := Lib.hid hS4; have V4 := Lib.hid hV4; have W4 := Lib.hid hW4; have K4 := Lib.hid hK4; have B4 := Lib.hid hB4
        have cv4 := hV4.cell
        have fv4 := hV4.frozen
        clear hown2 hgrow hS4 hV4 hW4 hK4 hB4 cv3 fv3 S3 V3 W3 O3 B3
        go_wp2_with fail
        have S5 : Hid (SB (w4.setCell ⟨w.heap.size + 1, 0, none⟩ (Value.slice A' (k + 1) c')) bi S) := (Below.heap_setCell _ _ _ _ (by show bi ≠ w.heap.size + 1; omega)).trans S4.out
        have V5 := Lib.hid (V4.out.set (.slice A' (k + 1) c'))
        have W5 := Lib.hid (W4.out.other ⟨w.heap.size + 1, 0, none⟩ (.slice A' (k + 1) c') (by show w.heap.size + 1 + 1 ≠ w.heap.size + 1; omega))
        have K5 : Hid (KB (w4.setCell ⟨w.heap.size + 1, 0, none⟩ (Value.slice A' (k + 1) c')) w3.heap.size K) := (Below.heap_setCell _ _ _ _ (by show w3.heap.size ≠ w.heap.size + 1; omega)).trans K4.out
        have B5 := Lib.hid (B4.out.setCell (p := ⟨w.heap.size + 1, 0, none⟩) (by show w.heap.size ≤ w.heap.size + 1; omega) (.slice A' (k + 1) c'))
        have O5 := Lib.hid (own_same (w' := w4.setCell ⟨w.heap.size + 1, 0, none⟩ (Value.slice A' (k + 1) c')) O4.out fun g h1 h2 => Below.heap_setCell _ _ _ _ (by show g ≠ w.heap.size + 1; omega))
        clear S4 V4 W4 K4 B4 O4 cv4 fv4
        generalize w4.setCell ⟨w.heap.size + 1, 0, none⟩ (Value.slice A' (k + 1) c') = w5 at S5 V5 W5 K5 B5 O5 ⊢
        obtain ⟨kb, hkb⟩ : ∃ kb, kb = w3.heap.size := ⟨_, rfl⟩
        rw [← hkb] at K5 ⊢
        have ne1 : ¬ kb = bi := by omega
        have ne2 : ¬ bi = kb := by omega
        clear hkb z0 lV3 lS3 NH
        obtain ⟨y0, y1, y2, y3, y4, y5, y6, y7, y8, y9, y10⟩ := K5.out.cells
        have lk := K5.out.lt
        obtain ⟨e, he⟩ : ∃ e, e = K.w := ⟨_, rfl⟩
        have bw := KOK.out.w
        rw [← he] at bw
        obtain ⟨bw1, bw2⟩ := bw
        have HE := Lib.hid he
        clear he
        have V : Hid (IntKind.i64.wrap (a + e) = a + e) := IntWalk.i64_in _ (by omega)
        have HC0 : Hid (Below w5.heap.size w5 w5.drew) := below_drew w5
        have tok1 : True := trivial
        go_region_held3 (fun w' => w'.cell? ⟨kb, 0, none⟩ = some (.int .i64 K.l.k) ∧ w'.cell? ⟨kb, 1, none⟩ = some (.int .i64 K.l.o) ∧ w'.cell? ⟨kb, 2, none⟩ = some (.int .i64 K.l.s) ∧ w'.cell? ⟨kb, 3, none⟩ = some (.int .i64 K.l.t) ∧ w'.cell? ⟨kb, 4, none⟩ = some (.int .i64 K.i.c) ∧ w'.cell? ⟨kb, 5, none⟩ = some (.int .i64 K.i.h) ∧ w'.cell? ⟨kb, 6, none⟩ = some (.int .i64 K.i.x) ∧ w'.cell? ⟨kb, 7, none⟩ = some (.int .i64 K.u.c) ∧ w'.cell? ⟨kb, 8, none⟩ = some (.int .i64 K.u.h) ∧ w'.cell? ⟨kb, 9, none⟩ = some (.int .i64 K.u.x) ∧ w'.cell? ⟨kb, 10, none⟩ = some (.int .i64 K.a))
          (first | exact ⟨q0, q1, q2, q3, q4, q5, q6, q7, q8, q9, q10⟩ | go_keep)
          (first
            | ((have _t := tok1; clear tok1; go_at_call 38; (with_reducible refine (weights_at K e HE.out.symm _ KOK.out).mono ?_); rintro e1 w6 ⟨rfl, hb6⟩
                have HC1 := Lib.hid (HC0.out.trans (hb6.mono HC0.out.size))
                have K6 := Lib.hid (K5.out.below HC1.out)
                obtain ⟨q0, q1, q2, q3, q4, q5, q6, q7, q8, q9, q10⟩ := K6.out.cells
                have S6 := Lib.hid (S5.out.below HC1.out)
                obtain ⟨m0, m1, m2⟩ := S6.out.cells
                have f0 := S6.out.frozen 0
                have f1 := S6.out.frozen 1
                have f2 := S6.out.frozen 2
                clear hb6))
            | fail)
        have HW1 : Hid (sumW s (ls.take (k + 1)) = a + e) := by
          show _ = _
          rw [w_next HL.out, ← HSE.out, ← HAE.out, HE.out, KN.out]; rfl
        have HF1 := Lib.hid (fit_next (s := s) HL.out FT.out (by rw [← HSE.out]; exact HOK.out))
        have hB6 := chain B5.out HC1.out
        have AT1 : Hid (LookAt w bi s (ls.take (k + 1)) (((w6.setCell ⟨bi, 0, none⟩ (.int .i64 K.u.c)).setCell ⟨bi, 1, none⟩ (.int .i64 K.u.h)).setCell ⟨bi, 2, none⟩ (.int .i64 K.u.x))) := by
          refine ⟨?_, ⟨.slice A' (k + 1) c', ?_, ?_⟩, ?_, below_set3 hB6 (by omega) _ _ _⟩
          · rw [end_next HL.out, ← HSE.out]
            have := S6.out.set3 K.u.c K.u.h K.u.x
            rw [KN.out] at this ⊢
            exact this
          · exact (heap_set3 w6 _ bi (by omega) _ _ _).trans (V5.out.below HC1.out)
          · rw [List.length_take, show min (k + 1) ls.length = k + 1 by omega]
            exact own_same (own_belowE O5.out HC1.out) fun g h1 h2 => heap_set3 w6 g bi (by omega) _ _ _
          · exact (heap_set3 w6 _ bi (by omega) _ _ _).trans (W5.out.below HC1.out)
        clear hB6 S5 V5 W5 K5 B5 O5 HC0 HC1 K6 S6 q0 q1 q2 q3 q4 q5 q6 q7 q8 q9 q10 m0 m1 m2 f0 f1 f2 y0 y1 y2 y3 y4 y5 y6 y7 y8 y9 y10
        rw [V.out]
        go_wp2_with fail
        go_roundw
        case rel => exact ⟨k + 1, by omega, by rw [HW1.out], by go_num, HF1, AT1⟩
        case measure => simp [intOf]; omega
    · obtain rfl : k = n := by omega
      have et : ls.take k = ls := by rw [LX.out, List.take_length]
      have FT2 := FT.out
      have AT2 := AT.out
      rw [et] at FT2 AT2
      obtain ⟨hS, ⟨v, hV, hO⟩, hW, hB⟩ := AT2
      obtain ⟨A2, c2, hv, hd1, hd2⟩ := own_rg kcells_len (by decide) hO
      rw [show ls.length = k from LX.out.symm] at hv
      subst hv
      have RK := Lib.hid hd2; have HOO := Lib.hid hO; have HV := Lib.hid hV; have HW := Lib.hid hW; have HB := Lib.hid hB; have FTT := Lib.hid FT2
      have cv := hV.cell
      have h3a : w.heap.size + 1 < wr.heap.size := hV.lt
      have h3b : w.heap.size + 1 + 1 < wr.heap.size := hW.lt
      rw [et]
      clear hS hV hO hW hB hd1 hd2 FT FT2 AT AT0 et
      go_wp2_with fail
      refine (total_any (knL s 0 ls) A2 c2 k wr RK.out (by rw [kn_len]; exact LX.out) (by omega) (kn_all _ _ _ HSR.out HA.out FTT.out)).mono ?_
      rintro e w3 ⟨rfl, hb⟩
      rw [tot_w, tot_p]
      obtain ⟨X, hX⟩ : ∃ X, X = sumW s ls := ⟨_, rfl⟩
      obtain ⟨Y, hY⟩ : ∃ Y, Y = sumP s ls := ⟨_, rfl⟩
      rw [← hX, ← hY]
      have HXE := Lib.hid hX; have HYE := Lib.hid hY
      have hV3 := HV.out.below hb
      have hW3 := HW.out.below hb
      have V3 := Lib.hid hV3; have W3 := Lib.hid hW3
      have O3 := Lib.hid (own_belowE HOO.out hb)
      have B3 := Lib.hid (chain HB.out hb)
      have c1 := hV3.cell
      have f1 := hV3.frozen
      have d1 := hW3.cell
      have g1 := hW3.frozen
      have HFT : Hid (fitL (⟨c, h, x, ls⟩ : Nt).s (⟨c, h, x, ls⟩ : Nt).ls = true) := by have := FTT.out; rw [HS.out] at this; exact this
      have HXN : Hid (X = sumW (⟨c, h, x, ls⟩ : Nt).s (⟨c, h, x, ls⟩ : Nt).ls) := by rw [hX, HS.out]; exact rfl
      have HYN : Hid (Y = sumP (⟨c, h, x, ls⟩ : Nt).s (⟨c, h, x, ls⟩ : Nt).ls) := by rw [hY, HS.out]; exact rfl
      clear hb hX hY hV3 hW3 HV HW HB RK cv
      by_cases hX5 : X ≤ 512
      · have e1 : decide (X ≤ 512) = true := by simpa using hX5
        by_cases hY5 : Y ≤ 512
        · have e2 : decide (Y ≤ 512) = true := by simpa using hY5
          have HE0 := Lib.hid (err_ok (N := ⟨c, h, x, ls⟩) HF.out HR.out HFT.out ⟨by rw [← HXN.out]; exact hX5, by rw [← HYN.out]; exact hY5⟩)
          go_wp2_with fail
          refine (must_yes 5 _).mono ?_
          rintro e w' ⟨rfl, rfl⟩
          go_wp2_with fail
          refine leave_fine (b1 := w.heap.size + 1) (b2 := w.heap.size + 1 + 1) (v0 := .slice A2 k c2) (v1 := .int .i64 0) rfl rfl ((V3.out.set _).other ⟨w.heap.size + 1 + 1, 0, none⟩ _ (by show w.heap.size + 1 ≠ w.heap.size + 1 + 1; omega)) ((W3.out.other ⟨w.heap.size + 1, 0, none⟩ _ (by show w.heap.size + 1 + 1 ≠ w.heap.size + 1; omega)).set _) ?_
          have hkn : knN ⟨c, h, x, ls⟩ = knL s 0 ls := by rw [kn_ok0 HE0.out, HS.out]; rfl
          refine ⟨A2, c2, k, by rw [HE0.out], by rw [hkn, kn_len]; exact LX.out, ?_, ?_⟩
          · rw [hkn]
            have hO4 := own_same (w' := (w3.setCell ⟨w.heap.size + 1, 0, none⟩ (.slice A2 k c2)).setCell ⟨w.heap.size + 1 + 1, 0, none⟩ (.int .i64 0)) O3.out fun g h1 h2 => by
              rw [Below.heap_setCell _ _ _ _ (by show g ≠ w.heap.size + 1 + 1; omega), Below.heap_setCell _ _ _ _ (by show g ≠ w.heap.size + 1; omega)]
            obtain ⟨A3, c3, hv3, _, hR3⟩ := own_rg kcells_len (by decide) hO4
            injection hv3 with z1 z2 z3
            subst z1
            exact hR3
          · exact (B3.out.setCell (p := ⟨w.heap.size + 1, 0, none⟩) (by show w.heap.size ≤ w.heap.size + 1; omega) _).setCell (p := ⟨w.heap.size + 1 + 1, 0, none⟩) (by show w.heap.size ≤ w.heap.size + 1 + 1; omega) _
        · have e2 : decide (Y ≤ 512) = false := by simpa using hY5
          have HE5 := Lib.hid (err_full (N := ⟨c, h, x, ls⟩) HF.out HR.out HFT.out (by rw [← HXN.out, ← HYN.out]; omega))
          go_wp2_with fail
          refine (must_no 5 _).mono ?_
          rintro e w' ⟨rfl, rfl⟩
          go_wp2_with fail
          exact leave_wrong 5 rfl rfl V3.out W3.out (by omega) (look_bad HE5.out (by decide) (below_wrong B3.out (by omega) (by omega) _ _))
      · have e1 : decide (X ≤ 512) = false := by simpa using hX5
        have HE5 := Lib.hid (err_full (N := ⟨c, h, x, ls⟩) HF.out HR.out HFT.out (by rw [← HXN.out]; omega))
        go_wp2_with fail
        refine (must_no 5 _).mono ?_
        rintro e w' ⟨rfl, rfl⟩
        go_wp2_with fail
        exact leave_wrong 5 rfl rfl V3.out W3.out (by omega) (look_bad HE5.out (by decide) (below_wrong B3.out (by omega) (by omega) _ _))

end Go.Proofs.Ytklgjhldebdegaa

namespace Go.Proofs.Ytklgjhldebdegaa
open Go.RowKit

theorem look_any (c h x : Int) (A : Option Addr) (cA n : Nat) (ls : List Ly) (w : World) (hx : Rl w A ls) (ln : n = ls.length) (hn : n ≤ 1000) :
    Calls Try.prog 24 #[.agg #[.int .i64 c, .int .i64 h, .int .i64 x, .slice A n cA]] w (LookTo ⟨c, h, x, ls⟩ w) := by
  cases hf : formB ⟨c, h, x, ls⟩
  · exact look_form c h x A cA n ls w hx ln hn hf
  · cases hr : rightB c h x
    · exact look_arg c h x A cA n ls w hx ln hn hf hr
    · exact look_rest c h x A cA n ls w hx ln hn hf hr

end Go.Proofs.Ytklgjhldebdegaa

namespace Go.Proofs.Ytklgjhldebdegaa
theorem sh_get : ∀ (ls : List Ly) (s : Sh) (i : Nat), i ≤ ls.length → (shL s ls)[i]? = some (endS s (ls.take i))
  | [], s, i, h => by
    obtain rfl : i = 0 := by simpa using h
    rfl
  | l :: ls, s, 0, _ => rfl
  | l :: ls, s, i + 1, h => by
    simp only [shL, List.getElem?_cons_succ, List.take_succ_cons, endS]
    exact sh_get ls _ i (by simpa using h)
theorem kn_get : ∀ (ls : List Ly) (s : Sh) (a : Int) (i : Nat) (l : Ly), ls[i]? = some l → (knL s a ls)[i]? = some ⟨l, endS s (ls.take i), outS (endS s (ls.take i)) l, a + sumW s (ls.take i)⟩
  | [], s, a, i, l, h => by simp at h
  | y :: ls, s, a, 0, l, h => by
    simp only [List.getElem?_cons_zero, Option.some.injEq] at h
    subst h
    simp [knL, endS, sumW]
  | y :: ls, s, a, i + 1, l, h => by
    simp only [List.getElem?_cons_succ] at h
    simp only [knL, List.getElem?_cons_succ, List.take_succ_cons, endS, sumW]
    rw [kn_get ls _ _ i l h, Int.add_assoc]

/-! ### Right networks -/
theorem ok_parts {N : Nt} (h : errN N = 0) : formB N = true ∧ N.s.r = true ∧ fitL N.s N.ls = true ∧ sumW N.s N.ls ≤ 512 ∧ sumP N.s N.ls ≤ 512 := by
  unfold errN at h
  cases h1 : formB N
  · rw [h1] at h; simp at h
  · cases h2 : N.s.r
    · rw [h1, h2] at h; simp at h
    · cases h3 : fitL N.s N.ls
      · rw [h1, h2, h3] at h; simp at h
      · rw [h1, h2, h3] at h
        simp only [Bool.true_eq_false, if_false] at h
        by_cases g : sumW N.s N.ls ≤ 512 ∧ sumP N.s N.ls ≤ 512
        · exact ⟨rfl, rfl, rfl, g⟩
        · rw [if_neg g] at h; omega
theorem sums_nn {s : Sh} {ls : List Ly} (r : s.r = true) (hk : ls.all lyB = true) (hf : fitL s ls = true) : 0 ≤ sumW s ls ∧ 0 ≤ sumP s ls := by
  have a := tot_bd (knL s 0 ls) (kn_all ls s 0 r hk hf)
  rw [tot_w, tot_p] at a
  exact ⟨a.1, a.2.2.1⟩
theorem all_parts {xs ys : List Ly} (h : (xs ++ ys).all lyB = true) : xs.all lyB = true ∧ ys.all lyB = true := by
  rw [List.all_append, Bool.and_eq_true] at h; exact h

theorem knN_ok {c h x : Int} {ls : List Ly} (e : errN ⟨c, h, x, ls⟩ = 0) : knN ⟨c, h, x, ls⟩ = knL ⟨c, h, x⟩ 0 ls := if_pos e
theorem shN_ok {c h x : Int} {ls : List Ly} (e : errN ⟨c, h, x, ls⟩ = 0) : shN ⟨c, h, x, ls⟩ = shL ⟨c, h, x⟩ ls := if_pos e
theorem knN_no {N : Nt} (e : errN N ≠ 0) : knN N = [] := if_neg e
theorem shN_no {N : Nt} (e : errN N ≠ 0) : shN N = [] := if_neg e
theorem knN_all {N : Nt} : ∀ k ∈ knN N, KnOk k := by
  unfold knN
  split
  · rename_i e
    obtain ⟨f, r, t, _, _⟩ := ok_parts e
    exact kn_all _ _ _ r (form_parts f).2.2 t
  · simp
theorem knN_len {N : Nt} : (knN N).length ≤ 8 := by
  unfold knN
  split
  · rename_i e
    obtain ⟨f, _⟩ := ok_parts e
    rw [kn_len]; exact (form_parts f).2.1
  · simp

/-! ### A layer's weights and products -/
theorem w_pos {s : Sh} {l : Ly} (r : s.r = true) (hk : lyB l = true) (ho : okS s l = true) : (wI s l = 0 ↔ (l.k = 2 ∨ l.k = 3)) ∧ 0 ≤ wI s l ∧ wI s l ≤ pI s (outS s l) l ∧ (pI s (outS s l) l = 0 ↔ l.k = 3) := by
  obtain ⟨r1, r2, r3, r4, r5, r6, _⟩ := right_bd r
  obtain ⟨q1, q2, q3, q4, q5, q6, _⟩ := right_bd (out_right r hk ho)
  have nz := size_pos r
  rcases ly_kind hk with k | k | k | k
  · rw [(out_conv s k).2] at ho
    obtain ⟨_, o1, o2, s1, s2, _⟩ := convB_out ho
    rw [p_conv _ _ k, w_conv _ k]
    have a1 : 1 * 1 ≤ l.o * s.c := Int.mul_le_mul o1 r1 (by omega) (by omega)
    have a2 : 1 * 1 ≤ l.o * s.c * l.s := Int.mul_le_mul (by omega) s1 (by omega) (by omega)
    have a3 : 1 * 1 ≤ l.o * s.c * l.s * l.s := Int.mul_le_mul (by omega) s1 (by omega) (by omega)
    generalize l.o * s.c * l.s * l.s = W at a3
    have b1 : W * 1 ≤ W * (outS s l).h := Int.mul_le_mul_of_nonneg_left q3 (by omega)
    have b2 : (W * (outS s l).h) * 1 ≤ W * (outS s l).h * (outS s l).x := Int.mul_le_mul_of_nonneg_left q5 (by omega)
    generalize W * (outS s l).h * (outS s l).x = P at b2
    generalize W * (outS s l).h = Q at b1 b2
    omega
  · rw [w_none _ (by omega) (by omega), p_square _ _ k]; omega
  · rw [w_none _ (by omega) (by omega), p_none _ _ (by omega) (by omega) (by omega)]; omega
  · rw [(out_dense s k).2] at ho
    obtain ⟨b1, b2, _⟩ := rightB_out ho
    rw [p_dense _ _ k, w_dense _ k]
    have a1 : 1 * 1 ≤ l.o * s.n := Int.mul_le_mul b1 nz (by omega) (by omega)
    generalize l.o * s.n = W at a1
    omega

/-! ### A square more -/
/-! ### A layer more -/
end Go.Proofs.Ytklgjhldebdegaa

namespace Go.Proofs.Ytklgjhldebdegaa
open Go.RowKit

/-- What is known of layer i of a network; nothing, if there is none. -/
def atN (N : Nt) (i : Int) : Kn := if 0 ≤ i ∧ i < ((knN N).length : Int) then (knN N).getD i.toNat Kn.z else Kn.z
theorem at_in {N : Nt} {i : Int} (h0 : 0 ≤ i) (h1 : i < ((knN N).length : Int)) : atN N i = (knN N).getD i.toNat Kn.z := if_pos ⟨h0, h1⟩
theorem at_out {N : Nt} {i : Int} (h : ¬ (0 ≤ i ∧ i < ((knN N).length : Int))) : atN N i = Kn.z := if_neg h
theorem kz_ok : KnOk Kn.z := ⟨fun h => absurd h (by decide), fun h => absurd h (by decide)⟩
theorem kn_get? {ks : List Kn} {j : Nat} (h : j < ks.length) : ks[j]? = some (ks.getD j Kn.z) := by
  rw [List.getElem?_eq_getElem h]; simp [List.getD_eq_getElem?_getD, h]
theorem at_ok (N : Nt) (i : Int) : KnOk (atN N i) := by
  by_cases h : 0 ≤ i ∧ i < ((knN N).length : Int)
  · rw [at_in h.1 h.2]
    exact knN_all _ (List.mem_of_getElem? (kn_get? (by omega)))
  · rw [at_out h]; exact kz_ok

set_option maxHeartbeats 1000000 in
theorem all_any (c h x : Int) (A : Option Addr) (cA n : Nat) (ls : List Ly) (w : World) (hx : Rl w A ls) (ln : n = ls.length) (hn : n ≤ 1000) :
    Calls Try.prog 14 #[.agg #[.int .i64 c, .int .i64 h, .int .i64 x, .slice A n cA]] w fun e w' => e = .returned (.tuple #[.int .i64 (totW (knN ⟨c, h, x, ls⟩)), .int .i64 (totP (knN ⟨c, h, x, ls⟩))]) ∧ Below w.heap.size w w' := by
  have HX := Lib.hid hx; have LX := Lib.hid ln
  clear hx ln
  go_enter Try.func14, Try.ntmps14
  go_wp2_with fail
  refine (look_any c h x A cA n ls _ (HX.out.below ((Below.refl _ w).alloc (Nat.le_refl _) _)) LX.out hn).mono ?_
  rintro e w1 ⟨A1, k1, n1, rfl, hn1, hR, hb⟩
  have HB := Lib.hid (chain ((Below.refl w.heap.size w).alloc (Nat.le_refl _) _) hb)
  have HR := Lib.hid hR; have HN := Lib.hid hn1
  have hl : n1 ≤ 1000 := by have := knN_len (N := ⟨c, h, x, ls⟩); omega
  clear hb hR hn1
  go_wp2_with fail
  refine (total_any _ A1 k1 n1 _ HR.out HN.out hl knN_all).mono ?_
  rintro e w2 ⟨rfl, hb⟩
  have HB2 := Lib.hid (chain HB.out hb)
  clear hb
  go_wp2_with fail
  go_ret2
  exact ⟨rfl, HB2.out⟩

theorem kb_two (w : World) (a : Obj) (z : Kn) : KB ((w.alloc a).alloc (.cells #[.int .i64 z.l.k, .int .i64 z.l.o, .int .i64 z.l.s, .int .i64 z.l.t, .int .i64 z.i.c, .int .i64 z.i.h, .int .i64 z.i.x, .int .i64 z.u.c, .int .i64 z.u.h, .int .i64 z.u.x, .int .i64 z.a] 70)) (w.heap.size + 1) z := by
  have := KB.new (w.alloc a) z
  rwa [show (w.alloc a).heap.size = w.heap.size + 1 by simp] at this
theorem below_two (w : World) (a b : Obj) : Below w.heap.size w ((w.alloc a).alloc b) := by
  repeat first | exact Below.refl _ _ | refine chain_alloc ?_ _
theorem below_set11 {w0 w : World} {B b : Nat} (H : Below B w0 w) (hb : B ≤ b) (v0 v1 v2 v3 v4 v5 v6 v7 v8 v9 v10 : Value) :
    Below B w0 (((((((((((w.setCell ⟨b, 0, none⟩ v0).setCell ⟨b, 1, none⟩ v1).setCell ⟨b, 2, none⟩ v2).setCell ⟨b, 3, none⟩ v3).setCell ⟨b, 4, none⟩ v4).setCell ⟨b, 5, none⟩ v5).setCell ⟨b, 6, none⟩ v6).setCell ⟨b, 7, none⟩ v7).setCell ⟨b, 8, none⟩ v8).setCell ⟨b, 9, none⟩ v9).setCell ⟨b, 10, none⟩ v10) :=
  ((((((((((H.setCell (p := ⟨b, 0, none⟩) hb _).setCell (p := ⟨b, 1, none⟩) hb _).setCell (p := ⟨b, 2, none⟩) hb _).setCell (p := ⟨b, 3, none⟩) hb _).setCell (p := ⟨b, 4, none⟩) hb _).setCell (p := ⟨b, 5, none⟩) hb _).setCell (p := ⟨b, 6, none⟩) hb _).setCell (p := ⟨b, 7, none⟩) hb _).setCell (p := ⟨b, 8, none⟩) hb _).setCell (p := ⟨b, 9, none⟩) hb _).setCell (p := ⟨b, 10, none⟩) hb _

set_option maxHeartbeats 2000000 in
theorem layerAt_any (c h x : Int) (A : Option Addr) (cA n : Nat) (ls : List Ly) (i : Int) (w : World) (hx : Rl w A ls) (ln : n = ls.length) (hn : n ≤ 1000) :
    Calls Try.prog 67 #[.agg #[.int .i64 c, .int .i64 h, .int .i64 x, .slice A n cA], .int .i64 i] w fun e w' => e = .returned (kv (atN ⟨c, h, x, ls⟩ i)) ∧ Below w.heap.size w w' := by
  have HX := Lib.hid hx; have LX := Lib.hid ln
  clear hx ln
  go_enter Try.func67, Try.ntmps67
  go_wp2_with fail
  refine (look_any c h x A cA n ls _ (HX.out.below (below_two w _ _)) LX.out hn).mono ?_
  rintro e w1 ⟨A1, k1, n1, rfl, hn1, hR, hb⟩
  have HB := Lib.hid (chain (below_two w _ _) hb)
  have hK := (kb_two w (.cells #[.int .i64 c, .int .i64 h, .int .i64 x, .slice A n cA] 26) Kn.z).below hb
  obtain ⟨y0, y1, y2, y3, y4, y5, y6, y7, y8, y9, y10⟩ := hK.cells
  have f0 := hK.frozen 0
  have f1 := hK.frozen 1
  have f2 := hK.frozen 2
  have f3 := hK.frozen 3
  have f4 := hK.frozen 4
  have f5 := hK.frozen 5
  have f6 := hK.frozen 6
  have f7 := hK.frozen 7
  have f8 := hK.frozen 8
  have f9 := hK.frozen 9
  have f10 := hK.frozen 10
  have HR := Lib.hid hR; have HN := Lib.hid hn1
  have hl : n1 ≤ 1000 := by have := knN_len (N := ⟨c, h, x, ls⟩); omega
  clear hb hR hn1 hK
  by_cases i0 : i < 0
  · have hz : atN ⟨c, h, x, ls⟩ i = Kn.z := at_out (by omega)
    have HZ := Lib.hid hz
    clear hz
    go_wp2_with fail
    exact bodyPost_ret (v := kv Kn.z) (by simp [results, Try.results67, go_sem, kv, Kn.z, y0, y1, y2, y3, y4, y5, y6, y7, y8, y9, y10]) rfl ⟨by rw [HZ.out], below_set11 HB.out (by omega) _ _ _ _ _ _ _ _ _ _ _⟩
  · by_cases i1 : (n1 : Int) ≤ i
    · have hz : atN ⟨c, h, x, ls⟩ i = Kn.z := at_out (by rw [← HN.out]; omega)
      have HZ := Lib.hid hz
      clear hz
      go_wp2_with fail
      exact bodyPost_ret (v := kv Kn.z) (by simp [results, Try.results67, go_sem, kv, Kn.z, y0, y1, y2, y3, y4, y5, y6, y7, y8, y9, y10]) rfl ⟨by rw [HZ.out], below_set11 HB.out (by omega) _ _ _ _ _ _ _ _ _ _ _⟩
    · obtain ⟨j, hj⟩ : ∃ j : Nat, i = j := ⟨i.toNat, by omega⟩
      subst hj
      have hjl : j < (knN ⟨c, h, x, ls⟩).length := by rw [← HN.out]; omega
      have hjn : j < n1 := by omega
      obtain ⟨b1, o1, rfl, l1, q⟩ := HR.out (by omega)
      obtain ⟨K, hKe⟩ : ∃ K, K = (knN ⟨c, h, x, ls⟩).getD j Kn.z := ⟨_, rfl⟩
      have hz : atN ⟨c, h, x, ls⟩ (j : Int) = K := by rw [at_in (by omega) (by omega), hKe]; simp
      have HZ := Lib.hid hz
      have q2 := Rg.at kcells_len q (kn_get? hjl)
      rw [← hKe] at q2
      have p0 : w1.cell? ⟨b1, o1 + j * 11, none⟩ = _ := q2 0 _ rfl
      have p1 := q2 1 _ rfl
      have p2 := q2 2 _ rfl
      have p3 := q2 3 _ rfl
      have p4 := q2 4 _ rfl
      have p5 := q2 5 _ rfl
      have p6 := q2 6 _ rfl
      have p7 := q2 7 _ rfl
      have p8 := q2 8 _ rfl
      have p9 := q2 9 _ rfl
      have p10 := q2 10 _ rfl
      clear q q2 hKe hz
      go_wp2_with fail
      exact bodyPost_ret (v := kv K) (by simp [results, Try.results67, go_sem, kv, y0, y1, y2, y3, y4, y5, y6, y7, y8, y9, y10]) rfl ⟨by rw [HZ.out], below_set11 HB.out (by omega) _ _ _ _ _ _ _ _ _ _ _⟩

theorem layerAt_is (c h x : Int) (A : Option Addr) (cA n : Nat) (ls : List Ly) (i : Int) (K : Kn) (hK : atN ⟨c, h, x, ls⟩ i = K) (w : World) (hx : Rl w A ls) (ln : n = ls.length) (hn : n ≤ 1000) :
    Calls Try.prog 67 #[.agg #[.int .i64 c, .int .i64 h, .int .i64 x, .slice A n cA], .int .i64 i] w fun e w' => e = .returned (.agg #[.int .i64 K.l.k, .int .i64 K.l.o, .int .i64 K.l.s, .int .i64 K.l.t, .int .i64 K.i.c, .int .i64 K.i.h, .int .i64 K.i.x, .int .i64 K.u.c, .int .i64 K.u.h, .int .i64 K.u.x, .int .i64 K.a]) ∧ Below w.heap.size w w' := by
  have := layerAt_any c h x A cA n ls i w hx ln hn
  rw [hK] at this
  exact this

set_option maxHeartbeats 2000000 in
theorem products_of (c h x : Int) (A : Option Addr) (cA n : Nat) (ls : List Ly) (i : Int) (w : World) (hx : Rl w A ls) (ln : n = ls.length) (hn : n ≤ 1000) :
    Calls Try.prog 49 #[.agg #[.int .i64 c, .int .i64 h, .int .i64 x, .slice A n cA], .int .i64 i] w fun e w' => e = .returned (.int .i64 (atN ⟨c, h, x, ls⟩ i).p) ∧ Below w.heap.size w w' := by
  have HX := Lib.hid hx; have LX := Lib.hid ln
  clear hx ln
  obtain ⟨K, hK⟩ : ∃ K, atN ⟨c, h, x, ls⟩ i = K := ⟨_, rfl⟩
  have OK : Hid (KnOk K) := by rw [← hK]; exact at_ok _ _
  rw [hK]
  have HK := Lib.hid hK
  clear hK
  go_enter Try.func49, Try.ntmps49
  go_wp2_with fail
  refine (layerAt_is c h x A cA n ls i K HK.out _ (HX.out.below ((Below.refl _ w).alloc (Nat.le_refl _) _)) LX.out hn).mono ?_
  rintro e w1 ⟨rfl, hb⟩
  have HB := Lib.hid (chain ((Below.refl w.heap.size w).alloc (Nat.le_refl _) _) hb)
  clear hb
  go_wp2_with fail
  refine (products_any K _ OK.out).mono ?_
  rintro e w2 ⟨rfl, hb⟩
  have HB2 := Lib.hid (chain HB.out hb)
  clear hb
  go_wp2_with fail
  go_ret
  exact ⟨rfl, HB2.out⟩

set_option maxHeartbeats 2000000 in
theorem weights_of (c h x : Int) (A : Option Addr) (cA n : Nat) (ls : List Ly) (i : Int) (w : World) (hx : Rl w A ls) (ln : n = ls.length) (hn : n ≤ 1000) :
    Calls Try.prog 75 #[.agg #[.int .i64 c, .int .i64 h, .int .i64 x, .slice A n cA], .int .i64 i] w fun e w' => e = .returned (.tuple #[.int .i64 (atN ⟨c, h, x, ls⟩ i).a, .int .i64 (atN ⟨c, h, x, ls⟩ i).w]) ∧ Below w.heap.size w w' := by
  have HX := Lib.hid hx; have LX := Lib.hid ln
  clear hx ln
  obtain ⟨K, hK⟩ : ∃ K, atN ⟨c, h, x, ls⟩ i = K := ⟨_, rfl⟩
  have OK : Hid (KnOk K) := by rw [← hK]; exact at_ok _ _
  rw [hK]
  have HK := Lib.hid hK
  clear hK
  obtain ⟨e, he⟩ : ∃ e, e = K.w := ⟨_, rfl⟩
  rw [← he]
  have HE := Lib.hid he
  clear he
  go_enter Try.func75, Try.ntmps75
  go_wp2_with fail
  refine (layerAt_is c h x A cA n ls i K HK.out _ (HX.out.below ((Below.refl _ w).alloc (Nat.le_refl _) _)) LX.out hn).mono ?_
  rintro e1 w1 ⟨rfl, hb⟩
  have HB := Lib.hid (chain ((Below.refl w.heap.size w).alloc (Nat.le_refl _) _) hb)
  clear hb
  obtain ⟨W, hW⟩ : ∃ W, W = w1.alloc (.cells #[.int .i64 K.l.k, .int .i64 K.l.o, .int .i64 K.l.s, .int .i64 K.l.t, .int .i64 K.i.c, .int .i64 K.i.h, .int .i64 K.i.x, .int .i64 K.u.c, .int .i64 K.u.h, .int .i64 K.u.x, .int .i64 K.a] 70) := ⟨_, rfl⟩
  have hK5 : KB W w1.heap.size K := by rw [hW]; exact KB.new w1 K
  have HBW : Hid (Below w.heap.size w W) := by rw [hW]; exact HB.out.alloc HB.out.size _
  have K5 := Lib.hid hK5
  obtain ⟨y0, y1, y2, y3, y4, y5, y6, y7, y8, y9, y10⟩ := hK5.cells
  clear hK5
  go_wp2_with fail
  rw [← hW]
  clear hW
  obtain ⟨kb, hkb⟩ : ∃ kb, kb = w1.heap.size := ⟨_, rfl⟩
  rw [← hkb] at K5 y0 y1 y2 y3 y4 y5 y6 y7 y8 y9 y10 ⊢
  clear hkb
  have HC0 : Hid (Below W.heap.size W W.drew) := below_drew W
  have tok1 : True := trivial
  go_region_held3 (fun w' => w'.cell? ⟨kb, 0, none⟩ = some (.int .i64 K.l.k) ∧ w'.cell? ⟨kb, 1, none⟩ = some (.int .i64 K.l.o) ∧ w'.cell? ⟨kb, 2, none⟩ = some (.int .i64 K.l.s) ∧ w'.cell? ⟨kb, 3, none⟩ = some (.int .i64 K.l.t) ∧ w'.cell? ⟨kb, 4, none⟩ = some (.int .i64 K.i.c) ∧ w'.cell? ⟨kb, 5, none⟩ = some (.int .i64 K.i.h) ∧ w'.cell? ⟨kb, 6, none⟩ = some (.int .i64 K.i.x) ∧ w'.cell? ⟨kb, 7, none⟩ = some (.int .i64 K.u.c) ∧ w'.cell? ⟨kb, 8, none⟩ = some (.int .i64 K.u.h) ∧ w'.cell? ⟨kb, 9, none⟩ = some (.int .i64 K.u.x) ∧ w'.cell? ⟨kb, 10, none⟩ = some (.int .i64 K.a))
    (first | exact ⟨q0, q1, q2, q3, q4, q5, q6, q7, q8, q9, q10⟩ | go_keep)
    (first
      | ((have _t := tok1; clear tok1; go_at_call 38; (with_reducible refine (weights_at K e HE.out.symm _ OK.out).mono ?_); rintro e1 w6 ⟨rfl, hb6⟩
          have HC1 := Lib.hid (HC0.out.trans (hb6.mono HC0.out.size))
          have K6 := Lib.hid (K5.out.below HC1.out)
          obtain ⟨q0, q1, q2, q3, q4, q5, q6, q7, q8, q9, q10⟩ := K6.out.cells
          clear hb6))
      | fail)
  go_wp2_with fail
  go_ret2
  exact ⟨rfl, chain HBW.out HC1.out⟩

end Go.Proofs.Ytklgjhldebdegaa

namespace Go.Proofs.Ytklgjhldebdegaa
open Go.RowKit

theorem Try.info23 : (Try.prog.info? 23).map (fun i => (i.zero, i.size, i.bytes)) = some (some (.agg #[.int .i64 0, .int .i64 0, .int .i64 0]), 3, 24) := by kernel_rfl
theorem scells_one (s : Sh) : ∀ u ∈ scells s, u.oneCell' = true := fun u hu => by
  simp only [scells, List.mem_cons, List.not_mem_nil, or_false] at hu
  rcases hu with rfl | rfl | rfl <;> rfl
def ShapesTo (N : Nt) (w : World) (e : Ending) (w' : World) : Prop :=
  ∃ (A : Option Addr) (k n : Nat), e = .returned (.tuple #[.slice A n k, .int .i64 (errN N)]) ∧ n = (shN N).length ∧ Rs w' A (shN N) ∧ Below w.heap.size w w' ∧ n ≤ k ∧ k ≤ maxLen
def ShapesNew (N : Nt) (w : World) (e : Ending) (w' : World) : Prop :=
  ∃ (A : Option Addr) (k n : Nat), e = .returned (.tuple #[.slice A n k, .int .i64 (errN N)]) ∧ n = (shN N).length ∧ Rs w' A (shN N) ∧ Below w.heap.size w w' ∧ n ≤ k ∧ k ≤ maxLen ∧ ∀ a, A = some a → w.heap.size ≤ a.block ∧ ∃ cs fr, w'.heap[a.block]? = some (.cells cs 23 fr)
theorem SB.news {w : World} {g : Nat} {s : Sh} (H : SB w g s) : ∀ j u, (scells s)[j]? = some u → w.cell? ((⟨g, 0, none⟩ : Addr).add j) = some u := fun j u hu => by
  rw [plain_add, Nat.zero_add, Lib.cell_of_heap H]
  simpa [scells] using hu

set_option maxHeartbeats 4000000 in
theorem shapes_new (c h x : Int) (A : Option Addr) (cA n : Nat) (ls : List Ly) (w : World) (hx : Rl w A ls) (ln : n = ls.length) (hn : n ≤ 1000) :
    Calls Try.prog 18 #[.agg #[.int .i64 c, .int .i64 h, .int .i64 x, .slice A n cA]] w (ShapesNew ⟨c, h, x, ls⟩ w) := by
  obtain ⟨i0, hi, hz0, hz1, hz2⟩ := info_parts Try.info23
  have HX := Lib.hid hx; have LX := Lib.hid ln
  clear hx ln
  obtain ⟨er, her⟩ : ∃ er, er = errN ⟨c, h, x, ls⟩ := ⟨_, rfl⟩
  have HER := Lib.hid her
  clear her
  go_enter Try.func18, Try.ntmps18
  go_wp2_with fail
  refine (look_any c h x A cA n ls _ (HX.out.below ((Below.refl _ w).alloc (Nat.le_refl _) _)) LX.out hn).mono ?_
  rintro e w1 ⟨A1, k1, n1, rfl, hn1, hR, hb⟩
  rw [← HER.out]
  have HB := Lib.hid (chain ((Below.refl w.heap.size w).alloc (Nat.le_refl _) _) hb)
  have hN := (NB.new w c h x (.slice A n cA)).below hb
  obtain ⟨m0, m1, m2, m3⟩ := hN.cells
  have lw := hN.lt
  have HR := Lib.hid hR; have HN := Lib.hid hn1
  have hl : n1 ≤ 1000 := by have := knN_len (N := ⟨c, h, x, ls⟩); omega
  clear hb hR hn1 hN
  by_cases h0 : er = 0
  · have b0 : (er != 0) = false := by rw [h0]; rfl
    have HKN : Hid (knN ⟨c, h, x, ls⟩ = knL ⟨c, h, x⟩ 0 ls) := knN_ok (by rw [← HER.out]; exact h0)
    have HSN : Hid (shN ⟨c, h, x, ls⟩ = ⟨c, h, x⟩ :: (knN ⟨c, h, x, ls⟩).map Kn.u) := by
      show _ = _
      rw [shN_ok (by rw [← HER.out]; exact h0), HKN.out]; exact sh_kn ls _ 0
    obtain ⟨ks, hks⟩ : ∃ ks, ks = knN ⟨c, h, x, ls⟩ := ⟨_, rfl⟩
    have HKS := Lib.hid hks
    have HRK : Hid (Rk w1 A1 ks) := by rw [hks]; exact HR.out
    have HNK : Hid (n1 = ks.length) := by rw [hks]; exact HN.out
    have H0 := Lib.hid h0
    clear hks HR HN h0
    obtain ⟨B, hB⟩ : ∃ B, B = w1.heap.size := ⟨_, rfl⟩
    obtain ⟨wX, hwX⟩ : ∃ wX, wX = w1.alloc (.cells #[.int .i64 c, .int .i64 h, .int .i64 x] 23) := ⟨_, rfl⟩
    have OW0 : Hid (wX.ownsRow B 23 3 (.slice (some ⟨B, 0, none⟩) 1 1) 1 (([⟨c, h, x⟩] : List Sh).flatMap scells)) := by
      rw [hwX, hB]
      exact ⟨rfl, .inr ⟨w1.heap.size, 1, #[.int .i64 c, .int .i64 h, .int .i64 x], rfl, Nat.le_refl _, heap_alloc_new w1 _, Nat.le_refl _, by decide, rfl, rfl⟩⟩
    have BX : Hid (Below w1.heap.size w1 wX) := by rw [hwX]; exact (Below.refl _ w1).alloc (Nat.le_refl _) _
    go_wp2_with fail
    rw [← hwX, ← hB]
    have hwB : w.heap.size ≤ B := by rw [hB]; exact HB.out.size
    have HBB := Lib.hid hB
    clear hwX m0 m1 m2 m3 b0 hB
    go_loopw [6, 22] (fun v i wr => ∃ k : Nat, k ≤ n1 ∧ i = .int .i64 k ∧ Hid (wr.ownsRow B 23 3 v (k + 1) ((⟨c, h, x⟩ :: (ks.take k).map Kn.u).flatMap scells)) ∧ Hid (Below w1.heap.size w1 wr)) (fun _ i _ => n1 - (intOf i).toNat)
    case atStart => exact ⟨0, Nat.zero_le _, rfl, OW0, BX⟩
    case round =>
      obtain ⟨k, hk, rfl, OW, BW⟩ := hrel
      by_cases hlt : k < n1
      · have hkl : k < ks.length := by rw [← HNK.out]; exact hlt
        obtain ⟨b1, o1, rfl, l1, q⟩ := HRK.out (by omega)
        obtain ⟨K, hK⟩ : ∃ K, ks[k]? = some K := ⟨_, List.getElem?_eq_getElem hkl⟩
        have HK := Lib.hid hK
        have q1 := Rg.at kcells_len q hK
        have q2 : ∀ r u, (kcells K)[r]? = some u → wr.cell? ⟨b1, o1 + k * 11 + r, none⟩ = some u := fun r u hu => (BW.out.cell (p := ⟨b1, o1 + k * 11 + r, none⟩) l1).trans (q1 r u hu)
        have p0 : wr.cell? ⟨b1, o1 + k * 11, none⟩ = _ := q2 0 _ rfl
        have p1 := q2 1 _ rfl
        have p2 := q2 2 _ rfl
        have p3 := q2 3 _ rfl
        have p4 := q2 4 _ rfl
        have p5 := q2 5 _ rfl
        have p6 := q2 6 _ rfl
        have p7 := q2 7 _ rfl
        have p8 := q2 8 _ rfl
        have p9 := q2 9 _ rfl
        have p10 := q2 10 _ rfl
        have hBw : B ≤ wr.heap.size := by rw [HBB.out]; exact BW.out.size
        clear q q1 q2 hK
        go_wp2_with (at_builtin; refine wpList_append_own _ rfl _ _ 52 rfl B 23 i0 (.agg #[.int .i64 0, .int .i64 0, .int .i64 0]) 3 24 Try.underlying52 hi hz0 hz1 hz2 rfl (by decide) _ (k + 1) _ rfl ((OW.out.alloc _).alloc _) ⟨wr.heap.size + 1, 0, none⟩ 1 1 (scells K.u) rfl rfl ?c1 (scells_one K.u) ?c3 ?c4 ?c5 ?_)
        case c1 =>
          have := (SB.new (wr.alloc (.cells #[.int .i64 K.l.k, .int .i64 K.l.o, .int .i64 K.l.s, .int .i64 K.l.t, .int .i64 K.i.c, .int .i64 K.i.h, .int .i64 K.i.x, .int .i64 K.u.c, .int .i64 K.u.h, .int .i64 K.u.x, .int .i64 K.a] 70)) K.u).news
          rwa [show (wr.alloc _).heap.size = wr.heap.size + 1 by simp] at this
        case c3 => unfold maxLen; omega
        case c4 => omega
        case c5 => simp; omega
        intro v' w4 hown2 hgrow _
        have O4 : Hid (w4.ownsRow B 23 3 v' (k + 1 + 1) ((⟨c, h, x⟩ :: (ks.take (k + 1)).map Kn.u).flatMap scells)) := by
          show w4.ownsRow _ _ _ _ _ _
          rw [take_get HK.out, List.map_append, ← List.cons_append, List.flatMap_append]
          simpa using hown2
        have B4 : Hid (Below w1.heap.size w1 w4) := ((BW.out.alloc BW.out.size _).alloc (by simp; have := BW.out.size; omega) _).grown hgrow (by simp; have := BW.out.size; omega) (fun q hqq => by have := (OW.out.lt _ hqq).1; rw [HBB.out] at this; exact this)
        clear hown2 hgrow p0 p1 p2 p3 p4 p5 p6 p7 p8 p9 p10
        go_wp2_with fail
        go_roundw
        case rel => exact ⟨k + 1, by omega, by go_num, O4, B4⟩
        case measure => simp [intOf]; omega
      · obtain rfl : k = n1 := by omega
        have et : ks.take k = ks := by rw [HNK.out, List.take_length]
        have hO := OW.out
        rw [et] at hO
        obtain ⟨A2, c2, hv, hd1, hd2, hd3, hd4⟩ := own_cap scells_len (by decide) hO
        subst hv
        have NEW : Hid (∀ a, A2 = some a → w.heap.size ≤ a.block ∧ ∃ cs fr, wr.heap[a.block]? = some (.cells cs 23 fr)) := fun a ha => ⟨by have := own_new hO a ha; omega, own_kind hO a ha⟩
        have D1 := Lib.hid hd1; have D2 := Lib.hid hd2; have D3 := Lib.hid hd3; have D4 := Lib.hid hd4
        clear hO hd1 hd2 hd3 hd4 et
        go_wp2_with fail
        go_ret2
        refine ⟨A2, c2, k + 1, by rw [← HER.out, H0.out]; rfl, ?_, ?_, chain HB.out BW.out, D3.out, D4.out, NEW.out⟩
        · rw [HSN.out, ← HKS.out]; exact D1.out
        · rw [HSN.out, ← HKS.out]; exact D2.out
  · have b0 : (er != 0) = true := by simpa using h0
    have H0 : Hid (shN ⟨c, h, x, ls⟩ = []) := shN_no (by rw [← HER.out]; exact h0)
    clear h0
    go_wp2_with fail
    go_ret2
    refine ⟨none, 0, 0, by rw [← HER.out]; rfl, by rw [H0.out]; rfl, by rw [H0.out]; exact Rg.nil _ _ _, HB.out, Nat.le_refl _, Nat.zero_le _, fun a ha => by cases ha⟩
theorem shapes_any (c h x : Int) (A : Option Addr) (cA n : Nat) (ls : List Ly) (w : World) (hx : Rl w A ls) (ln : n = ls.length) (hn : n ≤ 1000) :
    Calls Try.prog 18 #[.agg #[.int .i64 c, .int .i64 h, .int .i64 x, .slice A n cA]] w (ShapesTo ⟨c, h, x, ls⟩ w) := by
  refine (shapes_new c h x A cA n ls w hx ln hn).mono ?_
  rintro e w' ⟨A1, k1, n1, h1, h2, h3, h4, h5, h6, _⟩
  exact ⟨A1, k1, n1, h1, h2, h3, h4, h5, h6⟩

theorem great_any (c h x : Int) (A : Option Addr) (cA n : Nat) (w : World) (r : Bool) (hr : decide (60 < (n : Int)) = r) :
    Calls Try.prog 12 #[.agg #[.int .i64 c, .int .i64 h, .int .i64 x, .slice A n cA]] w fun e w' => e = .returned (.bool r) ∧ Below w.heap.size w w' := by
  subst hr
  go_enter Try.func12, Try.ntmps12
  go_wp2
  go_ret
  exact ⟨by first | rfl | (congr 2; simp), (Below.refl _ w).alloc (Nat.le_refl _) _⟩

end Go.Proofs.Ytklgjhldebdegaa

namespace Go.Proofs.Ytklgjhldebdegaa
open Go.RowKit

def lycells (l : Ly) : List Value := [.int .i64 l.k, .int .i64 l.o, .int .i64 l.s, .int .i64 l.t]
theorem lycells_len (l : Ly) : (lycells l).length = 4 := rfl
theorem rl_of_rg {w : World} {A : Option Addr} {ls : List Ly} (h : Rg lycells w A ls) : Rl w A ls := fun h0 => by
  obtain ⟨b, off, e, hlt, hc⟩ := h h0
  refine ⟨b, off, e, hlt, fun j hj => ?_⟩
  have q := Rg.at lycells_len hc (get_ly hj)
  exact ⟨q 0 _ rfl, q 1 _ rfl, q 2 _ rfl, q 3 _ rfl⟩
end Go.Proofs.Ytklgjhldebdegaa

namespace Go.Proofs.Ytklgjhldebdegaa
open Go.RowKit

theorem at_none {N : Nt} (e : errN N ≠ 0) (i : Int) : atN N i = Kn.z := at_out (by rw [knN_no e]; simp)
theorem at_some {c h x : Int} {ls : List Ly} (e : errN ⟨c, h, x, ls⟩ = 0) {k : Nat} {l : Ly} (hl : ls[k]? = some l) :
    atN ⟨c, h, x, ls⟩ (k : Int) = ⟨l, endS ⟨c, h, x⟩ (ls.take k), outS (endS ⟨c, h, x⟩ (ls.take k)) l, sumW ⟨c, h, x⟩ (ls.take k)⟩ := by
  have hk : k < ls.length := (List.getElem?_eq_some_iff.1 hl).1
  have g := kn_get ls ⟨c, h, x⟩ 0 k l hl
  rw [← knN_ok e, Int.zero_add] at g
  have hk2 : k < (knN ⟨c, h, x, ls⟩).length := by rw [knN_ok e, kn_len]; exact hk
  rw [at_in (by omega) (by omega), Int.toNat_natCast]
  have g2 := kn_get? hk2
  rw [g] at g2
  exact (Option.some.inj g2).symm
theorem tots {c h x : Int} {ls : List Ly} (e : errN ⟨c, h, x, ls⟩ = 0) : totW (knN ⟨c, h, x, ls⟩) = sumW ⟨c, h, x⟩ ls ∧ totP (knN ⟨c, h, x, ls⟩) = sumP ⟨c, h, x⟩ ls := by
  rw [knN_ok e, tot_w, tot_p]; exact ⟨rfl, rfl⟩
theorem ok_all {c h x : Int} {ls : List Ly} (e : errN ⟨c, h, x, ls⟩ = 0) : rightB c h x = true ∧ ls.all lyB = true ∧ fitL ⟨c, h, x⟩ ls = true ∧ sumW ⟨c, h, x⟩ ls ≤ 512 ∧ sumP ⟨c, h, x⟩ ls ≤ 512 ∧ ls.length ≤ 8 := by
  obtain ⟨f, r, t, a, b⟩ := ok_parts e
  obtain ⟨_, f2, f3⟩ := form_parts f
  exact ⟨r, f3, t, a, b, f2⟩
theorem fit_take {s : Sh} {ls : List Ly} (h : fitL s ls = true) (k : Nat) : fitL s (ls.take k) = true := by
  rw [← List.take_append_drop k ls, fit_app, Bool.and_eq_true] at h; exact h.1
theorem fit_at {s : Sh} {ls : List Ly} (h : fitL s ls = true) {k : Nat} {l : Ly} (hl : ls[k]? = some l) : okS (endS s (ls.take k)) l = true := by
  cases o : okS (endS s (ls.take k)) l
  · rw [fit_stop hl o] at h; cases h
  · rfl
/-- What a right network's layer is. -/
theorem layer_facts {c h x : Int} {ls : List Ly} (e : errN ⟨c, h, x, ls⟩ = 0) {k : Nat} {l : Ly} (hl : ls[k]? = some l) :
    lyB l = true ∧ (endS ⟨c, h, x⟩ (ls.take k)).r = true ∧ okS (endS ⟨c, h, x⟩ (ls.take k)) l = true := by
  obtain ⟨r, f3, t, _, _, _⟩ := ok_all e
  exact ⟨List.all_eq_true.1 f3 l (List.mem_of_getElem? hl), end_right _ _ r (all_take f3 k) (fit_take t k), fit_at t hl⟩

end Go.Proofs.Ytklgjhldebdegaa

namespace Go.Proofs.Ytklgjhldebdegaa

/-- A product: the place of a number, that of a weight. -/
structure Tm where
  x : Int
  w : Int
def Tm.z : Tm := ⟨0, 0⟩
/-- Places of a window's row, of its first rows, of the window; of all channels' windows. -/
def rowL (s : Sh) (c y x : Int) (m : Nat) : List Int := (List.range m).map fun q => atI s.c s.h s.x c y (x + (q : Nat))
def winR (s : Sh) (c y x : Int) (m r : Nat) : List Int := (List.range r).flatMap fun i => rowL s c (y + (i : Nat)) x m
def winL (s : Sh) (c y x : Int) (m : Nat) : List Int := winR s c y x m m
def chanL (s : Sh) (y x : Int) (m cs : Nat) : List Int := (List.range cs).flatMap fun c => winL s (c : Nat) y x m
/-- Terms whose weights stand one behind the other. -/
def seqT (b : Int) : List Int → List Tm
  | [] => []
  | x :: xs => ⟨x, b⟩ :: seqT (b + 1) xs
def numL (n : Nat) : List Int := (List.range n).map fun j => ((j : Nat) : Int)

theorem row_next (s : Sh) (c y x : Int) (m : Nat) : rowL s c y x (m + 1) = rowL s c y x m ++ [atI s.c s.h s.x c y (x + (m : Nat))] := by
  unfold rowL; rw [List.range_succ, List.map_append]; rfl
theorem win_next (s : Sh) (c y x : Int) (m r : Nat) : winR s c y x m (r + 1) = winR s c y x m r ++ rowL s c (y + (r : Nat)) x m := by
  unfold winR; rw [List.range_succ, List.flatMap_append]; simp
theorem chan_next (s : Sh) (y x : Int) (m cs : Nat) : chanL s y x m (cs + 1) = chanL s y x m cs ++ winL s (cs : Nat) y x m := by
  unfold chanL; rw [List.range_succ, List.flatMap_append]; simp
theorem row_len (s : Sh) (c y x : Int) (m : Nat) : (rowL s c y x m).length = m := by simp [rowL]
theorem win_len (s : Sh) (c y x : Int) (m : Nat) : ∀ r, (winR s c y x m r).length = r * m
  | 0 => by simp [winR]
  | r + 1 => by rw [win_next, List.length_append, win_len s c y x m r, row_len, Nat.succ_mul]
theorem chan_len (s : Sh) (y x : Int) (m : Nat) : ∀ cs, (chanL s y x m cs).length = cs * (m * m)
  | 0 => by simp [chanL]
  | cs + 1 => by rw [chan_next, List.length_append, chan_len s y x m cs, winL, win_len, Nat.succ_mul]
theorem num_len (n : Nat) : (numL n).length = n := by simp [numL]
theorem seq_len : ∀ (xs : List Int) (b : Int), (seqT b xs).length = xs.length
  | [], _ => rfl
  | x :: xs, b => by simp [seqT, seq_len xs]
theorem seq_app : ∀ (xs ys : List Int) (b : Int), seqT b (xs ++ ys) = seqT b xs ++ seqT (b + xs.length) ys
  | [], ys, b => by simp [seqT]
  | x :: xs, ys, b => by
    simp only [List.cons_append, seqT, List.length_cons]
    rw [seq_app xs ys, show b + 1 + (xs.length : Int) = b + ((xs.length + 1 : Nat) : Int) by omega]
theorem seq_snoc (xs : List Int) (x b : Int) : seqT b (xs ++ [x]) = seqT b xs ++ [⟨x, b + xs.length⟩] := by rw [seq_app]; rfl
theorem seq_get : ∀ (xs : List Int) (b : Int) (j : Nat) (x : Int), xs[j]? = some x → (seqT b xs)[j]? = some ⟨x, b + j⟩
  | [], _, _, _, h => by simp at h
  | y :: ys, b, 0, x, h => by simp at h; simp [seqT, h]
  | y :: ys, b, j + 1, x, h => by
    simp only [seqT, List.getElem?_cons_succ] at h ⊢
    rw [seq_get ys (b + 1) j x h, show b + 1 + (j : Int) = b + ((j + 1 : Nat) : Int) by omega]

/-- The terms of a place that comes out of a layer, and its parts. -/
def termsK (K : Kn) (p : Int) : List Tm :=
  if K.l.k = 1 then seqT (K.a + chI K.u.c K.u.h K.u.x p * K.i.c * K.l.s * K.l.s) (chanL K.i (rowI K.u.c K.u.h K.u.x p * K.l.t) (colI K.u.c K.u.h K.u.x p * K.l.t) K.l.s.toNat K.i.c.toNat)
  else if K.l.k = 2 then [⟨p, -1⟩]
  else if K.l.k = 4 then seqT (K.a + p * K.i.n) (numL K.i.n.toNat)
  else []
def hasK (K : Kn) (p : Int) : Bool := hasB K.u.c K.u.h K.u.x p
def termsN (N : Nt) (i p : Int) : List Tm := if hasK (atN N i) p = true then termsK (atN N i) p else []
def partsK (K : Kn) (p : Int) : List Int :=
  if K.l.k = 3 then winL K.i (chI K.u.c K.u.h K.u.x p) (rowI K.u.c K.u.h K.u.x p * K.l.s) (colI K.u.c K.u.h K.u.x p * K.l.s) K.l.s.toNat else []
def partsN (N : Nt) (i p : Int) : List Int := if hasK (atN N i) p = true then partsK (atN N i) p else []
theorem hasK_z (p : Int) : hasK Kn.z p = false := hasB_no (by rw [show sizeI Kn.z.u.c Kn.z.u.h Kn.z.u.x = 0 from by decide]; omega)

/-! ### Whole numbers as floats -/
def fl (n : Nat) : Nat := FloatKind.f64.nearest n
theorem fl_add : ∀ n : Fin 200, floatBits .add .f64 (fl n) 4607182418800017408 = some (fl (n + 1)) := by decide +kernel
theorem fl_none : ∀ n : Fin 200, floatBits .add .f64 (fl n) 0 = some (fl n) := by decide +kernel
theorem fl_int : ∀ n : Fin 200, floatToIntVal .f64 (fl n) .i64 = some (n : Int) := by decide +kernel
end Go.Proofs.Ytklgjhldebdegaa

namespace Go.Proofs.Ytklgjhldebdegaa
open Go.RowKit

/-- The number that is asked for at a place of three. -/
def pickOf (c y x i : Int) : Int := if i = 0 then c else if i = 1 then y else x
set_option maxHeartbeats 400000 in
theorem at1_any (c y x i side : Int) (b : Nat) (w : World) (h0 : 0 ≤ i) (h1 : i < 3) (s0 : 1 ≤ side) (s1 : side ≤ 12)
    (c0 : w.cell? ⟨b, 0, none⟩ = some (.int .i64 c)) (c1 : w.cell? ⟨b, 1, none⟩ = some (.int .i64 y)) (c2 : w.cell? ⟨b, 2, none⟩ = some (.int .i64 x)) :
    Calls Try.prog 83 #[.int .i64 i, .int .i64 side, .pointer (some ⟨b, 0, none⟩)] w fun e w' => e = .returned (.bool (withinB (pickOf c y x i) 0 (side - 1))) ∧ w = w' := by
  have H : Hid (pickOf c y x 0 = c ∧ pickOf c y x 1 = y ∧ pickOf c y x 2 = x) := ⟨rfl, rfl, rfl⟩
  rcases (by omega : i = 0 ∨ i = 1 ∨ i = 2) with h | h | h
  all_goals
    subst h
    clear h0 h1
    go_enter Try.func83, Try.ntmps83
    go_wp2_with fail
    refine (within_any _ _ _ _).mono ?_
    rintro e w' ⟨rfl, rfl⟩
    go_wp2_with fail
    go_ret
    first | exact ⟨ret_bool (by rw [H.out.1]), rfl⟩ | exact ⟨ret_bool (by rw [H.out.2.1]), rfl⟩ | exact ⟨ret_bool (by rw [H.out.2.2]), rfl⟩
theorem sides_at (k y z c h x : Int) (b : Nat) (w : World) (hb : b < w.heap.size) (r : rightB c h x = true)
    (c0 : w.cell? ⟨b, 0, none⟩ = some (.int .i64 k)) (c1 : w.cell? ⟨b, 1, none⟩ = some (.int .i64 y)) (c2 : w.cell? ⟨b, 2, none⟩ = some (.int .i64 z)) :
    Calls Try.prog 53 #[.agg #[.int .i64 c, .int .i64 h, .int .i64 x], .func (.func 83) #[] #[.pointer (some ⟨b, 0, none⟩)]] w fun e w' => e = .returned (.bool (insideB c h x k y z)) ∧ Below w.heap.size w w' := by
  obtain ⟨a1, a2, a3, a4, a5, a6, a7⟩ := rightB_out r
  have e : insideB c h x k y z = (withinB k 0 (c - 1) && (withinB y 0 (h - 1) && withinB z 0 (x - 1))) := by
    unfold insideB withinB
    rw [r, Bool.true_and, Bool.eq_iff_iff]
    simp
    omega
  rw [e]
  refine sides_core 83 _ _ _ _ c h x w (by intro args w; go_simp) (fun w1 h1 => ?_) (fun _ w1 h1 => ?_) (fun _ _ w1 h1 => ?_)
  · exact at1_any k y z 0 c b w1 (by omega) (by omega) (by omega) (by omega) ((h1.cell (p := ⟨b, 0, none⟩) hb).trans c0) ((h1.cell (p := ⟨b, 1, none⟩) hb).trans c1) ((h1.cell (p := ⟨b, 2, none⟩) hb).trans c2)
  · exact at1_any k y z 1 h b w1 (by omega) (by omega) (by omega) (by omega) ((h1.cell (p := ⟨b, 0, none⟩) hb).trans c0) ((h1.cell (p := ⟨b, 1, none⟩) hb).trans c1) ((h1.cell (p := ⟨b, 2, none⟩) hb).trans c2)
  · exact at1_any k y z 2 x b w1 (by omega) (by omega) (by omega) (by omega) ((h1.cell (p := ⟨b, 0, none⟩) hb).trans c0) ((h1.cell (p := ⟨b, 1, none⟩) hb).trans c1) ((h1.cell (p := ⟨b, 2, none⟩) hb).trans c2)
theorem sides_at_no (k y z c h x : Int) (b : Nat) (w : World) (hb : b < w.heap.size) (r : rightB c h x = true) (s : insideB c h x k y z = false)
    (c0 : w.cell? ⟨b, 0, none⟩ = some (.int .i64 k)) (c1 : w.cell? ⟨b, 1, none⟩ = some (.int .i64 y)) (c2 : w.cell? ⟨b, 2, none⟩ = some (.int .i64 z)) :
    Calls Try.prog 53 #[.agg #[.int .i64 c, .int .i64 h, .int .i64 x], .func (.func 83) #[] #[.pointer (some ⟨b, 0, none⟩)]] w fun e w' => e = .returned (.bool false) ∧ Below w.heap.size w w' := by
  have := sides_at k y z c h x b w hb r c0 c1 c2
  rwa [s] at this
theorem sides_at_yes (k y z c h x : Int) (b : Nat) (w : World) (hb : b < w.heap.size) (r : rightB c h x = true) (s : insideB c h x k y z = true)
    (c0 : w.cell? ⟨b, 0, none⟩ = some (.int .i64 k)) (c1 : w.cell? ⟨b, 1, none⟩ = some (.int .i64 y)) (c2 : w.cell? ⟨b, 2, none⟩ = some (.int .i64 z)) :
    Calls Try.prog 53 #[.agg #[.int .i64 c, .int .i64 h, .int .i64 x], .func (.func 83) #[] #[.pointer (some ⟨b, 0, none⟩)]] w fun e w' => e = .returned (.bool true) ∧ Below w.heap.size w w' := by
  have := sides_at k y z c h x b w hb r c0 c1 c2
  rwa [s] at this
set_option maxHeartbeats 1000000 in
theorem at_any (c h x k y z : Int) (w : World) :
    Calls Try.prog 82 #[.agg #[.int .i64 c, .int .i64 h, .int .i64 x], .int .i64 k, .int .i64 y, .int .i64 z] w fun e w' => e = .returned (.int .i64 (atI c h x k y z)) ∧ Below w.heap.size w w' := by
  cases r : rightB c h x
  · have HS := Lib.hid (atI_no (insideB_wrong (k := k) (y := y) (x := z) r))
    have HR := Lib.hid r; clear r
    go_enter Try.func82, Try.ntmps82
    go_wp2_with fail
    refine (right_no c h x _ HR.out).mono ?_
    rintro e w1 ⟨rfl, hb1⟩
    have HB1 : Hid (Below w.heap.size w w1) := chain (by repeat first | exact Below.refl _ _ | refine chain_alloc ?_ _) hb1
    clear hb1
    go_wp2_with fail
    go_ret
    exact ⟨ret_int HS.out.symm, HB1.out⟩
  · cases s : insideB c h x k y z
    · have HS := Lib.hid (atI_no s)
      have HR := Lib.hid r; clear r
      have HI := Lib.hid s; clear s
      go_enter Try.func82, Try.ntmps82
      go_wp2_with fail
      refine (right_yes c h x _ HR.out).mono ?_
      rintro e w1 ⟨rfl, hb1⟩
      have HB1 : Hid (Below w.heap.size w w1) := chain (by repeat first | exact Below.refl _ _ | refine chain_alloc ?_ _) hb1
      obtain ⟨hc, hf⟩ := bcell hb1
      have hz : w.heap.size + 1 < w1.heap.size := by have := hb1.size; simp at this; omega
      clear hb1
      go_wp2_with fail
      refine (sides_at_no k y z c h x (w.heap.size + 1) _ hz HR.out HI.out (by rw [hc _ _ (by simp)]; simp) (by rw [hc _ _ (by simp)]; simp) (by rw [hc _ _ (by simp)]; simp)).mono ?_
      rintro e w2 ⟨rfl, hb2⟩
      have HB2 : Hid (Below w.heap.size w w2) := chain HB1.out hb2
      clear hb2
      go_wp2_with fail
      go_ret
      exact ⟨ret_int HS.out.symm, HB2.out⟩
    · obtain ⟨b1, b2, b3, b4, b5, b6⟩ := at_small s
      obtain ⟨_, k0, k1, y0, y1, z0, z1⟩ := insideB_out s
      obtain ⟨a1, a2, a3, a4, a5, a6, a7⟩ := rightB_out r
      have HS := Lib.hid (atI_yes s)
      have HR := Lib.hid r; clear r
      have HI := Lib.hid s; clear s
      go_enter Try.func82, Try.ntmps82
      go_wp2_with fail
      refine (right_yes c h x _ HR.out).mono ?_
      rintro e w1 ⟨rfl, hb1⟩
      have HB1 : Hid (Below w.heap.size w w1) := chain (by repeat first | exact Below.refl _ _ | refine chain_alloc ?_ _) hb1
      obtain ⟨hc, hf⟩ := bcell hb1
      have hz : w.heap.size + 1 < w1.heap.size := by have := hb1.size; simp at this; omega
      clear hb1
      go_wp2_with fail
      refine (sides_at_yes k y z c h x (w.heap.size + 1) _ hz HR.out HI.out (by rw [hc _ _ (by simp)]; simp) (by rw [hc _ _ (by simp)]; simp) (by rw [hc _ _ (by simp)]; simp)).mono ?_
      rintro e w2 ⟨rfl, hb2⟩
      have HB2 : Hid (Below w.heap.size w w2) := chain HB1.out hb2
      have g1 : w2.cell? ⟨w.heap.size, 1, none⟩ = some (.int .i64 h) := by rw [hb2.cell (p := ⟨w.heap.size, 1, none⟩) (by show w.heap.size < _; omega), hc _ _ (by simp <;> omega)]; go_simp
      have g2 : w2.cell? ⟨w.heap.size, 2, none⟩ = some (.int .i64 x) := by rw [hb2.cell (p := ⟨w.heap.size, 2, none⟩) (by show w.heap.size < _; omega), hc _ _ (by simp <;> omega)]; go_simp
      clear hb2 hc hf
      go_wp2_with fail
      go_ret
      exact ⟨ret_int HS.out.symm, HB2.out⟩

end Go.Proofs.Ytklgjhldebdegaa

namespace Go.Proofs.Ytklgjhldebdegaa
open Go.RowKit

theorem four_out {fn : Func} {p q r s : Tmp} (e : fn.results = #[.tmp p, .tmp q, .tmp r, .tmp s]) (ts : Array Value) (P : Program) (w : World) :
    (results fn ts).run P w = .ok (.tuple #[ts.getD p undef, ts.getD q undef, ts.getD r undef, ts.getD s undef]) w := by simp [results, e]
theorem ret_of {a b c a' b' c' : Int} {i i' : Bool} (h : a = a' ∧ b = b' ∧ c = c' ∧ i = i') :
    Ending.returned (.tuple #[.int .i64 a, .int .i64 b, .int .i64 c, .bool i]) = .returned (.tuple #[.int .i64 a', .int .i64 b', .int .i64 c', .bool i']) := by
  obtain ⟨rfl, rfl, rfl, rfl⟩ := h; rfl
theorem has_within (c h x i : Int) : withinB i 0 (sizeI c h x - 1) = hasB c h x i := by
  unfold withinB hasB
  rw [Bool.eq_iff_iff]; simp; omega
theorem within_has (c h x i : Int) (r : Bool) (e : hasB c h x i = r) (w : World) :
    Calls Try.prog 55 #[.int .i64 i, .int .i64 0, .int .i64 (sizeI c h x - 1)] w fun e w' => e = .returned (.bool r) ∧ w = w' := by
  have := within_any i 0 (sizeI c h x - 1) w
  rwa [has_within, e] at this
set_option maxHeartbeats 1000000 in
theorem of_any (c h x i : Int) (w : World) :
    Calls Try.prog 80 #[.agg #[.int .i64 c, .int .i64 h, .int .i64 x], .int .i64 i] w fun e w' =>
      e = .returned (.tuple #[.int .i64 (chI c h x i), .int .i64 (rowI c h x i), .int .i64 (colI c h x i), .bool (hasB c h x i)]) ∧ Below w.heap.size w w' := by
  have sb := sizeI_bd c h x
  obtain ⟨sb1, sb2⟩ := sb
  cases r : hasB c h x i
  · have HS := Lib.hid (of_no r)
    have HR := Lib.hid r; clear r
    go_enter Try.func80, Try.ntmps80
    go_wp2_with fail
    refine (size_any c h x _).mono ?_
    rintro e w1 ⟨rfl, hb1⟩
    have HB1 : Hid (Below w.heap.size w w1) := chain (by repeat first | exact Below.refl _ _ | refine chain_alloc ?_ _) hb1
    clear hb1
    go_wp2_with fail
    refine (within_has c h x i _ HR.out _).mono ?_
    rintro e w' ⟨rfl, rfl⟩
    go_wp2_with fail
    refine bodyPost_ret (four_out rfl _ _ _) rfl ?_
    exact ⟨ret_of ⟨HS.out.1.symm, HS.out.2.1.symm, HS.out.2.2.symm, rfl⟩, HB1.out⟩
  · obtain ⟨i0, i1⟩ := hasB_out r
    obtain ⟨a1, a2, a3, a4, a5, a6, a7⟩ := rightB_out (hasB_right r)
    obtain ⟨b1, b2, b3, b4, b5, b6⟩ := prod_small a1 a2 a3 a4 a5 a6
    have n1 : ¬ h * x = 0 := by omega
    have n2 : ¬ h = 0 := by omega
    have n3 : ¬ x = 0 := by omega
    have q1 : 0 ≤ i / x := Int.ediv_nonneg i0 (by omega)
    have HS := Lib.hid (of_yes r)
    have HR := Lib.hid r; clear r
    go_enter Try.func80, Try.ntmps80
    go_wp2_with fail
    refine (size_any c h x _).mono ?_
    rintro e w1 ⟨rfl, hb1⟩
    have HB1 : Hid (Below w.heap.size w w1) := chain (by repeat first | exact Below.refl _ _ | refine chain_alloc ?_ _) hb1
    have g1 : w1.cell? ⟨w.heap.size, 1, none⟩ = some (.int .i64 h) := by rw [hb1.cell (p := ⟨w.heap.size, 1, none⟩) (by show w.heap.size < _; simp)]; go_simp
    have g2 : w1.cell? ⟨w.heap.size, 2, none⟩ = some (.int .i64 x) := by rw [hb1.cell (p := ⟨w.heap.size, 2, none⟩) (by show w.heap.size < _; simp)]; go_simp
    clear hb1
    go_wp2_with fail
    refine (within_has c h x i _ HR.out _).mono ?_
    rintro e w' ⟨rfl, rfl⟩
    go_wp2_with fail
    go_quiet (fail)
    go_wp2_with fail
    refine bodyPost_ret (four_out rfl _ _ _) rfl ?_
    exact ⟨ret_of ⟨HS.out.1.symm, HS.out.2.1.symm, HS.out.2.2.symm, rfl⟩, chain_drewN HB1.out _⟩

end Go.Proofs.Ytklgjhldebdegaa

namespace Go.Proofs.Ytklgjhldebdegaa
open Go.RowKit

/-- Sources that lie in memory stay. -/
def KeepX (w w' : World) : Prop := ∀ (b : Nat) (cs : Array Value), w.heap[b]? = some (Obj.cells cs 121 (0, 0)) → w'.heap[b]? = some (Obj.cells cs 121 (0, 0))
theorem KeepX.refl (w : World) : KeepX w w := fun _ _ h => h
theorem KeepX.trans {a b c : World} (h : KeepX a b) (g : KeepX b c) : KeepX a c := fun x cs q => g x cs (h x cs q)
theorem KeepX.below {w w' : World} (h : Below w.heap.size w w') : KeepX w w' := fun b _ q => (h.block b (Array.getElem?_eq_some_iff.1 q).1).trans q
/-- A source in a variable. -/
def XB (w : World) (b : Nat) (lk lo lt ch : Int) (s : Sh) (m cx cy : Nat) : Prop := w.heap[b]? = some (.cells #[.int .i64 lk, .int .i64 lo, .int .i64 (m : Int), .int .i64 lt, .int .i64 s.c, .int .i64 s.h, .int .i64 s.x, .int .i64 ch, .complex .f64 (fl cx) (fl cy)] 121 (0, 0))
theorem XB.lt {w : World} {b : Nat} {lk lo lt ch : Int} {s : Sh} {m cx cy : Nat} (H : XB w b lk lo lt ch s m cx cy) : b < w.heap.size := (Array.getElem?_eq_some_iff.1 H).1
theorem XB.keep {w w' : World} {b : Nat} {lk lo lt ch : Int} {s : Sh} {m cx cy : Nat} (H : XB w b lk lo lt ch s m cx cy) (h : KeepX w w') : XB w' b lk lo lt ch s m cx cy := h b _ H
theorem XB.new (w : World) (lk lo lt ch : Int) (s : Sh) (m cx cy : Nat) : XB (w.alloc (.cells #[.int .i64 lk, .int .i64 lo, .int .i64 (m : Int), .int .i64 lt, .int .i64 s.c, .int .i64 s.h, .int .i64 s.x, .int .i64 ch, .complex .f64 (fl cx) (fl cy)] 121)) w.heap.size lk lo lt ch s m cx cy := heap_alloc_new w _
theorem XB.cells {w : World} {b : Nat} {lk lo lt ch : Int} {s : Sh} {m cx cy : Nat} (H : XB w b lk lo lt ch s m cx cy) :
    w.cell? ⟨b, 0, none⟩ = some (.int .i64 lk) ∧ w.cell? ⟨b, 1, none⟩ = some (.int .i64 lo) ∧ w.cell? ⟨b, 2, none⟩ = some (.int .i64 (m : Int)) ∧ w.cell? ⟨b, 3, none⟩ = some (.int .i64 lt) ∧ w.cell? ⟨b, 4, none⟩ = some (.int .i64 s.c) ∧ w.cell? ⟨b, 5, none⟩ = some (.int .i64 s.h) ∧ w.cell? ⟨b, 6, none⟩ = some (.int .i64 s.x) ∧ w.cell? ⟨b, 7, none⟩ = some (.int .i64 ch) ∧ w.cell? ⟨b, 8, none⟩ = some (.complex .f64 (fl cx) (fl cy)) := by
  refine ⟨?_, ?_, ?_, ?_, ?_, ?_, ?_, ?_, ?_⟩ <;> (rw [Lib.cell_of_heap H]; rfl)

theorem fl_right (a b : Nat) (ha : a < 200) (hb : b < 200) (w : World) : (binOp .add 119 (.complex .f64 (fl a) (fl b)) (.complex .f64 4607182418800017408 0)).run Try.prog w = .ok (.complex .f64 (fl (a + 1)) (fl b)) w := by
  refine run_complex_sum w .add (.inl rfl) _ _ _ _ _ _ _ _ ?_
  unfold cSumBits
  rw [fl_add ⟨a, ha⟩, fl_none ⟨b, hb⟩]; rfl
theorem fl_down (a b : Nat) (ha : a < 200) (hb : b < 200) (w : World) : (binOp .add 119 (.complex .f64 (fl a) (fl b)) (.complex .f64 0 4607182418800017408)).run Try.prog w = .ok (.complex .f64 (fl a) (fl (b + 1))) w := by
  refine run_complex_sum w .add (.inl rfl) _ _ _ _ _ _ _ _ ?_
  unfold cSumBits
  rw [fl_none ⟨a, ha⟩, fl_add ⟨b, hb⟩]; rfl
theorem fl_back (a : Nat) (ha : a < 200) (w : World) : (convert 128 3 (.float .f64 (fl a))).run Try.prog w = .ok (.int .i64 (a : Int)) w :=
  run_convert_float_int w 128 3 .f64 .i64 (fl a) a (by kernel_rfl) Try.underlying3 (fl_int ⟨a, ha⟩)

set_option maxHeartbeats 4000000 in
set_option maxRecDepth 100000 in
theorem window_any (F : Nat) (caps : Array Value) (J : List Int → World → Prop)
    (hE : ∀ args w, Sem.run Try.prog (callFunc F args) w = .ok (.enter F args) w)
    (hJ : ∀ (xs : List Int) (x : Int) (w : World), xs.length < 2000 → J xs w → Calls Try.prog F (#[.int .i64 x] ++ caps) w fun e w' => e = .returned (.tuple #[]) ∧ J (xs ++ [x]) w' ∧ KeepX w w')
    (hS : ∀ (xs : List Int) (w w' : World), J xs w → Below w.heap.size w w' → J xs w')
    (lk lo lt ch : Int) (s : Sh) (m cx cy : Nat) (c : Int) (xs : List Int) (w : World) (h0 : J xs w) (hm : m ≤ 12) (hcx : cx ≤ 150) (hcy : cy ≤ 150) (hx : xs.length ≤ 1800) :
    Calls Try.prog 78 #[.agg #[.int .i64 lk, .int .i64 lo, .int .i64 (m : Int), .int .i64 lt, .int .i64 s.c, .int .i64 s.h, .int .i64 s.x, .int .i64 ch, .complex .f64 (fl cx) (fl cy)], .int .i64 c, .func (.func F) #[] caps] w fun e w' => e = .returned (.tuple #[]) ∧ J (xs ++ winL s c cy cx m) w' ∧ KeepX w w' := by
  have HJ := Lib.hid hJ; have HS := Lib.hid hS
  have X0 := Lib.hid (XB.new w lk lo lt ch s m cx cy)
  have J0 := Lib.hid (hS xs w (w.alloc (.cells #[.int .i64 lk, .int .i64 lo, .int .i64 (m : Int), .int .i64 lt, .int .i64 s.c, .int .i64 s.h, .int .i64 s.x, .int .i64 ch, .complex .f64 (fl cx) (fl cy)] 121)) h0 ((Below.refl _ w).alloc (Nat.le_refl _) _))
  have K0 : Hid (KeepX w (w.alloc (.cells #[.int .i64 lk, .int .i64 lo, .int .i64 (m : Int), .int .i64 lt, .int .i64 s.c, .int .i64 s.h, .int .i64 s.x, .int .i64 ch, .complex .f64 (fl cx) (fl cy)] 121))) := KeepX.below ((Below.refl _ w).alloc (Nat.le_refl _) _)
  clear hJ hS h0
  go_enter Try.func78, Try.ntmps78
  go_wp2_with fail
  generalize w.alloc (.cells #[.int .i64 lk, .int .i64 lo, .int .i64 (m : Int), .int .i64 lt, .int .i64 s.c, .int .i64 s.h, .int .i64 s.x, .int .i64 ch, .complex .f64 (fl cx) (fl cy)] 121) = W at X0 J0 K0 ⊢
  go_loopg [6, 7, 13] m (fun g s6 _ s13 wx => ∃ r : Nat, r ≤ m ∧ Hid (g = m - r) ∧ s6 = .complex .f64 (fl cx) (fl (cy + r)) ∧ s13 = .int .i64 (r : Int) ∧ Hid (J (xs ++ winR s c cy cx m r) wx) ∧ Hid (KeepX W wx))
  case atStart => exact ⟨0, by omega, by show _ = _; omega, rfl, rfl, by show J _ _; simpa [winR] using J0.out, KeepX.refl _⟩
  case round =>
    obtain ⟨r, hr, HG, rfl, rfl, JR, KR⟩ := hrel
    have XR := Lib.hid (X0.out.keep KR.out)
    obtain ⟨x0, x1, x2, x3, x4, x5, x6, x7, x8⟩ := XR.out.cells
    by_cases rm : r < m
    · have ri : (r : Int) < (m : Int) := by omega
      go_wp2_with fail
      go_loopg [7, 19] m (fun g s7 s19 wx => ∃ q : Nat, q ≤ m ∧ Hid (g = m - q) ∧ s7 = .complex .f64 (fl (cx + q)) (fl (cy + r)) ∧ s19 = .int .i64 (q : Int) ∧ Hid (J ((xs ++ winR s c cy cx m r) ++ rowL s c (cy + (r : Nat)) cx q) wx) ∧ Hid (KeepX W wx))
      case atStart => exact ⟨0, by omega, by show _ = _; omega, rfl, rfl, by show J _ _; simpa [rowL] using JR.out, KR⟩
      case round =>
        obtain ⟨q, hq, HG2, rfl, rfl, JQ, KQ⟩ := hrel
        have XQ := Lib.hid (X0.out.keep KQ.out)
        clear x0 x1 x2 x3 x4 x5 x6 x7 x8
        obtain ⟨x0, x1, x2, x3, x4, x5, x6, x7, x8⟩ := XQ.out.cells
        by_cases qm : q < m
        · have qi : (q : Int) < (m : Int) := by omega
          have b1 := fl_back (cy + r) (by omega)
          have b2 := fl_back (cx + q) (by omega)
          have b3 := fl_right (cx + q) (cy + r) (by omega) (by omega)
          obtain ⟨a, ha⟩ : ∃ a : Int, ((cy + r : Nat) : Int) = a := ⟨_, rfl⟩
          obtain ⟨b, hb⟩ : ∃ b : Int, ((cx + q : Nat) : Int) = b := ⟨_, rfl⟩
          rw [ha] at b1
          rw [hb] at b2
          have HA := Lib.hid ha; have HB := Lib.hid hb
          clear ha hb
          go_wp2_with fail
          refine (at_any s.c s.h s.x c a b _).mono ?_
          rintro e w2 ⟨rfl, hb2⟩
          have J2 := Lib.hid (HS.out _ _ _ JQ.out hb2)
          have K2 := Lib.hid (KQ.out.trans (KeepX.below hb2))
          have hlen : ((xs ++ winR s c cy cx m r) ++ rowL s c (cy + (r : Nat)) cx q).length < 2000 := by
            rw [List.length_append, List.length_append, win_len, row_len]
            have : r * m ≤ 11 * 12 := Nat.mul_le_mul (by omega) hm
            omega
          have HLEN := Lib.hid hlen
          obtain ⟨z, hz⟩ : ∃ z, atI s.c s.h s.x c a b = z := ⟨_, rfl⟩
          rw [hz]
          have HZ := Lib.hid hz
          clear hb2 hlen hz
          go_wp2_with fail
          refine (HJ.out _ z _ HLEN.out J2.out).mono ?_
          rintro e w3 ⟨rfl, hj3, hk3⟩
          have J3 : Hid (J ((xs ++ winR s c cy cx m r) ++ rowL s c (cy + (r : Nat)) cx (q + 1)) w3) := by
            show J _ _
            rw [row_next, ← List.append_assoc, show ((cy : Int) + (r : Nat)) = a by rw [← HA.out]; omega, show ((cx : Int) + (q : Nat)) = b by rw [← HB.out]; omega, HZ.out, show a = ((cy : Int) + (r : Nat)) by rw [← HA.out]; omega]
            exact hj3
          have K3 := Lib.hid (K2.out.trans hk3)
          clear hj3 hk3
          go_wp2_with fail
          go_roundg (m - (q + 1))
          case measure => have := HG2.out; omega
          case rel => exact ⟨q + 1, by omega, rfl, rfl, by go_num, J3, K3⟩
        · obtain rfl : q = m := by omega
          have b4 := fl_down cx (cy + r) (by omega) (by omega)
          have hJ4 := JQ.out
          rw [List.append_assoc, ← win_next] at hJ4
          have J4 := Lib.hid hJ4
          clear hJ4
          go_wp2_with fail
          go_roundg (q - (r + 1))
          case measure => have := HG.out; omega
          case rel => exact ⟨r + 1, by omega, rfl, rfl, by go_num, J4, KQ⟩
    · obtain rfl : r = m := by omega
      go_wp2_with fail
      go_end0
      exact ⟨rfl, JR.out, K0.out.trans KR.out⟩

end Go.Proofs.Ytklgjhldebdegaa

namespace Go.Proofs.Ytklgjhldebdegaa
open Go.RowKit

set_option maxHeartbeats 1000000 in
theorem rright_any (c h x : Int) (w : World) :
    Calls Try.prog 41 #[.agg #[.int .i64 c, .int .i64 h, .int .i64 x]] w fun e w' => e = .returned (.bool (rightB c h x)) ∧ Below w.heap.size w w' := by
  by_cases p0 : c < 1
  · have H : Hid (rightB c h x = false) := rightB_no (by omega)
    go_enter Try.func41, Try.ntmps41
    go_wp2_with fail
    go_ret
    exact ⟨ret_bool H.out.symm, (Below.refl _ _).alloc (Nat.le_refl _) _⟩
  replace p0 : 1 ≤ c := by omega
  by_cases p1 : 8 < c
  · have H : Hid (rightB c h x = false) := rightB_no (by omega)
    go_enter Try.func41, Try.ntmps41
    go_wp2_with fail
    go_ret
    exact ⟨ret_bool H.out.symm, (Below.refl _ _).alloc (Nat.le_refl _) _⟩
  replace p1 : c ≤ 8 := by omega
  by_cases p2 : h < 1
  · have H : Hid (rightB c h x = false) := rightB_no (by omega)
    go_enter Try.func41, Try.ntmps41
    go_wp2_with fail
    go_ret
    exact ⟨ret_bool H.out.symm, (Below.refl _ _).alloc (Nat.le_refl _) _⟩
  replace p2 : 1 ≤ h := by omega
  by_cases p3 : 12 < h
  · have H : Hid (rightB c h x = false) := rightB_no (by omega)
    go_enter Try.func41, Try.ntmps41
    go_wp2_with fail
    go_ret
    exact ⟨ret_bool H.out.symm, (Below.refl _ _).alloc (Nat.le_refl _) _⟩
  replace p3 : h ≤ 12 := by omega
  by_cases p4 : x < 1
  · have H : Hid (rightB c h x = false) := rightB_no (by omega)
    go_enter Try.func41, Try.ntmps41
    go_wp2_with fail
    go_ret
    exact ⟨ret_bool H.out.symm, (Below.refl _ _).alloc (Nat.le_refl _) _⟩
  replace p4 : 1 ≤ x := by omega
  by_cases p5 : 12 < x
  · have H : Hid (rightB c h x = false) := rightB_no (by omega)
    go_enter Try.func41, Try.ntmps41
    go_wp2_with fail
    go_ret
    exact ⟨ret_bool H.out.symm, (Below.refl _ _).alloc (Nat.le_refl _) _⟩
  replace p5 : x ≤ 12 := by omega
  obtain ⟨b1, b2, b3, b4, b5, b6⟩ := prod_small p0 p1 p2 p3 p4 p5
  have H : Hid (rightB c h x = decide (c * h * x ≤ 128)) := by
    show _ = _
    unfold rightB
    rw [Bool.eq_iff_iff]; simp; omega
  go_enter Try.func41, Try.ntmps41
  go_wp2_with fail
  go_ret
  exact ⟨ret_bool H.out.symm, (Below.refl _ _).alloc (Nat.le_refl _) _⟩
theorem rright_yes (c h x : Int) (w : World) (r : rightB c h x = true) :
    Calls Try.prog 41 #[.agg #[.int .i64 c, .int .i64 h, .int .i64 x]] w fun e w' => e = .returned (.bool true) ∧ Below w.heap.size w w' := by
  have := rright_any c h x w
  rwa [r] at this
theorem rright_no (c h x : Int) (w : World) (r : rightB c h x = false) :
    Calls Try.prog 41 #[.agg #[.int .i64 c, .int .i64 h, .int .i64 x]] w fun e w' => e = .returned (.bool false) ∧ Below w.heap.size w w' := by
  have := rright_any c h x w
  rwa [r] at this
set_option maxHeartbeats 1000000 in
theorem rsize_any (c h x : Int) (w : World) :
    Calls Try.prog 63 #[.agg #[.int .i64 c, .int .i64 h, .int .i64 x]] w fun e w' => e = .returned (.int .i64 (sizeI c h x)) ∧ Below w.heap.size w w' := by
  cases r : rightB c h x
  · have HS := Lib.hid (sizeI_no r)
    have HR := Lib.hid r; clear r
    go_enter Try.func63, Try.ntmps63
    go_wp2_with fail
    refine (rright_no c h x _ HR.out).mono ?_
    rintro e w1 ⟨rfl, hb1⟩
    have HB1 : Hid (Below w.heap.size w w1) := chain (by repeat first | exact Below.refl _ _ | refine chain_alloc ?_ _) hb1
    clear hb1
    go_wp2_with fail
    go_ret
    exact ⟨ret_int HS.out.symm, HB1.out⟩
  · obtain ⟨a1, a2, a3, a4, a5, a6, a7⟩ := rightB_out r
    obtain ⟨b1, b2, b3, b4, b5, b6⟩ := prod_small a1 a2 a3 a4 a5 a6
    have HS := Lib.hid (sizeI_yes r)
    have HR := Lib.hid r; clear r
    go_enter Try.func63, Try.ntmps63
    go_wp2_with fail
    refine (rright_yes c h x _ HR.out).mono ?_
    rintro e w1 ⟨rfl, hb1⟩
    have HB1 : Hid (Below w.heap.size w w1) := chain (by repeat first | exact Below.refl _ _ | refine chain_alloc ?_ _) hb1
    obtain ⟨hc, hf⟩ := bcell hb1
    clear hb1
    go_wp2_with fail
    go_ret
    exact ⟨ret_int HS.out.symm, HB1.out⟩
set_option maxHeartbeats 400000 in
theorem rpool_wrong (c h x size : Int) (w : World) (r : rightB c h x = false) :
    Calls Try.prog 62 #[.agg #[.int .i64 c, .int .i64 h, .int .i64 x], .int .i64 size] w (Out 0 0 0 false w) := by
  have HR := Lib.hid r; clear r
  go_enter Try.func62, Try.ntmps62
  go_wp2_with fail
  refine (rright_no c h x _ HR.out).mono ?_
  rintro e w1 ⟨rfl, hb1⟩
  have HB1 : Hid (Below w.heap.size w w1) := chain (by repeat first | exact Below.refl _ _ | refine chain_alloc ?_ _) hb1
  obtain ⟨hc, hf⟩ := bcell hb1
  have hz : w.heap.size + 1 < w1.heap.size := by have := hb1.size; simp at this; omega
  clear hb1
  go_wp2_with fail
  exact bodyPost_ret (v := .tuple #[.agg #[.int .i64 0, .int .i64 0, .int .i64 0], .bool false]) (by simp [results, Try.results62, go_sem, hc]) rfl ⟨rfl, ((HB1.out.setCell (by simp) _).setCell (by simp) _).setCell (by simp) _⟩
set_option maxHeartbeats 400000 in
theorem rpool_low (c h x size : Int) (w : World) (r : rightB c h x = true) (s : size < 1) :
    Calls Try.prog 62 #[.agg #[.int .i64 c, .int .i64 h, .int .i64 x], .int .i64 size] w (Out 0 0 0 false w) := by
  have HR := Lib.hid r; clear r
  go_enter Try.func62, Try.ntmps62
  go_wp2_with fail
  refine (rright_yes c h x _ HR.out).mono ?_
  rintro e w1 ⟨rfl, hb1⟩
  have HB1 : Hid (Below w.heap.size w w1) := chain (by repeat first | exact Below.refl _ _ | refine chain_alloc ?_ _) hb1
  obtain ⟨hc, hf⟩ := bcell hb1
  have hz : w.heap.size + 1 < w1.heap.size := by have := hb1.size; simp at this; omega
  clear hb1
  go_wp2_with fail
  exact bodyPost_ret (v := .tuple #[.agg #[.int .i64 0, .int .i64 0, .int .i64 0], .bool false]) (by simp [results, Try.results62, go_sem, hc]) rfl ⟨rfl, ((HB1.out.setCell (by simp) _).setCell (by simp) _).setCell (by simp) _⟩
set_option maxHeartbeats 400000 in
theorem rpool_high (c h x size : Int) (w : World) (r : rightB c h x = true) (s : 1 ≤ size) (m : ¬ h % size = 0) :
    Calls Try.prog 62 #[.agg #[.int .i64 c, .int .i64 h, .int .i64 x], .int .i64 size] w (Out 0 0 0 false w) := by
  obtain ⟨a1, a2, a3, a4, a5, a6, a7⟩ := rightB_out r
  have HR := Lib.hid r; clear r
  have n : ¬ size = 0 := by omega
  have m' : (h % size != 0) = true := by simpa using m
  go_enter Try.func62, Try.ntmps62
  go_wp2_with fail
  refine (rright_yes c h x _ HR.out).mono ?_
  rintro e w1 ⟨rfl, hb1⟩
  have HB1 : Hid (Below w.heap.size w w1) := chain (by repeat first | exact Below.refl _ _ | refine chain_alloc ?_ _) hb1
  obtain ⟨hc, hf⟩ := bcell hb1
  have hz : w.heap.size + 1 < w1.heap.size := by have := hb1.size; simp at this; omega
  clear hb1
  go_wp2_with fail
  exact bodyPost_ret (v := .tuple #[.agg #[.int .i64 0, .int .i64 0, .int .i64 0], .bool false]) (by simp [results, Try.results62, go_sem, hc]) rfl ⟨rfl, ((HB1.out.setCell (by simp) _).setCell (by simp) _).setCell (by simp) _⟩
set_option maxHeartbeats 400000 in
theorem rpool_wide (c h x size : Int) (w : World) (r : rightB c h x = true) (s : 1 ≤ size) (m : h % size = 0) (k : ¬ x % size = 0) :
    Calls Try.prog 62 #[.agg #[.int .i64 c, .int .i64 h, .int .i64 x], .int .i64 size] w (Out 0 0 0 false w) := by
  obtain ⟨a1, a2, a3, a4, a5, a6, a7⟩ := rightB_out r
  have HR := Lib.hid r; clear r
  have n : ¬ size = 0 := by omega
  have k' : (x % size != 0) = true := by simpa using k
  go_enter Try.func62, Try.ntmps62
  go_wp2_with fail
  refine (rright_yes c h x _ HR.out).mono ?_
  rintro e w1 ⟨rfl, hb1⟩
  have HB1 : Hid (Below w.heap.size w w1) := chain (by repeat first | exact Below.refl _ _ | refine chain_alloc ?_ _) hb1
  obtain ⟨hc, hf⟩ := bcell hb1
  have hz : w.heap.size + 1 < w1.heap.size := by have := hb1.size; simp at this; omega
  clear hb1
  go_wp2_with fail
  exact bodyPost_ret (v := .tuple #[.agg #[.int .i64 0, .int .i64 0, .int .i64 0], .bool false]) (by simp [results, Try.results62, go_sem, hc]) rfl ⟨rfl, ((HB1.out.setCell (by simp) _).setCell (by simp) _).setCell (by simp) _⟩
set_option maxHeartbeats 400000 in
theorem rpool_good (c h x size : Int) (w : World) (r : rightB c h x = true) (s : 1 ≤ size) (m : h % size = 0) (k : x % size = 0) :
    Calls Try.prog 62 #[.agg #[.int .i64 c, .int .i64 h, .int .i64 x], .int .i64 size] w (Out c (h / size) (x / size) true w) := by
  obtain ⟨a1, a2, a3, a4, a5, a6, a7⟩ := rightB_out r
  have HR := Lib.hid r; clear r
  have n : ¬ size = 0 := by omega
  go_enter Try.func62, Try.ntmps62
  go_wp2_with fail
  refine (rright_yes c h x _ HR.out).mono ?_
  rintro e w1 ⟨rfl, hb1⟩
  have HB1 : Hid (Below w.heap.size w w1) := chain (by repeat first | exact Below.refl _ _ | refine chain_alloc ?_ _) hb1
  obtain ⟨hc, hf⟩ := bcell hb1
  have hz : w.heap.size + 1 < w1.heap.size := by have := hb1.size; simp at this; omega
  clear hb1
  have g0 : w1.cell? ⟨w.heap.size, 0, none⟩ = some (.int .i64 c) := by rw [hc _ _ (by simp <;> omega)]; go_simp
  have g1 : w1.cell? ⟨w.heap.size, 1, none⟩ = some (.int .i64 h) := by rw [hc _ _ (by simp <;> omega)]; go_simp
  have g2 : w1.cell? ⟨w.heap.size, 2, none⟩ = some (.int .i64 x) := by rw [hc _ _ (by simp <;> omega)]; go_simp
  go_wp2_with fail
  go_region
  go_wp2_with fail
  exact bodyPost_ret (v := .tuple #[.agg #[.int .i64 c, .int .i64 (h / size), .int .i64 (x / size)], .bool true]) (by simp [results, Try.results62, go_sem, hc]) rfl ⟨rfl, ((HB1.out.drew.setCell (by simp) _).setCell (by simp) _).setCell (by simp) _⟩
theorem rpool_any (c h x size : Int) (w : World) :
    Calls Try.prog 62 #[.agg #[.int .i64 c, .int .i64 h, .int .i64 x], .int .i64 size] w (Out (poolC c h x size) (poolH c h x size) (poolW c h x size) (poolB c h x size) w) := by
  cases f : poolB c h x size
  · have n := pool_none f
    rw [n.1, n.2.1, n.2.2]
    cases r : rightB c h x
    · exact rpool_wrong c h x size w r
    by_cases s : size < 1
    · exact rpool_low c h x size w r s
    by_cases m : h % size = 0
    · by_cases k : x % size = 0
      · rw [poolB_yes ⟨r, by omega, m, k⟩] at f
        cases f
      · exact rpool_wide c h x size w r (by omega) m k
    · exact rpool_high c h x size w r (by omega) m
  · obtain ⟨r, s, m, k⟩ := poolB_out f
    have i := pool_is f
    rw [i.1, i.2.1, i.2.2]
    exact rpool_good c h x size w r s m k

end Go.Proofs.Ytklgjhldebdegaa
