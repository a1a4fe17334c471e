/-
  What look answers of a network that has a form and a right picture.
-/
import Derived.Test.YtnfmpladdfgadaaLook
namespace Go.Proofs.Ytnfmpladdfgadaa
open Go.RowKit

theorem Try.info76 : (Try.prog.info? 76).map (fun i => (i.zero, i.size, i.bytes)) = some (some (.agg #[.int .i64 0, .int .i64 0, .int .i64 0, .int .i64 0, .int .i64 0, .int .i64 0, .int .i64 0, .int .i64 0, .int .i64 0, .int .i64 0, .int .i64 0]), 11, 88) := by kernel_rfl
theorem plain_add (g j : Nat) : (⟨g, 0, none⟩ : Addr).add j = ⟨g, 0 + j, none⟩ := by unfold Addr.add; split <;> simp_all
theorem KB.news {w : World} {g : Nat} {k : Kn} (H : KB w g k) : ∀ j u, (kcells k)[j]? = some u → w.cell? ((⟨g, 0, none⟩ : Addr).add j) = some u := fun j u hu => by
  rw [plain_add, Nat.zero_add, Lib.cell_of_heap H]
  simpa [kcells] using hu
theorem kcells_one (k : Kn) : ∀ u ∈ kcells k, u.oneCell' = true := fun u hu => by
  simp only [kcells, List.mem_cons, List.not_mem_nil, or_false] at hu
  rcases hu with rfl | rfl | rfl | rfl | rfl | rfl | rfl | rfl | rfl | rfl | rfl <;> rfl
theorem own_belowE {w w' : World} {B n e s : Nat} {v : Value} {xs : List Value} (h : w.ownsRow B e s v n xs) (hb : Below w.heap.size w w') : w'.ownsRow B e s v n xs := by
  refine ⟨h.1, ?_⟩
  rcases h.2 with h0 | ⟨g, cap, cur, hv, hg, hh, rest⟩
  · exact .inl h0
  · exact .inr ⟨g, cap, cur, hv, hg, (hb.block g (Array.getElem?_eq_some_iff.1 hh).1).trans hh, rest⟩
theorem own_same {w w' : World} {B n e s : Nat} {v : Value} {xs : List Value} (h : w.ownsRow B e s v n xs) (hb : ∀ g, B ≤ g → g < w.heap.size → w'.heap[g]? = w.heap[g]?) : w'.ownsRow B e s v n xs := by
  refine ⟨h.1, ?_⟩
  rcases h.2 with h0 | ⟨g, cap, cur, hv, hg, hh, rest⟩
  · exact .inl h0
  · exact .inr ⟨g, cap, cur, hv, hg, (hb g hg (Array.getElem?_eq_some_iff.1 hh).1).trans hh, rest⟩
theorem own_ne_low {w : World} {B n e s b : Nat} {v : Value} {xs : List Value} (h : w.ownsRow B e s v n xs) (hb : b < B) : some b ≠ v.ownBlock := fun he => by
  have := (h.lt b he.symm).1
  omega
theorem own_ne_high {w : World} {B n e s b : Nat} {v : Value} {xs : List Value} (h : w.ownsRow B e s v n xs) (hb : w.heap.size ≤ b) : some b ≠ v.ownBlock := fun he => by
  have := (h.lt b he.symm).2
  omega

theorem weights_at (k : Kn) (n : Int) (e : k.w = n) (w : World) (hk : KnOk k) : Calls Try.prog 61 #[.agg #[.int .i64 k.l.k, .int .i64 k.l.o, .int .i64 k.l.s, .int .i64 k.l.t, .int .i64 k.i.c, .int .i64 k.i.h, .int .i64 k.i.x, .int .i64 k.u.c, .int .i64 k.u.h, .int .i64 k.u.x, .int .i64 k.a]] w fun e w' => e = .returned (.int .i64 n) ∧ Below w.heap.size w w' := weights_is k n e w hk

/-! ### One layer more -/
theorem fit_stop {s : Sh} {ls : List Ly} {k : Nat} {l : Ly} (h : ls[k]? = some l) (ho : okS (endS s (ls.take k)) l = false) : fitL s ls = false := by
  obtain ⟨hk, e⟩ := List.getElem?_eq_some_iff.1 h
  rw [← List.take_append_drop k ls, fit_app, List.drop_eq_getElem_cons hk, e, fitL, ho, Bool.false_and, Bool.and_false]
theorem fit_next {s : Sh} {ls : List Ly} {k : Nat} {l : Ly} (h : ls[k]? = some l) (hf : fitL s (ls.take k) = true) (ho : okS (endS s (ls.take k)) l = true) : fitL s (ls.take (k + 1)) = true := by
  rw [take_get h, fit_app, hf, fitL, ho]; rfl
theorem end_next {s : Sh} {ls : List Ly} {k : Nat} {l : Ly} (h : ls[k]? = some l) : endS s (ls.take (k + 1)) = outS (endS s (ls.take k)) l := by
  rw [take_get h, end_app]; rfl
theorem w_next {s : Sh} {ls : List Ly} {k : Nat} {l : Ly} (h : ls[k]? = some l) : sumW s (ls.take (k + 1)) = sumW s (ls.take k) + wI (endS s (ls.take k)) l := by
  rw [take_get h, w_app]; simp [sumW]
theorem p_next {s : Sh} {ls : List Ly} {k : Nat} {l : Ly} (h : ls[k]? = some l) : sumP s (ls.take (k + 1)) = sumP s (ls.take k) + pI (endS s (ls.take k)) (outS (endS s (ls.take k)) l) l := by
  rw [take_get h, p_app]; simp [sumP]
theorem kn_next {s : Sh} {ls : List Ly} {k : Nat} {l : Ly} (h : ls[k]? = some l) : knL s 0 (ls.take (k + 1)) = knL s 0 (ls.take k) ++ [⟨l, endS s (ls.take k), outS (endS s (ls.take k)) l, sumW s (ls.take k)⟩] := by
  rw [take_get h, kn_app]; simp [knL]
theorem sum_bd {s : Sh} {ls : List Ly} (r : s.r = true) (hk : ls.all lyB = true) (hf : fitL s ls = true) (hl : ls.length ≤ 1000) : 0 ≤ sumW s ls ∧ sumW s ls ≤ 9216000 ∧ 0 ≤ sumP s ls ∧ sumP s ls ≤ 1327104000 := by
  have a := tot_bd (knL s 0 ls) (kn_all ls s 0 r hk hf)
  rw [tot_w, tot_p, kn_len] at a
  omega
theorem all_take {ls : List Ly} (h : ls.all lyB = true) (k : Nat) : (ls.take k).all lyB = true := by
  rw [List.all_eq_true] at h ⊢
  exact fun x hx => h x (List.mem_of_mem_take hx)

/-- How things stand when some layers have been looked at. -/
def LookAt (w : World) (bi : Nat) (s : Sh) (xs : List Ly) (wr : World) : Prop :=
  SB wr bi (endS s xs) ∧ (∃ v, CB wr (w.heap.size + 1) 72 v ∧ wr.ownsRow (bi + 1) 76 11 v xs.length ((knL s 0 xs).flatMap kcells)) ∧ CB wr (w.heap.size + 1 + 1) 30 (.int .i64 0) ∧ Below w.heap.size w wr

set_option maxHeartbeats 8000000 in
set_option maxRecDepth 100000 in
theorem look_rest (c h x : Int) (A : Option Addr) (cA n : Nat) (ls : List Ly) (w : World) (hx : Rl w A ls) (ln : n = ls.length) (hn : n ≤ 1000) (hf : formB ⟨c, h, x, ls⟩ = true) (hr : rightB c h x = true) :
    Calls Try.prog 54 #[.agg #[.int .i64 c, .int .i64 h, .int .i64 x, .slice A n cA]] w (LookTo ⟨c, h, x, ls⟩ w) := by
  have hmf : ∀ (fn : Fn) (first cap : Array Value) (w : World), (Instr.makeFunc fn first cap).run Try.prog w = .ok (.func fn first cap) w := fun _ _ _ _ => rfl
  obtain ⟨i0, hi, hz0, hz1, hz2⟩ := info_parts Try.info76
  have HX := Lib.hid hx; have LX := Lib.hid ln; have HF := Lib.hid hf; have HR := Lib.hid hr
  clear hx ln hf hr
  go_enter_defers Try.func54, Try.ntmps54
  go_wp2_with fail
  refine (form_any c h x A cA n ls _ (HX.out.below (below_three w _ _ _)) LX.out hn).mono ?_
  rintro e w1 ⟨rfl, hb⟩
  rw [HF.out]
  obtain ⟨k1, k2⟩ := cb_three w (.cells #[.int .i64 c, .int .i64 h, .int .i64 x, .slice A n cA] 26) (.slice none 0 0) (.int .i64 0)
  have K1 := Lib.hid (k1.below hb); have K2 := Lib.hid (k2.below hb)
  have HB := Lib.hid (chain (below_three w _ _ _) hb)
  have hN := (((NB.new w c h x (.slice A n cA)).alloc (.cells #[.slice none 0 0] 72)).alloc (.cells #[.int .i64 0] 30)).below hb
  have HN := Lib.hid hN
  obtain ⟨n0, n1, n2, n3⟩ := hN.cells
  clear hb k1 k2 hN
  go_wp2_with fail
  refine (must_yes 12 _).mono ?_
  rintro e w' ⟨rfl, rfl⟩
  go_wp2_with fail
  refine (right_any c h x _).mono ?_
  rintro e w2 ⟨rfl, hb⟩
  rw [HR.out]
  have J1 := Lib.hid (K1.out.below hb); have J2 := Lib.hid (K2.out.below hb)
  have HC := Lib.hid (chain HB.out hb)
  have hN2 := HN.out.below hb
  clear n0 n1 n2 n3
  obtain ⟨n0, n1, n2, n3⟩ := hN2.cells
  have lw2 := hN2.lt
  clear hb K1 K2 HB HN hN2
  go_wp2_with fail
  refine (must_yes 1 _).mono ?_
  rintro e w' ⟨rfl, rfl⟩
  go_wp2_with fail
  have L2 := J2.out.lt
  obtain ⟨bi, hbi⟩ : ∃ bi, bi = w2.heap.size := ⟨_, rfl⟩
  rw [← hbi]
  obtain ⟨s, HS⟩ : ∃ s : Sh, Hid (s = ⟨c, h, x⟩) := ⟨_, rfl⟩
  have AT0 : Hid (LookAt w bi s [] (w2.alloc (.cells #[.int .i64 c, .int .i64 h, .int .i64 x] 23))) := by
    rw [HS.out, hbi]
    refine ⟨SB.new w2 ⟨c, h, x⟩, ⟨.slice none 0 0, (Lib.alloc_old _ _ _ J1.out.lt).trans J1.out, ⟨rfl, .inl ⟨rfl, rfl⟩⟩⟩, (Lib.alloc_old _ _ _ J2.out.lt).trans J2.out, HC.out.alloc HC.out.size _⟩
  have hbi2 : w.heap.size + 1 + 1 < bi := by rw [hbi]; exact L2
  clear J1 J2 HC n0 n1 n2 n3 L2 hbi lw2
  have HA : Hid (ls.all lyB = true) := (form_parts HF.out).2.2
  have HSR : Hid (s.r = true) := by rw [HS.out]; exact HR.out
  generalize w2.alloc (.cells #[.int .i64 c, .int .i64 h, .int .i64 x] 23) = wX at AT0 ⊢
  go_loopw [5, 24] (fun a i wr => ∃ k : Nat, k ≤ n ∧ a = .int .i64 (sumW s (ls.take k)) ∧ i = .int .i64 k ∧ Hid (fitL s (ls.take k) = true) ∧ Hid (LookAt w bi s (ls.take k) wr)) (fun _ i _ => n - (intOf i).toNat)
  case atStart => exact ⟨0, Nat.zero_le _, rfl, rfl, rfl, AT0⟩
  case round =>
    obtain ⟨k, hk, rfl, rfl, FT, AT⟩ := hrel
    by_cases hlt : k < n
    · have hkl : k < ls.length := by rw [← LX.out]; exact hlt
      obtain ⟨b1, o1, rfl, l1, q⟩ := HX.out (by omega)
      obtain ⟨hS, ⟨v, hV, hO⟩, hW, hB⟩ := id AT.out
      obtain ⟨l, hle⟩ : ∃ l, l = ls.getD k Ly.z := ⟨_, rfl⟩
      have hq := (q k hkl).below hB l1
      rw [← hle] at hq
      have HL : Hid (ls[k]? = some l) := by show _ = _; rw [hle]; exact get_ly hkl
      have hly : lyB l = true := List.all_eq_true.1 HA.out l (List.mem_of_getElem? HL.out)
      have HLY := Lib.hid hly
      obtain ⟨p0, p1, p2, p3⟩ := hq
      have bd := sum_bd HSR.out (all_take HA.out k) FT.out (by rw [List.length_take]; omega)
      obtain ⟨S, hSe⟩ : ∃ S, S = endS s (ls.take k) := ⟨_, rfl⟩
      obtain ⟨a, hae⟩ : ∃ a, a = sumW s (ls.take k) := ⟨_, rfl⟩
      rw [← hSe] at hS
      rw [← hae] at bd
      rw [← hae]
      obtain ⟨bd1, bd2, _, _⟩ := bd
      have HSE := Lib.hid hSe; have HAE := Lib.hid hae
      obtain ⟨s0, s1, s2⟩ := hS.cells
      have cv := hV.cell
      have lS := hS.lt
      have h3a : w.heap.size + 1 < wr.heap.size := hV.lt
      have h3b : w.heap.size + 1 + 1 < wr.heap.size := hW.lt
      have HSB := Lib.hid hS; have HV := Lib.hid hV; have HO := Lib.hid hO; have HW := Lib.hid hW; have HB := Lib.hid hB
      clear q hle hSe hae hS hV hO hW hB hly AT
      go_wp2_with fail
      cases ho : okS S l
      · have HOK := Lib.hid ho
        clear ho
        refine (place_no l S a _ HLY.out HOK.out).mono ?_
        rintro e w3 ⟨rfl, hb⟩
        have B0 : Below wr.heap.size wr w3 := ((Below.refl wr.heap.size wr).alloc (Nat.le_refl _) _).trans (hb.mono (by simp))
        have V3 := Lib.hid (HV.out.below B0); have W3 := Lib.hid (HW.out.below B0)
        have B3 := Lib.hid (chain HB.out B0)
        clear hb B0
        unfold shapeWrong
        go_wp2_with fail
        exact leave_wrong 21 rfl rfl V3.out W3.out (by omega) (look_bad (err_shape HF.out HR.out (by
          have := fit_stop HL.out (s := s) (by rw [← HSE.out]; exact HOK.out)
          rw [HS.out] at this; exact this)) (by decide) (below_wrong B3.out (by omega) (by omega) _ _))
      · have HOK := Lib.hid ho
        clear ho
        refine (place_yes l S a _ HLY.out HOK.out).mono ?_
        rintro e w3 ⟨rfl, hb⟩
        obtain ⟨K, hK⟩ : ∃ K : Kn, K = ⟨l, S, outS S l, a⟩ := ⟨_, rfl⟩
        rw [← hK]
        unfold kv
        have B0 : Below wr.heap.size wr w3 := ((Below.refl wr.heap.size wr).alloc (Nat.le_refl _) _).trans (hb.mono (by simp))
        have z0 : wr.heap.size < w3.heap.size := by have := hb.size; simp at this; omega
        have hS3 := HSB.out.below B0
        have S3 := Lib.hid hS3
        have hV3 := HV.out.below B0
        have V3 := Lib.hid hV3; have W3 := Lib.hid (HW.out.below B0)
        have O3 := Lib.hid (own_belowE HO.out B0)
        have NH := Lib.hid (own_ne_high HO.out (b := w3.heap.size) (by omega))
        have B3 := Lib.hid (chain HB.out B0)
        have KOK : Hid (KnOk K) := by rw [hK]; exact kn_ok a (by rw [HSE.out]; exact end_right _ _ HSR.out (all_take HA.out k) FT.out) HLY.out HOK.out
        have KN : Hid (K = ⟨l, S, outS S l, a⟩) := hK
        have cv3 := hV3.cell
        have fv3 := hV3.frozen
        have lV3 := hV3.lt
        have lS3 := hS3.lt
        have lz : (ls.take k).length = k := by rw [List.length_take]; omega
        clear hb B0 hK hS3 hV3 HSB HV HW HO HB p0 p1 p2 p3 s0 s1 s2 cv
        go_wp2_with (at_builtin; refine wpList_append_own _ rfl _ _ 72 rfl (bi + 1) 76 i0 (.agg #[.int .i64 0, .int .i64 0, .int .i64 0, .int .i64 0, .int .i64 0, .int .i64 0, .int .i64 0, .int .i64 0, .int .i64 0, .int .i64 0, .int .i64 0]) 11 88 Try.underlying72 hi hz0 hz1 hz2 rfl (by decide) v k _ rfl (by have := (O3.out.alloc (.cells #[.int .i64 K.l.k, .int .i64 K.l.o, .int .i64 K.l.s, .int .i64 K.l.t, .int .i64 K.i.c, .int .i64 K.i.h, .int .i64 K.i.x, .int .i64 K.u.c, .int .i64 K.u.h, .int .i64 K.u.x, .int .i64 K.a] 76)).alloc (.cells #[.int .i64 K.l.k, .int .i64 K.l.o, .int .i64 K.l.s, .int .i64 K.l.t, .int .i64 K.i.c, .int .i64 K.i.h, .int .i64 K.i.x, .int .i64 K.u.c, .int .i64 K.u.h, .int .i64 K.u.x, .int .i64 K.a] 76); rwa [lz] at this) ⟨w3.heap.size + 1, 0, none⟩ 1 1 (kcells K) rfl rfl ?c1 (kcells_one K) ?c3 ?c4 ?c5 ?_)
        case c1 =>
          have := (KB.new (w3.alloc (.cells #[.int .i64 K.l.k, .int .i64 K.l.o, .int .i64 K.l.s, .int .i64 K.l.t, .int .i64 K.i.c, .int .i64 K.i.h, .int .i64 K.i.x, .int .i64 K.u.c, .int .i64 K.u.h, .int .i64 K.u.x, .int .i64 K.a] 76)) K).news
          rwa [show (w3.alloc _).heap.size = w3.heap.size + 1 by simp] at this
        case c3 => unfold maxLen; omega
        case c4 => omega
        case c5 => simp; omega
        intro v' w4 hown2 hgrow _
        have O4 : Hid (w4.ownsRow (bi + 1) 76 11 v' (k + 1) ((knL s 0 (ls.take (k + 1))).flatMap kcells)) := by
          show w4.ownsRow _ _ _ _ _ _
          rw [kn_next HL.out, ← HSE.out, ← HAE.out, ← KN.out, List.flatMap_append]
          simpa using hown2
        obtain ⟨A', c', hv', hd1, hd2⟩ := own_rg kcells_len (by decide) O4.out
        clear hd1 hd2 lz
        subst hv'
        have hS4 : SB w4 bi S := (hgrow.block bi (by simp; omega) (own_ne_low O3.out (by omega))).trans ((Lib.alloc_old _ _ _ (by simp; omega)).trans ((Lib.alloc_old _ _ _ (by omega)).trans S3.out))
        have hV4 : CB w4 (w.heap.size + 1) 72 v := (hgrow.block _ (by simp; omega) (own_ne_low O3.out (by omega))).trans ((Lib.alloc_old _ _ _ (by simp; omega)).trans ((Lib.alloc_old _ _ _ (by omega)).trans V3.out))
        have hW4 : CB w4 (w.heap.size + 1 + 1) 30 (.int .i64 0) := (hgrow.block _ (by simp; omega) (own_ne_low O3.out (by omega))).trans ((Lib.alloc_old _ _ _ (by simp; omega)).trans ((Lib.alloc_old _ _ _ (by omega)).trans W3.out))
        have hK4 : KB w4 w3.heap.size K := (hgrow.block _ (by simp; omega) NH.out).trans ((KB.new w3 K).alloc _)
        have hB4 : Below w.heap.size w w4 := ((B3.out.alloc B3.out.size _).alloc (by simp; have := B3.out.size; omega) _).grown hgrow (by simp; have := B3.out.size; omega) (fun q hqq => by have := (O3.out.lt _ hqq).1; omega)
        have S4 := Lib.hid hS4; have V4 := Lib.hid hV4; have W4 := Lib.hid hW4; have K4 := Lib.hid hK4; have B4 := Lib.hid hB4
        have cv4 := hV4.cell
        have fv4 := hV4.frozen
        clear hown2 hgrow hS4 hV4 hW4 hK4 hB4 cv3 fv3 S3 V3 W3 O3 B3
        go_wp2_with fail
        have S5 : Hid (SB (w4.setCell ⟨w.heap.size + 1, 0, none⟩ (Value.slice A' (k + 1) c')) bi S) := (Below.heap_setCell _ _ _ _ (by show bi ≠ w.heap.size + 1; omega)).trans S4.out
        have V5 := Lib.hid (V4.out.set (.slice A' (k + 1) c'))
        have W5 := Lib.hid (W4.out.other ⟨w.heap.size + 1, 0, none⟩ (.slice A' (k + 1) c') (by show w.heap.size + 1 + 1 ≠ w.heap.size + 1; omega))
        have K5 : Hid (KB (w4.setCell ⟨w.heap.size + 1, 0, none⟩ (Value.slice A' (k + 1) c')) w3.heap.size K) := (Below.heap_setCell _ _ _ _ (by show w3.heap.size ≠ w.heap.size + 1; omega)).trans K4.out
        have B5 := Lib.hid (B4.out.setCell (p := ⟨w.heap.size + 1, 0, none⟩) (by show w.heap.size ≤ w.heap.size + 1; omega) (.slice A' (k + 1) c'))
        have O5 := Lib.hid (own_same (w' := w4.setCell ⟨w.heap.size + 1, 0, none⟩ (Value.slice A' (k + 1) c')) O4.out fun g h1 h2 => Below.heap_setCell _ _ _ _ (by show g ≠ w.heap.size + 1; omega))
        clear S4 V4 W4 K4 B4 O4 cv4 fv4
        generalize w4.setCell ⟨w.heap.size + 1, 0, none⟩ (Value.slice A' (k + 1) c') = w5 at S5 V5 W5 K5 B5 O5 ⊢
        obtain ⟨kb, hkb⟩ : ∃ kb, kb = w3.heap.size := ⟨_, rfl⟩
        rw [← hkb] at K5 ⊢
        have ne1 : ¬ kb = bi := by omega
        have ne2 : ¬ bi = kb := by omega
        clear hkb z0 lV3 lS3 NH
        obtain ⟨y0, y1, y2, y3, y4, y5, y6, y7, y8, y9, y10⟩ := K5.out.cells
        have lk := K5.out.lt
        obtain ⟨e, he⟩ : ∃ e, e = K.w := ⟨_, rfl⟩
        have bw := KOK.out.w
        rw [← he] at bw
        obtain ⟨bw1, bw2⟩ := bw
        have HE := Lib.hid he
        clear he
        have V : Hid (IntKind.i64.wrap (a + e) = a + e) := IntWalk.i64_in _ (by omega)
        have HC0 : Hid (Below w5.heap.size w5 w5.drew) := below_drew w5
        have tok1 : True := trivial
        go_region_held3 (fun w' => w'.cell? ⟨kb, 0, none⟩ = some (.int .i64 K.l.k) ∧ w'.cell? ⟨kb, 1, none⟩ = some (.int .i64 K.l.o) ∧ w'.cell? ⟨kb, 2, none⟩ = some (.int .i64 K.l.s) ∧ w'.cell? ⟨kb, 3, none⟩ = some (.int .i64 K.l.t) ∧ w'.cell? ⟨kb, 4, none⟩ = some (.int .i64 K.i.c) ∧ w'.cell? ⟨kb, 5, none⟩ = some (.int .i64 K.i.h) ∧ w'.cell? ⟨kb, 6, none⟩ = some (.int .i64 K.i.x) ∧ w'.cell? ⟨kb, 7, none⟩ = some (.int .i64 K.u.c) ∧ w'.cell? ⟨kb, 8, none⟩ = some (.int .i64 K.u.h) ∧ w'.cell? ⟨kb, 9, none⟩ = some (.int .i64 K.u.x) ∧ w'.cell? ⟨kb, 10, none⟩ = some (.int .i64 K.a))
          (first | exact ⟨q0, q1, q2, q3, q4, q5, q6, q7, q8, q9, q10⟩ | go_keep)
          (first
            | ((have _t := tok1; clear tok1; go_at_call 61; (with_reducible refine (weights_at K e HE.out.symm _ KOK.out).mono ?_); rintro e1 w6 ⟨rfl, hb6⟩
                have HC1 := Lib.hid (HC0.out.trans (hb6.mono HC0.out.size))
                have K6 := Lib.hid (K5.out.below HC1.out)
                obtain ⟨q0, q1, q2, q3, q4, q5, q6, q7, q8, q9, q10⟩ := K6.out.cells
                have S6 := Lib.hid (S5.out.below HC1.out)
                obtain ⟨m0, m1, m2⟩ := S6.out.cells
                have f0 := S6.out.frozen 0
                have f1 := S6.out.frozen 1
                have f2 := S6.out.frozen 2
                clear hb6))
            | fail)
        have HW1 : Hid (sumW s (ls.take (k + 1)) = a + e) := by
          show _ = _
          rw [w_next HL.out, ← HSE.out, ← HAE.out, HE.out, KN.out]; rfl
        have HF1 := Lib.hid (fit_next (s := s) HL.out FT.out (by rw [← HSE.out]; exact HOK.out))
        have hB6 := chain B5.out HC1.out
        have AT1 : Hid (LookAt w bi s (ls.take (k + 1)) (((w6.setCell ⟨bi, 0, none⟩ (.int .i64 K.u.c)).setCell ⟨bi, 1, none⟩ (.int .i64 K.u.h)).setCell ⟨bi, 2, none⟩ (.int .i64 K.u.x))) := by
          refine ⟨?_, ⟨.slice A' (k + 1) c', ?_, ?_⟩, ?_, below_set3 hB6 (by omega) _ _ _⟩
          · rw [end_next HL.out, ← HSE.out]
            have := S6.out.set3 K.u.c K.u.h K.u.x
            rw [KN.out] at this ⊢
            exact this
          · exact (heap_set3 w6 _ bi (by omega) _ _ _).trans (V5.out.below HC1.out)
          · rw [List.length_take, show min (k + 1) ls.length = k + 1 by omega]
            exact own_same (own_belowE O5.out HC1.out) fun g h1 h2 => heap_set3 w6 g bi (by omega) _ _ _
          · exact (heap_set3 w6 _ bi (by omega) _ _ _).trans (W5.out.below HC1.out)
        clear hB6 S5 V5 W5 K5 B5 O5 HC0 HC1 K6 S6 q0 q1 q2 q3 q4 q5 q6 q7 q8 q9 q10 m0 m1 m2 f0 f1 f2 y0 y1 y2 y3 y4 y5 y6 y7 y8 y9 y10
        rw [V.out]
        go_wp2_with fail
        go_roundw
        case rel => exact ⟨k + 1, by omega, by rw [HW1.out], by go_num, HF1, AT1⟩
        case measure => simp [intOf]; omega
    · obtain rfl : k = n := by omega
      have et : ls.take k = ls := by rw [LX.out, List.take_length]
      have FT2 := FT.out
      have AT2 := AT.out
      rw [et] at FT2 AT2
      obtain ⟨hS, ⟨v, hV, hO⟩, hW, hB⟩ := AT2
      obtain ⟨A2, c2, hv, hd1, hd2⟩ := own_rg kcells_len (by decide) hO
      rw [show ls.length = k from LX.out.symm] at hv
      subst hv
      have RK := Lib.hid hd2; have HOO := Lib.hid hO; have HV := Lib.hid hV; have HW := Lib.hid hW; have HB := Lib.hid hB; have FTT := Lib.hid FT2
      have cv := hV.cell
      have h3a : w.heap.size + 1 < wr.heap.size := hV.lt
      have h3b : w.heap.size + 1 + 1 < wr.heap.size := hW.lt
      rw [et]
      clear hS hV hO hW hB hd1 hd2 FT FT2 AT AT0 et
      go_wp2_with fail
      refine (total_any (knL s 0 ls) A2 c2 k wr RK.out (by rw [kn_len]; exact LX.out) (by omega) (kn_all _ _ _ HSR.out HA.out FTT.out)).mono ?_
      rintro e w3 ⟨rfl, hb⟩
      rw [tot_w, tot_p]
      obtain ⟨X, hX⟩ : ∃ X, X = sumW s ls := ⟨_, rfl⟩
      obtain ⟨Y, hY⟩ : ∃ Y, Y = sumP s ls := ⟨_, rfl⟩
      rw [← hX, ← hY]
      have HXE := Lib.hid hX; have HYE := Lib.hid hY
      have hV3 := HV.out.below hb
      have hW3 := HW.out.below hb
      have V3 := Lib.hid hV3; have W3 := Lib.hid hW3
      have O3 := Lib.hid (own_belowE HOO.out hb)
      have B3 := Lib.hid (chain HB.out hb)
      have c1 := hV3.cell
      have f1 := hV3.frozen
      have d1 := hW3.cell
      have g1 := hW3.frozen
      have HFT : Hid (fitL (⟨c, h, x, ls⟩ : Nt).s (⟨c, h, x, ls⟩ : Nt).ls = true) := by have := FTT.out; rw [HS.out] at this; exact this
      have HXN : Hid (X = sumW (⟨c, h, x, ls⟩ : Nt).s (⟨c, h, x, ls⟩ : Nt).ls) := by rw [hX, HS.out]; exact rfl
      have HYN : Hid (Y = sumP (⟨c, h, x, ls⟩ : Nt).s (⟨c, h, x, ls⟩ : Nt).ls) := by rw [hY, HS.out]; exact rfl
      clear hb hX hY hV3 hW3 HV HW HB RK cv
      by_cases hX5 : X ≤ 512
      · have e1 : decide (X ≤ 512) = true := by simpa using hX5
        by_cases hY5 : Y ≤ 512
        · have e2 : decide (Y ≤ 512) = true := by simpa using hY5
          have HE0 := Lib.hid (err_ok (N := ⟨c, h, x, ls⟩) HF.out HR.out HFT.out ⟨by rw [← HXN.out]; exact hX5, by rw [← HYN.out]; exact hY5⟩)
          go_wp2_with fail
          refine (must_yes 5 _).mono ?_
          rintro e w' ⟨rfl, rfl⟩
          go_wp2_with fail
          refine leave_fine (b1 := w.heap.size + 1) (b2 := w.heap.size + 1 + 1) (v0 := .slice A2 k c2) (v1 := .int .i64 0) rfl rfl ((V3.out.set _).other ⟨w.heap.size + 1 + 1, 0, none⟩ _ (by show w.heap.size + 1 ≠ w.heap.size + 1 + 1; omega)) ((W3.out.other ⟨w.heap.size + 1, 0, none⟩ _ (by show w.heap.size + 1 + 1 ≠ w.heap.size + 1; omega)).set _) ?_
          have hkn : knN ⟨c, h, x, ls⟩ = knL s 0 ls := by rw [kn_ok0 HE0.out, HS.out]; rfl
          refine ⟨A2, c2, k, by rw [HE0.out], by rw [hkn, kn_len]; exact LX.out, ?_, ?_⟩
          · rw [hkn]
            have hO4 := own_same (w' := (w3.setCell ⟨w.heap.size + 1, 0, none⟩ (.slice A2 k c2)).setCell ⟨w.heap.size + 1 + 1, 0, none⟩ (.int .i64 0)) O3.out fun g h1 h2 => by
              rw [Below.heap_setCell _ _ _ _ (by show g ≠ w.heap.size + 1 + 1; omega), Below.heap_setCell _ _ _ _ (by show g ≠ w.heap.size + 1; omega)]
            obtain ⟨A3, c3, hv3, _, hR3⟩ := own_rg kcells_len (by decide) hO4
            injection hv3 with z1 z2 z3
            subst z1
            exact hR3
          · exact (B3.out.setCell (p := ⟨w.heap.size + 1, 0, none⟩) (by show w.heap.size ≤ w.heap.size + 1; omega) _).setCell (p := ⟨w.heap.size + 1 + 1, 0, none⟩) (by show w.heap.size ≤ w.heap.size + 1 + 1; omega) _
        · have e2 : decide (Y ≤ 512) = false := by simpa using hY5
          have HE5 := Lib.hid (err_full (N := ⟨c, h, x, ls⟩) HF.out HR.out HFT.out (by rw [← HXN.out, ← HYN.out]; omega))
          go_wp2_with fail
          refine (must_no 5 _).mono ?_
          rintro e w' ⟨rfl, rfl⟩
          go_wp2_with fail
          exact leave_wrong 5 rfl rfl V3.out W3.out (by omega) (look_bad HE5.out (by decide) (below_wrong B3.out (by omega) (by omega) _ _))
      · have e1 : decide (X ≤ 512) = false := by simpa using hX5
        have HE5 := Lib.hid (err_full (N := ⟨c, h, x, ls⟩) HF.out HR.out HFT.out (by rw [← HXN.out]; omega))
        go_wp2_with fail
        refine (must_no 5 _).mono ?_
        rintro e w' ⟨rfl, rfl⟩
        go_wp2_with fail
        exact leave_wrong 5 rfl rfl V3.out W3.out (by omega) (look_bad HE5.out (by decide) (below_wrong B3.out (by omega) (by omega) _ _))

end Go.Proofs.Ytnfmpladdfgadaa
