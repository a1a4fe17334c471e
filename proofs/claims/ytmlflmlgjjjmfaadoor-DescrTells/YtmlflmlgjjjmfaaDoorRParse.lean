/-
  What the document's own Parse answers of a text: the same as package descr.
-/
import Derived.Test.YtmlflmlgjjjmfaaDoorROne
namespace Go.Proofs.YtmlflmlgjjjmfaaDoor
open Go.RowKit

theorem lines_front (s : List UInt8) : ∃ r, linesB s = (cutF 10 s).1 ++ r := by
  unfold linesB
  split
  · exact ⟨[[]], rfl⟩
  · exact ⟨[], (List.append_nil _).symm⟩
theorem lines_get {s : List UInt8} {k : Nat} (h : k < (cutF 10 s).1.length) : (linesB s)[k]? = some ((cutF 10 s).1.getD k []) := by
  obtain ⟨r, hr⟩ := lines_front s
  rw [hr, List.getElem?_append_left h, get_some h]
theorem lines_full (s : List UInt8) (h : (cutF 10 s).2 ≠ []) : (linesB s)[(cutF 10 s).1.length]? = some [] := by
  unfold linesB
  rw [if_pos (.inr h), List.getElem?_append_right (Nat.le_refl _)]; simp
theorem lines_zero (s : List UInt8) (h : (cutF 10 s).1.length = 0) (h2 : (cutF 10 s).2 = []) : (linesB s)[(cutF 10 s).1.length]? = some [] := by
  have hs : s = [] := by
    have := lay_cut 10 s
    rw [h2, List.eq_nil_of_length_eq_zero h] at this
    exact this.symm
  subst hs; rfl
theorem lines_exact (s : List UInt8) (h : (cutF 10 s).1.length ≠ 0) (h2 : (cutF 10 s).2 = []) : linesB s = (cutF 10 s).1 := by
  unfold linesB
  rw [if_neg]
  rintro (hc | hc)
  · subst hc; exact h rfl
  · exact hc h2

/-- What is known behind k lines. -/
def RJ (s : ByteArray) (b k : Nat) (w1 wr : World) : Prop :=
  Below b w1 wr ∧ okAll ((linesB (bl s)).take k) 0 = true ∧ NetAt wr b (b + 1) (takesL ((linesB (bl s)).take k) 0 Nt.zero)
theorem RJ.next {s : ByteArray} {b k : Nat} {w1 wr : World} {x : List UInt8} (hall : okAll ((linesB (bl s)).take k) 0 = true) (hx : (linesB (bl s))[k]? = some x) (ho : okAt k x = true) (hb : Below b w1 wr)
    (hN : NetAt wr b (b + 1) (takeL (takesL ((linesB (bl s)).take k) 0 Nt.zero) k x)) : RJ s b (k + 1) w1 wr := by
  have hkl : k < (linesB (bl s)).length := (List.getElem?_eq_some_iff.1 hx).1
  have hlen : ((linesB (bl s)).take k).length = k := by rw [List.length_take]; omega
  refine ⟨hb, ?_, ?_⟩
  · rw [take_get hx, okAll_append, hall, hlen]; simp [okAll, ho]
  · rw [take_get hx, takes_snoc, hlen, Nat.zero_add]; exact hN
theorem okIn_of {l : List UInt8} {b : Bool} (hb : b = (okW l && (tlW l).all getB)) : okAt 0 l = (b && ((hdW l == inW) && ((tlW l).length == 3))) := by
  unfold okAt okIn
  rw [if_pos rfl, hb]
  cases okW l <;> cases (hdW l == inW) <;> cases ((tlW l).length == 3) <;> simp

set_option maxHeartbeats 8000000 in
set_option maxRecDepth 100000 in
theorem rparse_any (s : ByteArray) (w : World) (hs : s.size ≤ 100000) : Calls Tryd.prog 12 #[.string s] w (ParseTo (parseL (bl s)) w) := by
  obtain ⟨i0, hi0, hz0, hz1, hz2⟩ := info_parts Tryd.info42
  go_enter Tryd.func12, Tryd.ntmps12
  go_wp2_with fail
  refine (rlines_any s _ (by omega)).mono ?_
  rintro e w1 ⟨A, cp, n, rfl, hn, hR, hb, hcap⟩
  have HB0 := Lib.hid (((Below.refl w.heap.size w).alloc (Nat.le_refl _) (.cells #[.int .i64 0, .int .i64 0, .int .i64 0, .slice none 0 0] 26)).trans (hb.mono (by simp)))
  have HNR := Lib.hid ((NB.new w 0 0 0 (.slice none 0 0)).below hb)
  have hs1 : w.heap.size < w1.heap.size := by have := hb.size; simp at this; omega
  have HN := Lib.hid hn; have HR := Lib.hid hR
  have hnb : n ≤ 100000 := by
    have h1 := cut_count 10 (bl s)
    have h2 := List.count_le_length (a := (10 : UInt8)) (l := bl s)
    rw [← size_bl] at h2
    omega
  obtain ⟨t, ht⟩ : ∃ t, t = ba (cutF 10 (bl s)).2 := ⟨_, rfl⟩
  rw [← ht]
  have HT : Hid (bl t = (cutF 10 (bl s)).2) := by show _ = _; rw [ht, bl_ba]
  clear hb hn hR ht
  go_wp2_with fail
  go_loopw [8] (fun i wr => ∃ k : Nat, k ≤ n ∧ k ≤ 9 ∧ i = .int .i64 k ∧ Hid (RJ s w1.heap.size k w1 wr)) (fun i _ => n - (intOf i).toNat)
  case atStart =>
    refine ⟨0, Nat.zero_le _, Nat.zero_le _, rfl, (Below.refl _ w1).alloc (Nat.le_refl _) _, rfl, .slice none 0 0, ?_, World.ownsRow_nil _ _ _ _⟩
    exact NB.new w1 0 0 0 (.slice none 0 0)
  case round =>
    obtain ⟨k, hk, hk9, rfl, HJ⟩ := hrel
    obtain ⟨hb, hall, hNet⟩ := HJ.out
    obtain ⟨v, hNB, hOw⟩ := hNet
    have hNR : NB wr w.heap.size 0 0 0 (.slice none 0 0) := (hb.block w.heap.size hs1).trans HNR.out
    obtain ⟨r0, r1, r2, r3⟩ := hNR.cells
    obtain ⟨f0, f1, f2, f3⟩ := hNR.frozen
    obtain ⟨n0, n1, n2, n3⟩ := hNB.cells
    obtain ⟨m0, m1, m2, m3⟩ := hNB.frozen
    have hbl := hNB.lt
    have HBr := Lib.hid (HB0.out.trans (hb.mono (by omega)))
    have hsr := HBr.out.size
    have hbn : ¬ w.heap.size = w1.heap.size := by omega
    have hbn2 : ¬ w1.heap.size = w.heap.size := by omega
    have htn := takes_len ((linesB (bl s)).take k) 0 Nt.zero
    have htk : ((linesB (bl s)).take k).length ≤ k := List.length_take_le _ _
    have hz9 : Nt.zero.ls.length = 0 := rfl
    obtain ⟨nt, hnt⟩ : ∃ nt, nt = takesL ((linesB (bl s)).take k) 0 Nt.zero := ⟨_, rfl⟩
    rw [← hnt] at htn n0 n1 n2 hNB hOw
    obtain ⟨nl, hnl⟩ : ∃ nl, nl = nt.ls.length := ⟨_, rfl⟩
    have hnl9 : nl ≤ 9 := by omega
    have HNL := Lib.hid hnl
    have HNT := Lib.hid hnt; have HBw := Lib.hid hb; have HA := Lib.hid hall; have HNB := Lib.hid hNB; have HOw := Lib.hid hOw
    clear htn htk hz9 hnt hnl hb hall hNB hOw hNR HJ
    by_cases hlt : k < n
    · have hkl : k < (cutF 10 (bl s)).1.length := by rw [← HN.out]; exact hlt
      obtain ⟨x, hxe⟩ : ∃ x, x = (cutF 10 (bl s)).1.getD k [] := ⟨_, rfl⟩
      have HX : Hid ((linesB (bl s))[k]? = some x) := by show _ = _; rw [hxe]; exact lines_get hkl
      by_cases h9 : k = 9
      · subst h9
        have HP := Lib.hid (parse_over HA.out HX.out)
        clear hxe
        go_wp2_with fail
        exact bodyPost_ret (v := .tuple #[.agg #[.int .i64 0, .int .i64 0, .int .i64 0, .slice none 0 0], .int .i64 10, .int .i64 5]) (by simp [results, Tryd.results12, go_sem, r0, r1, r2, r3]) rfl ⟨none, 0, 0, by rw [HP.out]; rfl, by rw [HP.out]; rfl, by rw [HP.out]; exact Rl.nil _ _, below_set4 HBr.out _ _ _ _⟩
      · have e9 : decide ((8 : Int) < (k : Int)) = false := by simp; omega
        have e9' : decide (8 < k) = false := by simp; omega
        obtain ⟨b1, o1, rfl, l1, q⟩ := HR.out (by omega)
        have c1 : wr.cell? ⟨b1, o1 + k, none⟩ = some (.string (ba x)) := by
          rw [HBw.out.cell (p := ⟨b1, o1 + k, none⟩) l1, q k hkl, hxe]
        obtain ⟨u, HU⟩ : ∃ u, Hid (u = ba x) := ⟨_, rfl⟩
        rw [← HU.out] at c1
        have HUb : Hid (bl u = x) := by show _ = _; rw [HU.out, bl_ba]
        have hus : u.size ≤ 100000 := by
          have := line_le (bl s) x (List.mem_of_getElem? HX.out)
          rw [← size_bl] at this
          rw [HU.out, ba_size]; omega
        have hk8 : k < 9 := by omega
        clear hxe q h9
        by_cases hk0 : k = 0
        · subst hk0
          rw [Nat.add_zero] at c1
          go_wp2_with fail
          refine (rread_any u wr hus).mono ?_
          rintro e w2 ⟨tw, A2, c2, m2', b, rfl, hbe, hyes, hb2⟩
          rw [HUb.out] at hbe hyes
          have HB2 := Lib.hid (HBr.out.trans (hb2.mono hsr))
          have HBw2 := Lib.hid (HBw.out.trans (hb2.mono (by omega)))
          have hNB2 := HNB.out.below hb2
          have HNB2 := Lib.hid hNB2
          have HOw2 := Lib.hid (own_belowE HOw.out hb2)
          have hNR2 : NB w2 w.heap.size 0 0 0 (.slice none 0 0) := (HBw2.out.block w.heap.size hs1).trans HNR.out
          obtain ⟨s0, s1, s2, s3⟩ := hNR2.cells
          obtain ⟨g0, g1, g2, g3⟩ := hNR2.frozen
          obtain ⟨p0, p1, p2, p3⟩ := hNB2.cells
          obtain ⟨j0, j1, j2, j3⟩ := hNB2.frozen
          have hbl2 := hNB2.lt
          have HOK := Lib.hid (okIn_of hbe)
          have HY := Lib.hid hyes
          clear hb2 hbe hyes hNB2 hNR2 r0 r1 r2 r3 f0 f1 f2 f3 n0 n1 n2 n3 m0 m1 m2 m3 c1 HBr
          cases b
          · have HP := Lib.hid (parse_bad (k := 0) HA.out HX.out (by omega) (by rw [HOK.out]; rfl))
            go_wp2_with fail
            exact bodyPost_ret (v := .tuple #[.agg #[.int .i64 0, .int .i64 0, .int .i64 0, .slice none 0 0], .int .i64 1, .int .i64 12]) (by simp [results, Tryd.results12, go_sem, s0, s1, s2, s3]) rfl ⟨none, 0, 0, by rw [HP.out]; rfl, by rw [HP.out]; rfl, by rw [HP.out]; exact Rl.nil _ _, below_set4 HB2.out _ _ _ _⟩
          · obtain ⟨y1, y2, y3⟩ := HY.out rfl
            have hmb : m2' ≤ 100001 := by
              rw [y2]
              have h1 := HUb.out
              unfold tlW
              rw [List.length_drop, ← h1]
              cases ho : okW (bl u)
              · rw [words_not ho]; simp
              · rw [words_yes ho]
                have := pieces_len (bl u)
                rw [← size_bl] at this
                omega
            cases hw : (tw.toList == [105, 110])
            · have HP := Lib.hid (parse_bad (k := 0) HA.out HX.out (by omega) (by
                rw [HOK.out]
                have : (hdW x == inW) = false := by rw [toList_bl, y1] at hw; exact hw
                rw [this]; rfl))
              have hw2 : (tw.toList != [105, 110]) = true := by simp only [bne, hw]; rfl
              clear y1 y2 y3
              go_wp2_with fail
              exact bodyPost_ret (v := .tuple #[.agg #[.int .i64 0, .int .i64 0, .int .i64 0, .slice none 0 0], .int .i64 1, .int .i64 12]) (by simp [results, Tryd.results12, go_sem, s0, s1, s2, s3]) rfl ⟨none, 0, 0, by rw [HP.out]; rfl, by rw [HP.out]; rfl, by rw [HP.out]; exact Rl.nil _ _, below_set4 HB2.out _ _ _ _⟩
            · have hw2 : (tw.toList != [105, 110]) = false := by simp only [bne, hw]; rfl
              have hhd : (hdW x == inW) = true := by
                have h2 := hw
                rw [toList_bl, y1] at h2; exact h2
              have HH := Lib.hid hhd
              have HE2 := Lib.hid y2; have HE3 := Lib.hid y3
              clear y1 y2 y3 hhd
              by_cases h3 : m2' = 3
              · have HK : Hid (okAt 0 x = true) := by show _ = _; rw [HOK.out, HH.out, ← HE2.out, h3]; rfl
                have hlen : ((tlW x).map getN).length = 3 := by rw [List.length_map, ← HE2.out, h3]
                obtain ⟨xa, xb, xc, hxyz⟩ := len3 hlen
                have HTk : Hid (takeL nt 0 x = ⟨xa, xb, xc, nt.ls⟩) := by
                  show _ = _
                  unfold takeL numAt
                  rw [if_pos rfl, hxyz]; rfl
                have hR3 := HE3.out
                rw [hxyz] at hR3
                obtain ⟨b2, o2, rfl, l2, hc⟩ := hR3 (by simp)
                have q0 : w2.cell? ⟨b2, o2, none⟩ = some (.int .i64 xa) := hc 0 (by simp)
                have q1 : w2.cell? ⟨b2, o2 + 1, none⟩ = some (.int .i64 xb) := hc 1 (by simp)
                have q2 : w2.cell? ⟨b2, o2 + 2, none⟩ = some (.int .i64 xc) := hc 2 (by simp)
                subst h3
                clear hc hlen hxyz hR3 HE2 HE3 HOK HY
                go_wp2_with fail
                go_still_tail 11, (by kernel_rfl)
                change wpList _ _ _ _ _ w2.drew
                go_wp2_with fail
                go_roundw
                case rel =>
                  refine ⟨0 + 1, by omega, by omega, by go_num, RJ.next HA.out HX.out HK.out (((HBw2.out.drew.setCell (p := ⟨w1.heap.size, 0, none⟩) (Nat.le_refl _) _).setCell (p := ⟨w1.heap.size, 1, none⟩) (Nat.le_refl _) _).setCell (p := ⟨w1.heap.size, 2, none⟩) (Nat.le_refl _) _) ?_⟩
                  rw [← HNT.out, HTk.out]
                  refine ⟨v, (HNB2.out.drew).set3, ?_⟩
                  refine own_same HOw2.out fun g h1 h2 => ?_
                  change ((((w2.setCell ⟨w1.heap.size, 0, none⟩ (.int .i64 xa)).setCell ⟨w1.heap.size, 1, none⟩ (.int .i64 xb)).setCell ⟨w1.heap.size, 2, none⟩ (.int .i64 xc)).heap[g]? = _)
                  rw [Below.heap_setCell _ _ _ _ (by show g ≠ w1.heap.size; omega), Below.heap_setCell _ _ _ _ (by show g ≠ w1.heap.size; omega), Below.heap_setCell _ _ _ _ (by show g ≠ w1.heap.size; omega)]
                case measure => simp [intOf]; omega
              · have HP := Lib.hid (parse_bad (k := 0) HA.out HX.out (by omega) (by
                  rw [HOK.out, HH.out, ← HE2.out]
                  have : (m2' == 3) = false := by simpa using h3
                  rw [this]; rfl))
                have e0 : ((m2' : Int) == 3) = false := ne_beq (by omega)
                have e1 : (m2' == 3) = false := by simpa using h3
                have e2 : ((m2' : Int) != 3) = true := by simp; omega
                have e3 : (m2' != 3) = true := by simpa using h3
                go_wp2_with fail
                exact bodyPost_ret (v := .tuple #[.agg #[.int .i64 0, .int .i64 0, .int .i64 0, .slice none 0 0], .int .i64 1, .int .i64 12]) (by simp [results, Tryd.results12, go_sem, s0, s1, s2, s3]) rfl ⟨none, 0, 0, by rw [HP.out]; rfl, by rw [HP.out]; rfl, by rw [HP.out]; exact Rl.nil _ _, below_set4 HB2.out _ _ _ _⟩
        · have z0 : ((k : Int) == 0) = false := ne_beq (by omega)
          have z1 : (k == 0) = false := beq_eq_false_iff_ne.2 hk0
          go_wp2_with fail
          refine (rone_any u wr hus).mono ?_
          rintro e w2 ⟨rfl, hb2⟩
          rw [HUb.out]
          have HB2 := Lib.hid (HBr.out.trans (hb2.mono hsr))
          have HBw2 := Lib.hid (HBw.out.trans (hb2.mono (by omega)))
          have hNB2 := HNB.out.below hb2
          have HNB2 := Lib.hid hNB2
          have HOw2 := Lib.hid (own_belowE HOw.out hb2)
          have hNR2 : NB w2 w.heap.size 0 0 0 (.slice none 0 0) := (HBw2.out.block w.heap.size hs1).trans HNR.out
          have HNR2 := Lib.hid hNR2
          obtain ⟨s0, s1, s2, s3⟩ := hNR2.cells
          obtain ⟨g0, g1, g2, g3⟩ := hNR2.frozen
          obtain ⟨p0, p1, p2, p3⟩ := hNB2.cells
          obtain ⟨j0, j1, j2, j3⟩ := hNB2.frozen
          have hbl2 := hNB2.lt
          have hok0 : okAt k x = okLy x := by unfold okAt; rw [if_neg hk0]
          have HOK := Lib.hid hok0
          obtain ⟨L, hLe⟩ : ∃ L, L = lyR x := ⟨_, rfl⟩
          rw [← hLe]
          have HLe := Lib.hid hLe
          have hsz2 : w.heap.size < w2.heap.size := by have := HB2.out.size; omega
          clear hb2 hNB2 hNR2 r0 r1 r2 r3 f0 f1 f2 f3 n0 n1 n2 n3 m0 m1 m2 m3 c1 HBr hok0 hLe
          cases hok : okLy x
          · have HP := Lib.hid (parse_bad (k := k) HA.out HX.out (by omega) (by rw [HOK.out]; exact hok))
            clear hok
            go_wp2_with fail
            exact bodyPost_ret (v := .tuple #[.agg #[.int .i64 0, .int .i64 0, .int .i64 0, .slice none 0 0], .int .i64 ((k : Int) + 1), .int .i64 12]) (by simp [results, Tryd.results12, go_sem, s0, s1, s2, s3, hsz2]) rfl ⟨none, 0, 0, by rw [HP.out]; rfl, by rw [HP.out]; rfl, by rw [HP.out]; exact Rl.nil _ _, (below_set4 HB2.out _ _ _ _).alloc (below_set4 HB2.out _ _ _ _).size _⟩
          · have HLy : Hid (takeL nt k x = ⟨nt.c, nt.h, nt.x, nt.ls ++ [L]⟩) := by
              show _ = _
              unfold takeL
              rw [if_neg hk0, HLe.out, lyR_yes hok]
            have HK : Hid (okAt k x = true) := by show _ = _; rw [HOK.out]; exact hok
            clear hok
            obtain ⟨W, hW⟩ : ∃ W, W = w2.alloc (.cells #[.int .i64 L.k, .int .i64 L.o, .int .i64 L.s, .int .i64 L.t] 42) := ⟨_, rfl⟩
            have HO3 : Hid (W.ownsRow (w1.heap.size + 1) 42 4 v nl (lcells nt.ls)) := by rw [hW, HNL.out]; exact HOw2.out.alloc _
            have HNB3 : Hid (NB W w1.heap.size nt.c nt.h nt.x v) := by rw [hW]; exact HNB2.out.alloc _
            have HBw3 : Hid (Below w1.heap.size w1 W) := by rw [hW]; exact HBw2.out.alloc HBw2.out.size _
            have hWs : w2.heap.size < W.heap.size := by rw [hW]; simp
            have HW := Lib.hid hW
            clear hW
            go_wp2_with (at_builtin; refine wpList_append_own _ rfl _ _ 24 rfl (w1.heap.size + 1) 42 i0 (.agg #[.int .i64 0, .int .i64 0, .int .i64 0, .int .i64 0]) 4 32 Tryd.underlying24 hi0 hz0 hz1 hz2 rfl (by decide) v nl (lcells nt.ls) rfl (by rw [← HW.out]; exact HO3.out.alloc _) ⟨w2.heap.size + 1, 0, none⟩ 1 1 [.int .i64 L.k, .int .i64 L.o, .int .i64 L.s, .int .i64 L.t] rfl rfl ?c1 ?c2 ?c3 ?c4 ?c5 ?_)
            case c1 =>
              intro jj uu hj
              match jj, hj with
              | 0, hj => simp at hj; subst hj; simp [Addr.add]
              | 1, hj => simp at hj; subst hj; simp [Addr.add]
              | 2, hj => simp at hj; subst hj; simp [Addr.add]
              | 3, hj => simp at hj; subst hj; simp [Addr.add]
            case c2 =>
              intro uu hu
              simp only [List.mem_cons, List.not_mem_nil, or_false] at hu
              rcases hu with rfl | rfl | rfl | rfl <;> rfl
            case c3 => unfold maxLen; omega
            case c4 => omega
            case c5 => simp; omega
            intro v' w4 hown4 hgrow _
            rw [← HW.out] at hgrow
            have hne : some w1.heap.size ≠ v.ownBlock := own_ne_low HO3.out (by omega)
            have hNB4 : NB w4 w1.heap.size nt.c nt.h nt.x v := (hgrow.block w1.heap.size (by simp; omega) hne).trans (HNB3.out.alloc _)
            have HNB4 := Lib.hid hNB4
            obtain ⟨_, _, _, k3⟩ := hNB4.cells
            obtain ⟨_, _, _, k3f⟩ := hNB4.frozen
            have HO4 := Lib.hid hown4
            have HBw4 : Hid (Below w1.heap.size w1 w4) := (HBw3.out.alloc HBw3.out.size _).grown hgrow (by simp; omega) (fun qq hqq => by have := (HO3.out.lt _ hqq).1; omega)
            obtain ⟨gg, cg, rfl⟩ : ∃ gg cg, v' = .slice (some ⟨gg, 0, none⟩) (nl + 1) cg := by
              rcases hown4.2 with ⟨_, h0⟩ | ⟨g, cap, cur, hv, _⟩
              · omega
              · exact ⟨g, cap, hv⟩
            clear hown4 hgrow hNB4 p0 p1 p2 p3 j0 j1 j2 j3
            go_wp2_with fail
            go_roundw
            case rel =>
              refine ⟨k + 1, by omega, by omega, by go_num, RJ.next HA.out HX.out HK.out (HBw4.out.setCell (p := ⟨w1.heap.size, 3, none⟩) (Nat.le_refl _) _) ?_⟩
              rw [← HNT.out, HLy.out]
              refine ⟨.slice (some ⟨gg, 0, none⟩) (nl + 1) cg, Lib.heap_setCell_same (i := 3) HNB4.out _, ?_⟩
              show World.ownsRow _ (w1.heap.size + 1) 42 4 _ (nt.ls ++ [L]).length (lcells (nt.ls ++ [L]))
              rw [lcells_snoc, List.length_append, ← HNL.out]
              exact own_same HO4.out fun g h1 h2 => Below.heap_setCell _ _ _ _ (by show g ≠ w1.heap.size; omega)
            case measure => simp [intOf]; omega
    · obtain rfl : k = n := by omega
      have hk2 : (cutF 10 (bl s)).1.length = k := HN.out.symm
      obtain ⟨d1, d2, d3⟩ := emp_facts (s := t) rfl
      cases hre : (bl t == [])
      · rw [hre] at d1 d2 d3
        have hne : (cutF 10 (bl s)).2 ≠ [] := fun e => by rw [HT.out, e] at hre; exact absurd hre (by decide)
        have HX := lines_full (bl s) hne
        rw [hk2] at HX
        clear hre hne
        by_cases h9 : k = 9
        · subst h9
          have HP := Lib.hid (parse_over HA.out HX)
          clear HX hk2
          go_wp2_with fail
          exact bodyPost_ret (v := .tuple #[.agg #[.int .i64 0, .int .i64 0, .int .i64 0, .slice none 0 0], .int .i64 10, .int .i64 5]) (by simp [results, Tryd.results12, go_sem, r0, r1, r2, r3]) rfl ⟨none, 0, 0, by rw [HP.out]; rfl, by rw [HP.out]; rfl, by rw [HP.out]; exact Rl.nil _ _, below_set4 HBr.out _ _ _ _⟩
        · have HP := Lib.hid (parse_bad (k := k) HA.out HX (by omega) (ok_empty k))
          have e9 : decide ((8 : Int) < (k : Int)) = false := by simp; omega
          have e9' : decide (8 < k) = false := by simp; omega
          clear HX hk2
          by_cases h0 : k = 0
          · subst h0
            go_wp2_with fail
            exact bodyPost_ret (v := .tuple #[.agg #[.int .i64 0, .int .i64 0, .int .i64 0, .slice none 0 0], .int .i64 1, .int .i64 12]) (by simp [results, Tryd.results12, go_sem, r0, r1, r2, r3]) rfl ⟨none, 0, 0, by rw [HP.out]; rfl, by rw [HP.out]; rfl, by rw [HP.out]; exact Rl.nil _ _, below_set4 HBr.out _ _ _ _⟩
          · have z0 : ((k : Int) == 0) = false := ne_beq (by omega)
            have z1 : (k == 0) = false := beq_eq_false_iff_ne.2 h0
            go_wp2_with fail
            exact bodyPost_ret (v := .tuple #[.agg #[.int .i64 0, .int .i64 0, .int .i64 0, .slice none 0 0], .int .i64 ((k : Int) + 1), .int .i64 12]) (by simp [results, Tryd.results12, go_sem, r0, r1, r2, r3]) rfl ⟨none, 0, 0, by rw [HP.out]; rfl, by rw [HP.out]; rfl, by rw [HP.out]; exact Rl.nil _ _, below_set4 HBr.out _ _ _ _⟩
      · rw [hre] at d1 d2 d3
        have hem : (cutF 10 (bl s)).2 = [] := by rw [← HT.out]; simpa using hre
        clear hre
        by_cases h0 : k = 0
        · have HX := lines_zero (bl s) (by rw [hk2]; exact h0) hem
          rw [hk2] at HX
          have HP := Lib.hid (parse_bad (k := k) HA.out HX (by omega) (ok_empty k))
          subst h0
          clear HX hk2 hem
          go_wp2_with fail
          exact bodyPost_ret (v := .tuple #[.agg #[.int .i64 0, .int .i64 0, .int .i64 0, .slice none 0 0], .int .i64 1, .int .i64 12]) (by simp [results, Tryd.results12, go_sem, r0, r1, r2, r3]) rfl ⟨none, 0, 0, by rw [HP.out]; rfl, by rw [HP.out]; rfl, by rw [HP.out]; exact Rl.nil _ _, below_set4 HBr.out _ _ _ _⟩
        · have z0 : ((k : Int) == 0) = false := ne_beq (by omega)
          have z1 : (k == 0) = false := beq_eq_false_iff_ne.2 h0
          have hex := lines_exact (bl s) (by rw [hk2]; exact h0) hem
          have hlk : (linesB (bl s)).length = k := by rw [hex]; exact hk2
          have htk : (linesB (bl s)).take k = linesB (bl s) := by rw [← hlk]; exact List.take_length
          have hal := HA.out
          have hnt2 := HNT.out
          rw [htk] at hal hnt2
          have HP : Hid (parseL (bl s) = (nt, 0, 0)) := by
            show _ = _
            rw [hnt2]; exact parse_end hal (by omega)
          obtain ⟨A2, c2, hv2, hRl⟩ := own_rl HOw.out
          have HRb := Lib.hid HOw.out
          subst hv2
          rw [← HNL.out] at n3
          clear hal hnt2 htk hlk hex hk2 hem hRl
          by_cases h8 : 8 < k
          all_goals
            first
              | (have e9 : decide ((8 : Int) < (k : Int)) = true := by simp; omega)
              | (have e9 : decide ((8 : Int) < (k : Int)) = false := by simp; omega)
            first
              | (have e9' : decide (8 < k) = true := by simp; omega)
              | (have e9' : decide (8 < k) = false := by simp; omega)
            go_wp2_with fail
            refine bodyPost_ret (v := .tuple #[.agg #[.int .i64 nt.c, .int .i64 nt.h, .int .i64 nt.x, .slice A2 nl c2], .int .i64 0, .int .i64 0]) (by simp [results, Tryd.results12, go_sem, r0, r1, r2, r3]) rfl ⟨A2, c2, nl, by rw [HP.out]; rfl, by rw [HP.out]; exact HNL.out, ?_, below_set4 HBr.out _ _ _ _⟩
            rw [HP.out]
            obtain ⟨A3, c3, hv3, hR3⟩ := own_rl (own_same HRb.out (w' := ((((wr.setCell ⟨w.heap.size, 0, none⟩ (.int .i64 nt.c)).setCell ⟨w.heap.size, 1, none⟩ (.int .i64 nt.h)).setCell ⟨w.heap.size, 2, none⟩ (.int .i64 nt.x)).setCell ⟨w.heap.size, 3, none⟩ (.slice A2 nl c2))) fun g h1 _ => by
              rw [Below.heap_setCell _ _ _ _ (by show g ≠ w.heap.size; omega), Below.heap_setCell _ _ _ _ (by show g ≠ w.heap.size; omega), Below.heap_setCell _ _ _ _ (by show g ≠ w.heap.size; omega), Below.heap_setCell _ _ _ _ (by show g ≠ w.heap.size; omega)])
            cases hv3
            exact hR3

end Go.Proofs.YtmlflmlgjjjmfaaDoor
