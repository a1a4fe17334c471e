/-
  What the document's own conv of layer 6 answers: the terms of a Conv's number. What the document's own Terms and Parts answer.
-/
import Derived.Test.YtnfmpladdfgadaaTPub
import Derived.Test.YtnfmpladdfgadaaROf
import Derived.Deep.AppendLies
import Derived.Test.YtnfmpladdfgadaaTGood
namespace Go.Proofs.Ytnfmpladdfgadaa
open Go.RowKit

theorem LB.new (w : World) (l : Ly) : LB (w.alloc (.cells #[.int .i64 l.k, .int .i64 l.o, .int .i64 l.s, .int .i64 l.t] 71)) w.heap.size l := heap_alloc_new w _
theorem SB.alloc {w : World} {b : Nat} {s : Sh} (H : SB w b s) (o : Obj) : SB (w.alloc o) b s := (Lib.alloc_old w o b H.lt).trans H

/-- How things stand in the document's conv. -/
def CJ (w0 : World) (s : Sh) (l : Ly) (a : Int) (xs : List Int) (v : Value) (w : World) : Prop :=
  w.ownsRow (w0.heap.size + 3) 64 2 v xs.length ((seqT a xs).flatMap tcells) ∧ SB w w0.heap.size s ∧ LB w (w0.heap.size + 1 + 1) l ∧ Below w0.heap.size w0 w

set_option maxHeartbeats 8000000 in
set_option maxRecDepth 100000 in
theorem rconv6_any (s u : Sh) (l : Ly) (m cn : Nat) (f p : Int) (w : World) (hp : hasB u.c u.h u.x p = true) (hur : u.r = true) (hm : l.s = (m : Int)) (hm1 : m ≤ 12) (hcn : s.c = (cn : Int)) (hc1 : cn ≤ 8) (ht0 : 0 ≤ l.t) (ht1 : l.t ≤ 12) (f0 : 0 ≤ f) (f1 : f ≤ 512) :
    Calls Try.prog 67 #[.agg #[.int .i64 s.c, .int .i64 s.h, .int .i64 s.x], .agg #[.int .i64 u.c, .int .i64 u.h, .int .i64 u.x], .agg #[.int .i64 l.k, .int .i64 l.o, .int .i64 l.s, .int .i64 l.t], .int .i64 f, .int .i64 p] w (RowNew tcells (seqT (f + chI u.c u.h u.x p * s.c * l.s * l.s) (chanL s (rowI u.c u.h u.x p * l.t) (colI u.c u.h u.x p * l.t) m cn)) w) := by
  obtain ⟨i0, hi, hz0, hz1, hz2⟩ := info_parts Try.info64
  obtain ⟨⟨ch0, ch1⟩, ⟨ro0, ro1⟩, ⟨co0, co1⟩⟩ := of_bd (s := u) hp
  obtain ⟨u1, u2, u3, u4, u5, u6, _⟩ := right_bd hur
  obtain ⟨o, ho⟩ : ∃ o, chI u.c u.h u.x p = o := ⟨_, rfl⟩
  obtain ⟨y, hy⟩ : ∃ y, rowI u.c u.h u.x p = y := ⟨_, rfl⟩
  obtain ⟨x, hx⟩ : ∃ x, colI u.c u.h u.x p = x := ⟨_, rfl⟩
  rw [ho] at ch0 ch1
  rw [hy] at ro0 ro1
  rw [hx] at co0 co1
  have KO : Hid (∀ w, Calls Try.prog 70 #[.agg #[.int .i64 u.c, .int .i64 u.h, .int .i64 u.x], .int .i64 p] w fun e w' => e = .returned (.tuple #[.int .i64 o, .int .i64 y, .int .i64 x, .bool true]) ∧ Below w.heap.size w w') := fun w => by
    refine (rof_any u.c u.h u.x p w).mono ?_
    rintro e w' ⟨he, hb⟩
    rw [ho, hy, hx, hp] at he
    exact ⟨he, hb⟩
  rw [ho, hy, hx]
  have o8 : o ≤ 8 := by omega
  have y12 : y ≤ 11 := by omega
  have x12 : x ≤ 11 := by omega
  clear ho hy hx ch1 ro1 co1 u1 u2 u3 u4 u5 u6 hp hur
  obtain ⟨a, ha⟩ : ∃ a, a = f + o * s.c * l.s * l.s := ⟨_, rfl⟩
  obtain ⟨yt, hyt⟩ : ∃ yt, yt = y * l.t := ⟨_, rfl⟩
  obtain ⟨xt, hxt⟩ : ∃ xt, xt = x * l.t := ⟨_, rfl⟩
  have yb := mul_bd ro0 y12 ht0 ht1
  have xb := mul_bd co0 x12 ht0 ht1
  rw [← hyt] at yb
  rw [← hxt] at xb
  rw [← ha, ← hyt, ← hxt]
  have HYT := Lib.hid hyt; have HXT := Lib.hid hxt
  have HAE : Hid (a = f + o * (cn : Int) * (m : Int) * (m : Int)) := by rw [ha, hm, hcn]; exact rfl
  have HM := Lib.hid hm; have HCN := Lib.hid hcn
  clear ha hyt hxt hm hcn
  obtain ⟨W, hW⟩ : ∃ W, W = ((w.alloc (.cells #[.int .i64 s.c, .int .i64 s.h, .int .i64 s.x] 23)).alloc (.cells #[.int .i64 u.c, .int .i64 u.h, .int .i64 u.x] 23)).alloc (.cells #[.int .i64 l.k, .int .i64 l.o, .int .i64 l.s, .int .i64 l.t] 71) := ⟨_, rfl⟩
  have J0 : Hid (CJ w s l a [] (.slice none 0 0) W) := by
    rw [hW]
    refine ⟨⟨rfl, .inl ⟨rfl, rfl⟩⟩, ((SB.new w s).alloc _).alloc _, ?_, below_threeB w _ _ _⟩
    have := LB.new (((w.alloc (.cells #[.int .i64 s.c, .int .i64 s.h, .int .i64 s.x] 23)).alloc (.cells #[.int .i64 u.c, .int .i64 u.h, .int .i64 u.x] 23))) l
    rwa [show ((w.alloc _).alloc _).heap.size = w.heap.size + 1 + 1 by simp] at this
  have hWz : W.heap.size = w.heap.size + 3 := by rw [hW]; simp
  go_enter Try.func67, Try.ntmps67
  go_wp2_with fail
  rw [← hW]
  clear hW
  refine (KO.out _).mono ?_
  rintro e w1 ⟨rfl, hb⟩
  have J1 : Hid (CJ w s l a [] (.slice none 0 0) w1) := ⟨own_belowE J0.out.1 hb, J0.out.2.1.below hb, J0.out.2.2.1.below hb, chain J0.out.2.2.2 hb⟩
  have hz1s : w.heap.size + 3 ≤ w1.heap.size := by have := hb.size; omega
  clear hb J0 hWz
  go_wp2_with fail
  go_loopg [15, 16, 17, 18] cn (fun g v s16 _ _ wx => ∃ c : Nat, c ≤ cn ∧ Hid (g = cn - c) ∧ s16 = .int .i64 (c : Int) ∧ Hid (CJ w s l a (chanL s yt xt m c) v wx) ∧ w.heap.size + 3 ≤ wx.heap.size)
  case atStart => exact ⟨0, by omega, by show _ = _; omega, rfl, by show CJ _ _ _ _ _ _ _; simpa [chanL] using J1.out, hz1s⟩
  case round =>
    obtain ⟨c, hc, HG, rfl, JC, hzc⟩ := hrel
    obtain ⟨_, hS, hL, _⟩ := JC.out
    obtain ⟨s0, s1, s2⟩ := hS.cells
    obtain ⟨l0, l1, l2, l3⟩ := hL.cells
    clear hS hL
    by_cases cc : c < cn
    · have d1 : decide ((c : Int) < s.c) = true := decide_eq_true (by rw [HCN.out]; omega)
      have d1' : (c : Int) < s.c := by rw [HCN.out]; omega
      go_wp2_with fail
      go_loopg [15, 17, 18] m (fun g v s17 _ wx => ∃ r : Nat, r ≤ m ∧ Hid (g = m - r) ∧ s17 = .int .i64 (r : Int) ∧ Hid (CJ w s l a (chanL s yt xt m c ++ winR s c yt xt m r) v wx) ∧ w.heap.size + 3 ≤ wx.heap.size)
      case atStart => exact ⟨0, by omega, by show _ = _; omega, rfl, by show CJ _ _ _ _ _ _ _; simpa [winR] using JC.out, hzc⟩
      case round =>
        obtain ⟨r, hr, HG2, rfl, JR, hzr⟩ := hrel
        clear s0 s1 s2 l0 l1 l2 l3
        obtain ⟨_, hS, hL, _⟩ := JR.out
        obtain ⟨s0, s1, s2⟩ := hS.cells
        obtain ⟨l0, l1, l2, l3⟩ := hL.cells
        clear hS hL
        by_cases rm : r < m
        · have d2 : (r : Int) < l.s := by rw [HM.out]; omega
          go_wp2_with fail
          go_loopg [15, 18] m (fun g v s18 wx => ∃ k : Nat, k ≤ m ∧ Hid (g = m - k) ∧ s18 = .int .i64 (k : Int) ∧ Hid (CJ w s l a ((chanL s yt xt m c ++ winR s c yt xt m r) ++ rowL s c (yt + (r : Nat)) xt k) v wx) ∧ w.heap.size + 3 ≤ wx.heap.size)
          case atStart => exact ⟨0, by omega, by show _ = _; omega, rfl, by show CJ _ _ _ _ _ _ _; simpa [rowL] using JR.out, hzr⟩
          case round =>
            obtain ⟨k, hk, HG3, rfl, JK, hzk⟩ := hrel
            clear s0 s1 s2 l0 l1 l2 l3
            obtain ⟨hO, hS, hL, hB⟩ := JK.out
            obtain ⟨s0, s1, s2⟩ := hS.cells
            obtain ⟨l0, l1, l2, l3⟩ := hL.cells
            have ls := hS.lt
            have ll := hL.lt
            by_cases km : k < m
            · have d3 : (k : Int) < l.s := by rw [HM.out]; omega
              obtain ⟨xs, hxs⟩ : ∃ xs, xs = (chanL s yt xt m c ++ winR s c yt xt m r) ++ rowL s c (yt + (r : Nat)) xt k := ⟨_, rfl⟩
              rw [← hxs] at hO
              have hlen : xs.length = c * (m * m) + r * m + k := by rw [hxs, List.length_append, List.length_append, chan_len, win_len, row_len]
              have hb1 : c * (m * m) ≤ 7 * (12 * 12) := Nat.mul_le_mul (by omega) (Nat.mul_le_mul hm1 hm1)
              have hb2 : r * m ≤ 11 * 12 := Nat.mul_le_mul (by omega) hm1
              have hlb : xs.length ≤ 1200 := by omega
              have sc0 : 0 ≤ s.c ∧ s.c ≤ 8 := by rw [HCN.out]; omega
              have sl0 : 0 ≤ l.s ∧ l.s ≤ 12 := by rw [HM.out]; omega
              obtain ⟨m1, e1⟩ : ∃ m1, m1 = o * s.c := ⟨_, rfl⟩
              have g1 := mul_bd ch0 o8 sc0.1 sc0.2
              rw [← e1] at g1
              obtain ⟨m2, e2⟩ : ∃ m2, m2 = m1 + (c : Int) := ⟨_, rfl⟩
              obtain ⟨m3, e3⟩ : ∃ m3, m3 = m2 * l.s := ⟨_, rfl⟩
              have g3 := mul_bd (show 0 ≤ m2 by omega) (show m2 ≤ 72 by omega) sl0.1 sl0.2
              rw [← e3] at g3
              obtain ⟨m4, e4⟩ : ∃ m4, m4 = m3 + (r : Int) := ⟨_, rfl⟩
              obtain ⟨m5, e5⟩ : ∃ m5, m5 = m4 * l.s := ⟨_, rfl⟩
              have g5 := mul_bd (show 0 ≤ m4 by omega) (show m4 ≤ 876 by omega) sl0.1 sl0.2
              rw [← e5] at g5
              obtain ⟨m6, e6⟩ : ∃ m6, m6 = f + m5 := ⟨_, rfl⟩
              obtain ⟨m7, e7⟩ : ∃ m7, m7 = m6 + (k : Int) := ⟨_, rfl⟩
              obtain ⟨y2, e8⟩ : ∃ y2, y2 = yt + (r : Int) := ⟨_, rfl⟩
              obtain ⟨x2, e9⟩ : ∃ x2, x2 = xt + (k : Int) := ⟨_, rfl⟩
              obtain ⟨z, hz⟩ : ∃ z, atI s.c s.h s.x c y2 x2 = z := ⟨_, rfl⟩
              have EQ7 : Hid (m7 = a + (xs.length : Nat)) := by
                show _ = _
                rw [e7, e6, e5, e4, e3, e2, e1, HAE.out, hlen, HCN.out, HM.out, Int.natCast_add, Int.natCast_add, Int.natCast_mul, Int.natCast_mul, Int.natCast_mul, Int.add_mul, Int.add_mul, Int.add_mul, Int.mul_assoc (c : Int)]
                omega
              have XS1 : Hid (chanL s yt xt m c ++ winR s c yt xt m r ++ rowL s c (yt + (r : Nat)) xt (k + 1) = xs ++ [z]) := by
                show _ = _
                rw [row_next, ← List.append_assoc, ← hxs, ← hz, e8, e9]
              have KA : Hid (∀ w, Calls Try.prog 71 #[.agg #[.int .i64 s.c, .int .i64 s.h, .int .i64 s.x], .int .i64 (c : Int), .int .i64 y2, .int .i64 x2] w fun e w' => e = .returned (.int .i64 z) ∧ Below w.heap.size w w') := fun w => by
                rw [← hz]; exact rat_any s.c s.h s.x c y2 x2 w
              have V1 : IntKind.i64.wrap (o * s.c) = m1 := by rw [IntWalk.i64_in _ (by omega)]; exact e1.symm
              have V2 : IntKind.i64.wrap (m1 + (c : Int)) = m2 := by rw [IntWalk.i64_in _ (by omega)]; exact e2.symm
              have V3 : IntKind.i64.wrap (m2 * l.s) = m3 := by rw [IntWalk.i64_in _ (by omega)]; exact e3.symm
              have V4 : IntKind.i64.wrap (m3 + (r : Int)) = m4 := by rw [IntWalk.i64_in _ (by omega)]; exact e4.symm
              have V5 : IntKind.i64.wrap (m4 * l.s) = m5 := by rw [IntWalk.i64_in _ (by omega)]; exact e5.symm
              have V6 : IntKind.i64.wrap (f + m5) = m6 := by rw [IntWalk.i64_in _ (by omega)]; exact e6.symm
              have V7 : IntKind.i64.wrap (m6 + (k : Int)) = m7 := by rw [IntWalk.i64_in _ (by omega)]; exact e7.symm
              have VY : IntKind.i64.wrap (y * l.t) = yt := by rw [← HYT.out, IntWalk.i64_in _ (by omega)]
              have VX : IntKind.i64.wrap (x * l.t) = xt := by rw [← HXT.out, IntWalk.i64_in _ (by omega)]
              have V8 : IntKind.i64.wrap (yt + (r : Int)) = y2 := by rw [IntWalk.i64_in _ (by omega)]; exact e8.symm
              have V9 : IntKind.i64.wrap (xt + (k : Int)) = x2 := by rw [IntWalk.i64_in _ (by omega)]; exact e9.symm
              have A1 : Hid (u15.ownBlock ≠ some w.heap.size) := fun h => absurd (hO.lt _ h).1 (by omega)
              have A2 : Hid (u15.ownBlock ≠ some (w.heap.size + 1 + 1)) := fun h => absurd (hO.lt _ h).1 (by omega)
              have HO := Lib.hid hO; have HS := Lib.hid hS; have HL := Lib.hid hL; have HB := Lib.hid hB
              clear hO hS hL hB hxs hlen hb1 hb2 e1 e2 e3 e4 e5 e6 e7 e8 e9 hz g1 g3 g5 sc0 sl0
              go_wp2_with fail
              have HC0 : Hid (Below wr.heap.size wr wr.drew) := below_drew wr
              have tok1 : True := trivial
              go_region_held3 (fun w' => w'.cell? ⟨w.heap.size, 0, none⟩ = some (.int .i64 s.c) ∧ w'.cell? ⟨w.heap.size, 1, none⟩ = some (.int .i64 s.h) ∧ w'.cell? ⟨w.heap.size, 2, none⟩ = some (.int .i64 s.x) ∧ w'.cell? ⟨w.heap.size + 1 + 1, 2, none⟩ = some (.int .i64 l.s) ∧ w'.cell? ⟨w.heap.size + 1 + 1, 3, none⟩ = some (.int .i64 l.t))
                (first
                  | exact ⟨q0, q1, q2, q3, q4⟩
                  | go_keep
                  | (go_split_ands
                     refine ⟨?_, ?_, ?_, ?_, ?_⟩
                     · (rw [hgrow.cell_far _ (by simp; omega) (Ne.symm A1.out)]; first | assumption | go_keep)
                     · (rw [hgrow.cell_far _ (by simp; omega) (Ne.symm A1.out)]; first | assumption | go_keep)
                     · (rw [hgrow.cell_far _ (by simp; omega) (Ne.symm A1.out)]; first | assumption | go_keep)
                     · (rw [hgrow.cell_far _ (by simp; omega) (Ne.symm A2.out)]; first | assumption | go_keep)
                     · (rw [hgrow.cell_far _ (by simp; omega) (Ne.symm A2.out)]; first | assumption | go_keep)
                    ))
                (first
                  | ((have _t := tok1; clear tok1; go_at_call 71; (with_reducible refine (KA.out _).mono ?_); rintro e w2 ⟨rfl, hb2⟩
                      have HC1 := Lib.hid (HC0.out.trans (hb2.mono HC0.out.size))
                      have zz := HC1.out.size
                      have q0 := (HC1.out.cell (p := ⟨w.heap.size, 0, none⟩) ls).trans s0
                      have q1 := (HC1.out.cell (p := ⟨w.heap.size, 1, none⟩) ls).trans s1
                      have q2 := (HC1.out.cell (p := ⟨w.heap.size, 2, none⟩) ls).trans s2
                      have q3 := (HC1.out.cell (p := ⟨w.heap.size + 1 + 1, 2, none⟩) ll).trans l2
                      have q4 := (HC1.out.cell (p := ⟨w.heap.size + 1 + 1, 3, none⟩) ll).trans l3
                      have O2 := Lib.hid (own_belowE HO.out HC1.out)
                      clear hb2))
                  | ((refine step_append_lies _ (by rfl) _ _ _ (by rfl) (w.heap.size + 3) 64 i0 _ 2 16 Try.underlying40 hi hz0 hz1 hz2 rfl (by omega) u15 xs.length ((seqT a xs).flatMap tcells) (by rfl) (O2.out.alloc _) ⟨w2.heap.size, 0, none⟩ 1 1 (tcells ⟨z, m7⟩) (by rfl) (by rfl) (World.news_of_block (cs := #[.int .i64 z, .int .i64 m7]) (t := 64) (fr := (0, 0)) (heap_alloc_new w2 _)) (tcells_one _) (by omega) (by unfold maxLen; omega) (by omega) (by simp; omega) (w2.heap.size + 1) (by simp) ?_; intro gg cap w3 hown2 hgrow hat hlt2))
                  | fail)
              have J3 : Hid (CJ w s l a ((chanL s yt xt m c ++ winR s c yt xt m r) ++ rowL s c (yt + (r : Nat)) xt (k + 1)) (.slice (some ⟨gg, 0, none⟩) (xs.length + 1) cap) w3) := by
                show CJ _ _ _ _ _ _ _
                rw [XS1.out]
                refine ⟨?_, ?_, ?_, ?_⟩
                · rw [seq_snoc, ← EQ7.out, List.flatMap_append, List.length_append]
                  simpa using hown2
                · exact (hgrow.block _ (by simp; omega) (Ne.symm A1.out)).trans ((Lib.alloc_old _ _ _ (by omega)).trans ((HC1.out.block _ ls).trans HS.out))
                · exact (hgrow.block _ (by simp; omega) (Ne.symm A2.out)).trans ((Lib.alloc_old _ _ _ (by omega)).trans ((HC1.out.block _ ll).trans HL.out))
                · exact (chain_alloc (chain HB.out HC1.out) _).grown hgrow (by simp; have := (chain HB.out HC1.out).size; omega) (fun q hqq => by have := (HO.out.lt _ hqq).1; omega)
              have hz3 : w.heap.size + 3 ≤ w3.heap.size := by have h1 := hgrow.size; simp at h1; omega
              clear hown2 hgrow hat hlt2 q0 q1 q2 q3 q4 V1 V2 V3 V4 V5 V6 V7 V8 V9 VX VY s0 s1 s2 l0 l1 l2 l3
              go_wp2_with fail
              go_roundg (m - (k + 1))
              case measure => have := HG3.out; omega
              case rel => exact ⟨k + 1, by omega, rfl, by go_num, J3, hz3⟩
            · obtain rfl : k = m := by omega
              have d3 : ¬ (k : Int) < l.s := by rw [HM.out]; omega
              have hJ2 := JK.out
              rw [List.append_assoc, ← win_next] at hJ2
              have J2 := Lib.hid hJ2
              clear hJ2 hO hS hL hB
              go_wp2_with fail
              go_roundg (k - (r + 1))
              case measure => have := HG2.out; omega
              case rel => exact ⟨r + 1, by omega, rfl, by go_num, J2, hzk⟩
        · obtain rfl : r = m := by omega
          have d2 : ¬ (r : Int) < l.s := by rw [HM.out]; omega
          have hJ2 := JR.out
          rw [show winR s c yt xt r r = winL s c yt xt r from rfl, ← chan_next] at hJ2
          have J2 := Lib.hid hJ2
          clear hJ2
          go_wp2_with fail
          go_roundg (cn - (c + 1))
          case measure => have := HG.out; omega
          case rel => exact ⟨c + 1, by omega, rfl, by go_num, J2, hzr⟩
    · obtain rfl : c = cn := by omega
      have d1 : decide ((c : Int) < s.c) = false := decide_eq_false (by rw [HCN.out]; omega)
      obtain ⟨hO, _, _, hB⟩ := JC.out
      obtain ⟨A2, c2, hv, hd1, hd2, hd3, hd4⟩ := own_cap tcells_len (by decide) hO
      subst hv
      have NEW : Hid (∀ a, A2 = some a → w.heap.size ≤ a.block) := fun a ha => by have := own_new hO a ha; omega
      have D1 := Lib.hid hd1; have D2 := Lib.hid hd2; have D3 := Lib.hid hd3; have D4 := Lib.hid hd4; have BB := Lib.hid hB
      clear hO hB hd1 hd2 hd3 hd4
      go_wp2_with fail
      go_ret
      exact ⟨A2, c2, _, rfl, D1.out, D2.out, BB.out, D3.out, D4.out, NEW.out⟩

end Go.Proofs.Ytnfmpladdfgadaa

namespace Go.Proofs.Ytnfmpladdfgadaa
open Go.RowKit

set_option maxHeartbeats 8000000 in
set_option maxRecDepth 100000 in
theorem rterms_new (c h x : Int) (A : Option Addr) (cA n : Nat) (ls : List Ly) (i p : Int) (w : World) (hx : Rl w A ls) (ln : n = ls.length) (hn : n ≤ 1000) :
    Calls Try.prog 28 #[.agg #[.int .i64 c, .int .i64 h, .int .i64 x, .slice A n cA], .int .i64 i, .int .i64 p] w (RowNew tcells (termsN ⟨c, h, x, ls⟩ i p) w) := by
  obtain ⟨it, hit, hy0, hy1, hy2⟩ := info_parts Try.info64
  have HX := Lib.hid hx; have LX := Lib.hid ln
  clear hx ln
  obtain ⟨er, her⟩ : ∃ er, er = errN ⟨c, h, x, ls⟩ := ⟨_, rfl⟩
  have HER := Lib.hid her
  clear her
  go_enter Try.func28, Try.ntmps28
  go_wp2_with fail
  refine (rshapes_any c h x A cA n ls _ (HX.out.below ((Below.refl _ w).alloc (Nat.le_refl _) _)) LX.out hn).mono ?_
  rintro e w1 ⟨A1, k1, n1, rfl, hn1, hR, hb, hd1, hd2⟩
  have B1 := Lib.hid (chain ((Below.refl w.heap.size w).alloc (Nat.le_refl _) _) hb)
  have N1 := Lib.hid ((NB.new w c h x (.slice A n cA)).below hb)
  obtain ⟨c0, c1, c2, c3⟩ := N1.out.cells
  clear hb hd1 hd2
  rw [← HER.out]
  by_cases h0 : ¬ er = 0
  · have b0 : (er != 0) = true := by simpa using h0
    have HZ : Hid (termsN ⟨c, h, x, ls⟩ i p = []) := if_neg (by rw [at_none (by rw [← HER.out]; exact h0), hasK_z]; decide)
    clear h0 hn1 hR
    go_wp2_with fail
    go_ret
    exact ⟨none, 0, 0, rfl, by rw [HZ.out]; rfl, by rw [HZ.out]; exact Rg.nil _ _ _, B1.out, Nat.le_refl _, Nat.zero_le _, fun a h => by cases h⟩
  have h0 : er = 0 := by omega
  subst h0
  by_cases i0 : i < 0
  · have d0 : decide (i < 0) = true := decide_eq_true i0
    have HZ : Hid (termsN ⟨c, h, x, ls⟩ i p = []) := if_neg (by rw [at_far (by omega), hasK_z]; decide)
    clear hn1 hR
    go_wp2_with fail
    go_ret
    exact ⟨none, 0, 0, rfl, by rw [HZ.out]; rfl, by rw [HZ.out]; exact Rg.nil _ _ _, B1.out, Nat.le_refl _, Nat.zero_le _, fun a h => by cases h⟩
  have d0 : decide (i < 0) = false := decide_eq_false i0
  by_cases i1 : (n : Int) ≤ i
  · have d1 : decide ((n : Int) ≤ i) = true := decide_eq_true i1
    have HZ : Hid (termsN ⟨c, h, x, ls⟩ i p = []) := if_neg (by rw [at_far (by rw [← LX.out]; omega), hasK_z]; decide)
    clear hn1 hR
    go_wp2_with fail
    go_ret
    exact ⟨none, 0, 0, rfl, by rw [HZ.out]; rfl, by rw [HZ.out]; exact Rg.nil _ _ _, B1.out, Nat.le_refl _, Nat.zero_le _, fun a h => by cases h⟩
  have d1 : decide ((n : Int) ≤ i) = false := decide_eq_false i1
  obtain ⟨j, rfl⟩ : ∃ j : Nat, i = j := ⟨i.toNat, by omega⟩
  have jn : j < n := by omega
  have d2 : decide (n ≤ j) = false := by simp; omega
  have he := HER.out.symm
  have HI : Hid (isB ⟨c, h, x, ls⟩ (j : Int) = true) := isB_yes ⟨he, by omega, by show (j : Int) < (ls.length : Int); rw [← LX.out]; omega⟩
  rw [shN_ok he] at hR hn1
  rw [sh_len, ← LX.out] at hn1
  obtain ⟨bS, oS, rfl, hlS, hcS⟩ := hR (by rw [sh_len]; omega)
  obtain ⟨b1, o1, rfl, l1, q⟩ := HX.out (by rw [← LX.out]; omega)
  have hjl : j < ls.length := by rw [← LX.out]; exact jn
  have hl := get_ly hjl
  obtain ⟨K, hK⟩ : ∃ K, K = atN ⟨c, h, x, ls⟩ (j : Int) := ⟨_, rfl⟩
  have hKe := hK.trans (at_some he hl)
  have hq := (q j hjl).below B1.out l1
  rw [show ls.getD j Ly.z = K.l by rw [hKe]] at hq
  obtain ⟨a7, a8, a9, a10⟩ := hq
  have g1 := sh_get ls ⟨c, h, x⟩ j (by omega)
  rw [show endS ⟨c, h, x⟩ (ls.take j) = K.i by rw [hKe]] at g1
  have g2 := sh_get ls ⟨c, h, x⟩ (j + 1) (by omega)
  rw [show endS ⟨c, h, x⟩ (ls.take (j + 1)) = K.u by rw [hKe, end_next hl]] at g2
  obtain ⟨a0, a1, a2⟩ := sh_at hcS g1
  obtain ⟨a3, a4, a5⟩ := sh_at hcS g2
  obtain ⟨m, hm⟩ : ∃ m, m = j + 1 := ⟨_, rfl⟩
  rw [← hm] at a3 a4 a5
  have a6 := c3
  have hln : w.heap.size < w1.heap.size := N1.out.lt
  have hlb : b1 < w1.heap.size := Nat.lt_of_lt_of_le l1 B1.out.size
  have ja : (0 : Int) ≤ (j : Int) := by omega
  have jb : (j : Int) < (n1 : Int) := by omega
  have jc : (j : Int) < (n : Int) := by omega
  have ma : (0 : Int) ≤ (m : Int) := by omega
  have mb : (m : Int) < (n1 : Int) := by omega
  have jb' : j < n1 := by omega
  have mb' : m < n1 := by omega
  have v1 : IntKind.i64.wrap ((j : Int) + 1) = (m : Int) := next_i64 hm (Nat.lt_succ_self j) (by omega)
  have v2 : wrap64 ((j : Int) + 1) = (m : Int) := next_wrap hm (Nat.lt_succ_self j) (by omega)
  have HV1 := Lib.hid v1; have HV2 := Lib.hid v2
  have HK := Lib.hid hK
  have GD : Hid (Good K) := by rw [HK.out]; exact good_at HI.out
  clear hK hKe g1 g2 hcS hl he hn1 hm q l1 hjl v1 v2
  by_cases p0 : p < 0
  · have d3 : decide (p < 0) = true := decide_eq_true p0
    have HZ : Hid (termsN ⟨c, h, x, ls⟩ j p = []) := termsN_no (by omega)
    have v1 := HV1.out
    have v2 := HV2.out
    go_wp2_with fail
    go_ret
    exact ⟨none, 0, 0, rfl, by rw [HZ.out]; rfl, by rw [HZ.out]; exact Rg.nil _ _ _, B1.out, Nat.le_refl _, Nat.zero_le _, fun a h => by cases h⟩
  have d3 : decide (p < 0) = false := decide_eq_false p0
  obtain ⟨un, hun⟩ : ∃ un, K.u.n = un := ⟨_, rfl⟩
  have KU : Hid (∀ w, Calls Try.prog 52 #[.agg #[.int .i64 K.u.c, .int .i64 K.u.h, .int .i64 K.u.x]] w fun e w' => e = .returned (.int .i64 un) ∧ Below w.heap.size w w') := fun w => by
    rw [← hun]; exact rsize_any K.u.c K.u.h K.u.x w
  have HUN := Lib.hid hun
  clear hun
  have v1 := HV1.out
  have v2 := HV2.out
  go_wp2_with fail
  refine (KU.out _).mono ?_
  rintro e w2 ⟨rfl, hb⟩
  have t0 := (hb.cell (p := ⟨bS, oS + j * 3, none⟩) hlS).trans a0
  have t1 := (hb.cell (p := ⟨bS, oS + j * 3 + 1, none⟩) hlS).trans a1
  have t2 := (hb.cell (p := ⟨bS, oS + j * 3 + 2, none⟩) hlS).trans a2
  have t3 := (hb.cell (p := ⟨bS, oS + m * 3, none⟩) hlS).trans a3
  have t4 := (hb.cell (p := ⟨bS, oS + m * 3 + 1, none⟩) hlS).trans a4
  have t5 := (hb.cell (p := ⟨bS, oS + m * 3 + 2, none⟩) hlS).trans a5
  have t6 := (hb.cell (p := ⟨w.heap.size, 3, none⟩) hln).trans a6
  have t7 := (hb.cell (p := ⟨b1, o1 + j * 4, none⟩) hlb).trans a7
  have t8 := (hb.cell (p := ⟨b1, o1 + j * 4 + 1, none⟩) hlb).trans a8
  have t9 := (hb.cell (p := ⟨b1, o1 + j * 4 + 2, none⟩) hlb).trans a9
  have t10 := (hb.cell (p := ⟨b1, o1 + j * 4 + 3, none⟩) hlb).trans a10
  have hsz := hb.size
  have B2 := Lib.hid (chain B1.out hb)
  have N2 := Lib.hid (N1.out.below hb)
  clear a0 a1 a2 a3 a4 a5 a6 a7 a8 a9 a10 c0 c1 c2 c3
  have a0 := t0
  have a1 := t1
  have a2 := t2
  have a3 := t3
  have a4 := t4
  have a5 := t5
  have a6 := t6
  have a7 := t7
  have a8 := t8
  have a9 := t9
  have a10 := t10
  clear t0 t1 t2 t3 t4 t5 t6 t7 t8 t9 t10
  replace hlS : bS < w2.heap.size := by omega
  replace hln : w.heap.size < w2.heap.size := by omega
  replace hlb : b1 < w2.heap.size := by omega
  clear hsz
  obtain ⟨c0, c1, c2, c3⟩ := N2.out.cells
  clear hb v1 v2
  by_cases pu : un ≤ p
  · have d4 : decide (un ≤ p) = true := decide_eq_true pu
    have HZ : Hid (termsN ⟨c, h, x, ls⟩ j p = []) := termsN_no (by rw [← HK.out, HUN.out]; omega)
    go_wp2_with fail
    go_ret
    exact ⟨none, 0, 0, rfl, by rw [HZ.out]; rfl, by rw [HZ.out]; exact Rg.nil _ _ _, B2.out, Nat.le_refl _, Nat.zero_le _, fun a h => by cases h⟩
  have d4 : decide (un ≤ p) = false := decide_eq_false pu
  have HH : Hid (hasK K p = true) := has_yes (by omega) (by rw [HUN.out]; omega)
  have HT : Hid (termsN ⟨c, h, x, ls⟩ j p = termsK K p) := by have := HH.out; rw [HK.out] at this ⊢; exact termsN_is this
  obtain ⟨fa, hfa⟩ : ∃ fa, fa = K.a := ⟨_, rfl⟩
  obtain ⟨mw, hmw⟩ : ∃ mw, mw = K.w := ⟨_, rfl⟩
  have fa0 : 0 ≤ fa := by rw [hfa]; exact GD.out.2.2.2.2.1
  have fa1 : fa ≤ 512 := by rw [hfa]; exact GD.out.2.2.2.2.2
  have KW : Hid (∀ w, Rl w (some ⟨b1, o1, none⟩) ls → Calls Try.prog 17 #[.agg #[.int .i64 c, .int .i64 h, .int .i64 x, .slice (some ⟨b1, o1, none⟩) n cA], .int .i64 (j : Int)] w fun e w' => e = .returned (.tuple #[.int .i64 fa, .int .i64 mw]) ∧ Below w.heap.size w w') := fun w hx => by
    rw [hfa, hmw, HK.out]; exact rweights_of c h x _ cA n ls j w hx LX.out hn
  have HFA := Lib.hid hfa
  clear hfa hmw
  go_wp2_with fail
  refine (KW.out _ (HX.out.below B2.out)).mono ?_
  rintro e w3 ⟨rfl, hb⟩
  have t0 := (hb.cell (p := ⟨bS, oS + j * 3, none⟩) hlS).trans a0
  have t1 := (hb.cell (p := ⟨bS, oS + j * 3 + 1, none⟩) hlS).trans a1
  have t2 := (hb.cell (p := ⟨bS, oS + j * 3 + 2, none⟩) hlS).trans a2
  have t3 := (hb.cell (p := ⟨bS, oS + m * 3, none⟩) hlS).trans a3
  have t4 := (hb.cell (p := ⟨bS, oS + m * 3 + 1, none⟩) hlS).trans a4
  have t5 := (hb.cell (p := ⟨bS, oS + m * 3 + 2, none⟩) hlS).trans a5
  have t6 := (hb.cell (p := ⟨w.heap.size, 3, none⟩) hln).trans a6
  have t7 := (hb.cell (p := ⟨b1, o1 + j * 4, none⟩) hlb).trans a7
  have t8 := (hb.cell (p := ⟨b1, o1 + j * 4 + 1, none⟩) hlb).trans a8
  have t9 := (hb.cell (p := ⟨b1, o1 + j * 4 + 2, none⟩) hlb).trans a9
  have t10 := (hb.cell (p := ⟨b1, o1 + j * 4 + 3, none⟩) hlb).trans a10
  have hsz := hb.size
  have B3 := Lib.hid (chain B2.out hb)
  have N3 := Lib.hid (N2.out.below hb)
  clear a0 a1 a2 a3 a4 a5 a6 a7 a8 a9 a10 c0 c1 c2 c3
  have a0 := t0
  have a1 := t1
  have a2 := t2
  have a3 := t3
  have a4 := t4
  have a5 := t5
  have a6 := t6
  have a7 := t7
  have a8 := t8
  have a9 := t9
  have a10 := t10
  clear t0 t1 t2 t3 t4 t5 t6 t7 t8 t9 t10
  replace hlS : bS < w3.heap.size := by omega
  replace hln : w.heap.size < w3.heap.size := by omega
  replace hlb : b1 < w3.heap.size := by omega
  clear hsz
  obtain ⟨c0, c1, c2, c3⟩ := N3.out.cells
  clear hb
  rcases GD.out.kind with k1 | k2 | k3 | k4
  · have e1 : (K.l.k == 1) = true := by rw [k1]; rfl
    obtain ⟨cz1, cz2, s1, s2, cz3, t1, t2, cz4⟩ := GD.out.conv k1
    obtain ⟨r1, r2, r3, r4, cz5⟩ := right_bd GD.out.2.1
    clear cz1 cz2 cz3 cz4 cz5
    obtain ⟨mm, hmm⟩ : ∃ mm : Nat, K.l.s = mm := ⟨K.l.s.toNat, by omega⟩
    obtain ⟨cn, hcn⟩ : ∃ cn : Nat, K.i.c = cn := ⟨K.i.c.toNat, by omega⟩
    have KC : Hid (∀ w, Calls Try.prog 67 #[.agg #[.int .i64 K.i.c, .int .i64 K.i.h, .int .i64 K.i.x], .agg #[.int .i64 K.u.c, .int .i64 K.u.h, .int .i64 K.u.x], .agg #[.int .i64 K.l.k, .int .i64 K.l.o, .int .i64 K.l.s, .int .i64 K.l.t], .int .i64 fa, .int .i64 p] w (RowNew tcells (termsK K p) w)) := fun w => by
      have := rconv6_any K.i K.u K.l mm cn fa p w HH.out GD.out.ur hmm (by omega) hcn (by omega) (by omega) t2 fa0 fa1
      unfold termsK
      rw [if_pos k1, ← HFA.out, hmm, hcn, show (mm : Int).toNat = mm from rfl, show (cn : Int).toNat = cn from rfl]
      rw [hmm, hcn] at this
      exact this
    clear k1 s1 s2 t1 t2 r1 r2 r3 r4 hmm hcn
    go_wp2_with fail
    have v1 := HV1.out
    have v2 := HV2.out
    have HC0 : Hid (Below w3.heap.size w3 w3.drew) := below_drew w3
    have tok1 : True := trivial
    go_region_held3 (fun w' => w'.cell? ⟨bS, oS + j * 3, none⟩ = some (.int .i64 K.i.c) ∧ w'.cell? ⟨bS, oS + j * 3 + 1, none⟩ = some (.int .i64 K.i.h) ∧ w'.cell? ⟨bS, oS + j * 3 + 2, none⟩ = some (.int .i64 K.i.x) ∧ w'.cell? ⟨bS, oS + m * 3, none⟩ = some (.int .i64 K.u.c) ∧ w'.cell? ⟨bS, oS + m * 3 + 1, none⟩ = some (.int .i64 K.u.h) ∧ w'.cell? ⟨bS, oS + m * 3 + 2, none⟩ = some (.int .i64 K.u.x) ∧ w'.cell? ⟨w.heap.size, 3, none⟩ = some (.slice (some ⟨b1, o1, none⟩) n cA) ∧ w'.cell? ⟨b1, o1 + j * 4, none⟩ = some (.int .i64 K.l.k) ∧ w'.cell? ⟨b1, o1 + j * 4 + 1, none⟩ = some (.int .i64 K.l.o) ∧ w'.cell? ⟨b1, o1 + j * 4 + 2, none⟩ = some (.int .i64 K.l.s) ∧ w'.cell? ⟨b1, o1 + j * 4 + 3, none⟩ = some (.int .i64 K.l.t))
      (first | exact ⟨q0, q1, q2, q3, q4, q5, q6, q7, q8, q9, q10⟩ | go_keep)
      (first
        | ((have _t := tok1; clear tok1; go_at_call 67; (with_reducible refine (KC.out _).mono ?_); rintro e w4 ⟨A4, k4, n4, rfl, hn4, hR4, hb4, hd1, hd2, hnew⟩
            have NW4 : Hid (∀ a, A4 = some a → w.heap.size ≤ a.block) := fun a ha => Nat.le_trans (Nat.le_trans B3.out.size HC0.out.size) (hnew a ha)
            clear hnew
            have L4 := Lib.hid hn4; have R4 := Lib.hid hR4; have D1 := Lib.hid hd1; have D2 := Lib.hid hd2
            clear hn4 hR4 hd1 hd2
            have HC1 := Lib.hid (HC0.out.trans (hb4.mono HC0.out.size))
            have q0 := (HC1.out.cell (p := ⟨bS, oS + j * 3, none⟩) hlS).trans a0
            have q1 := (HC1.out.cell (p := ⟨bS, oS + j * 3 + 1, none⟩) hlS).trans a1
            have q2 := (HC1.out.cell (p := ⟨bS, oS + j * 3 + 2, none⟩) hlS).trans a2
            have q3 := (HC1.out.cell (p := ⟨bS, oS + m * 3, none⟩) hlS).trans a3
            have q4 := (HC1.out.cell (p := ⟨bS, oS + m * 3 + 1, none⟩) hlS).trans a4
            have q5 := (HC1.out.cell (p := ⟨bS, oS + m * 3 + 2, none⟩) hlS).trans a5
            have q6 := (HC1.out.cell (p := ⟨w.heap.size, 3, none⟩) hln).trans a6
            have q7 := (HC1.out.cell (p := ⟨b1, o1 + j * 4, none⟩) hlb).trans a7
            have q8 := (HC1.out.cell (p := ⟨b1, o1 + j * 4 + 1, none⟩) hlb).trans a8
            have q9 := (HC1.out.cell (p := ⟨b1, o1 + j * 4 + 2, none⟩) hlb).trans a9
            have q10 := (HC1.out.cell (p := ⟨b1, o1 + j * 4 + 3, none⟩) hlb).trans a10
            clear hb4))
        | fail)
    go_wp2_with fail
    go_ret
    exact ⟨A4, k4, n4, rfl, by rw [HT.out]; exact L4.out, by rw [HT.out]; exact R4.out, chain B3.out HC1.out, D1.out, D2.out, NW4.out⟩
  · have e1 : (K.l.k == 1) = false := by rw [k2]; rfl
    have e2 : (K.l.k == 2) = true := by rw [k2]; rfl
    have HT2 : Hid (termsN ⟨c, h, x, ls⟩ j p = [⟨p, -1⟩]) := by show _ = _; rw [HT.out]; unfold termsK; rw [if_neg (by omega), if_pos k2]
    clear k2
    go_wp2_with fail
    go_ret
    refine ⟨some ⟨w3.heap.size, 0, none⟩, 1, 1, rfl, by rw [HT2.out]; rfl, ?_, chain_alloc B3.out _, Nat.le_refl _, by decide, fun a h => by rw [← Option.some.inj h]; exact B3.out.size⟩
    rw [HT2.out]
    exact rg_block (heap_alloc_new w3 _) rfl
  · have e1 : (K.l.k == 1) = false := by rw [k3]; rfl
    have e2 : (K.l.k == 2) = false := by rw [k3]; rfl
    have e3 : (K.l.k == 3) = true := by rw [k3]; rfl
    have HZ : Hid (termsN ⟨c, h, x, ls⟩ j p = []) := by show _ = _; rw [HT.out]; unfold termsK; rw [if_neg (by omega), if_neg (by omega), if_neg (by omega)]
    clear k3
    go_wp2_with fail
    go_ret
    exact ⟨none, 0, 0, rfl, by rw [HZ.out]; rfl, by rw [HZ.out]; exact Rg.nil _ _ _, B3.out, Nat.le_refl _, Nat.zero_le _, fun a h => by cases h⟩
  · have e1 : (K.l.k == 1) = false := by rw [k4]; rfl
    have e2 : (K.l.k == 2) = false := by rw [k4]; rfl
    have e3 : (K.l.k == 3) = false := by rw [k4]; rfl
    have nb := size_bd K.i
    obtain ⟨q, hq⟩ : ∃ q : Nat, K.i.n = q := ⟨K.i.n.toNat, by omega⟩
    have q1 : q ≤ 128 := by omega
    have HT4 : Hid (termsN ⟨c, h, x, ls⟩ j p = seqT (fa + p * (q : Int)) (numL q)) := by
      show _ = _
      rw [HT.out]; unfold termsK
      rw [if_neg (by omega), if_neg (by omega), if_pos k4, ← HFA.out, hq, show (q : Int).toNat = q from rfl]
    have KI : Hid (∀ w, Calls Try.prog 52 #[.agg #[.int .i64 K.i.c, .int .i64 K.i.h, .int .i64 K.i.x]] w fun e w' => e = .returned (.int .i64 (q : Int)) ∧ Below w.heap.size w w') := fun w => by
      rw [← hq]; exact rsize_any K.i.c K.i.h K.i.x w
    have ub : un ≤ 128 := by have := size_bd K.u; have := HUN.out; omega
    have pq := mul_bd (show 0 ≤ p by omega) (show p ≤ 128 by omega) (show (0 : Int) ≤ (q : Int) by omega) (show (q : Int) ≤ 128 by omega)
    obtain ⟨pq0, pq1⟩ := pq
    clear k4 nb hq
    go_wp2_with fail
    refine (KI.out _).mono ?_
    rintro e w4 ⟨rfl, hb⟩
    have B4 := Lib.hid (chain B3.out hb)
    clear hb a0 a1 a2 a3 a4 a5 a6 a7 a8 a9 a10 c0 c1 c2 c3
    obtain ⟨B, hB⟩ : ∃ B, B = w4.heap.size := ⟨_, rfl⟩
    have HBB := Lib.hid hB
    obtain ⟨a, ha⟩ : ∃ a, a = fa + p * (q : Int) := ⟨_, rfl⟩
    have HAQ := Lib.hid ha
    have a0 : 0 ≤ a := by omega
    have a1 : a ≤ 100000 := by omega
    have VA : Hid (∀ k : Nat, fa + p * (q : Int) + (k : Int) = a + (k : Int)) := fun k => by rw [HAQ.out]
    clear ha hB
    go_wp2_with fail
    go_loopg [11, 13] q (fun g v s13 wx => ∃ k : Nat, k ≤ q ∧ Hid (g = q - k) ∧ s13 = .int .i64 (k : Int) ∧ Hid (wx.ownsRow B 64 2 v k ((seqT a (numL k)).flatMap tcells)) ∧ Hid (Below w4.heap.size w4 wx))
    case atStart => exact ⟨0, by omega, by show _ = _; omega, rfl, ⟨rfl, .inl ⟨rfl, rfl⟩⟩, Below.refl _ _⟩
    case round =>
      obtain ⟨k, hk, HG, rfl, OW, BW⟩ := hrel
      by_cases kq : k < q
      · have ki : (k : Int) < (q : Int) := by omega
        have hBw : B ≤ wr.heap.size := by rw [HBB.out]; exact BW.out.size
        obtain ⟨vA, vc, hv, hd1, hd2⟩ := own_rg tcells_len (by decide) OW.out
        subst hv
        clear hd1 hd2
        go_wp2_with (at_builtin; refine wpList_append_own _ rfl _ _ 40 rfl B 64 it (.agg #[.int .i64 0, .int .i64 0]) 2 16 Try.underlying40 hit hy0 hy1 hy2 rfl (by decide) _ k _ rfl (OW.out.alloc _) ⟨wr.heap.size, 0, none⟩ 1 1 (tcells ⟨(k : Int), fa + p * (q : Int) + (k : Int)⟩) rfl rfl ?c1 (tcells_one _) ?c3 ?c4 ?c5 ?_)
        case c1 => first | exact fun _ _ h => h | exact new_cells
        case c3 => unfold maxLen; omega
        case c4 => omega
        case c5 => first | omega | (simp; omega)
        intro v' w5 hown2 hgrow hcap
        clear hcap
        have O5 : Hid (w5.ownsRow B 64 2 v' (k + 1) ((seqT a (numL (k + 1))).flatMap tcells)) := by
          show w5.ownsRow _ _ _ _ _ _
          rw [num_next, seq_snoc, num_len, List.flatMap_append]
          rw [VA.out k] at hown2
          simpa using hown2
        have B5 : Hid (Below w4.heap.size w4 w5) := (BW.out.alloc BW.out.size _).grown hgrow (by simp; have := BW.out.size; omega) (fun q hqq => by have := (OW.out.lt _ hqq).1; rw [HBB.out] at this; exact this)
        clear hown2 hgrow
        go_wp2_with fail
        go_roundg (q - (k + 1))
        case measure => have := HG.out; omega
        case rel => exact ⟨k + 1, by omega, rfl, by go_num, O5, B5⟩
      · obtain rfl : k = q := by omega
        obtain ⟨A5, c5, hv, hd1, hd2, hd3, hd4⟩ := own_cap tcells_len (by decide) OW.out
        subst hv
        have NEW : Hid (∀ a, A5 = some a → w.heap.size ≤ a.block) := fun a ha => by have z1 := own_new OW.out a ha; have z2 := B4.out.size; have z3 := HBB.out; omega
        have E1 := Lib.hid hd1; have E2 := Lib.hid hd2; have E3 := Lib.hid hd3; have E4 := Lib.hid hd4
        clear hd1 hd2 hd3 hd4
        go_wp2_with fail
        go_ret
        exact ⟨A5, c5, k, rfl, by rw [HT4.out, ← HAQ.out]; exact E1.out, by rw [HT4.out, ← HAQ.out]; exact E2.out, chain B4.out BW.out, E3.out, E4.out, NEW.out⟩

theorem rterms_any (c h x : Int) (A : Option Addr) (cA n : Nat) (ls : List Ly) (i p : Int) (w : World) (hx : Rl w A ls) (ln : n = ls.length) (hn : n ≤ 1000) :
    Calls Try.prog 28 #[.agg #[.int .i64 c, .int .i64 h, .int .i64 x, .slice A n cA], .int .i64 i, .int .i64 p] w (RowTo tcells (termsN ⟨c, h, x, ls⟩ i p) w) :=
  (rterms_new c h x A cA n ls i p w hx ln hn).mono fun _ _ hh => hh.row

set_option maxHeartbeats 8000000 in
set_option maxRecDepth 100000 in
theorem rparts_any (c h x : Int) (A : Option Addr) (cA n : Nat) (ls : List Ly) (i p : Int) (w : World) (hx : Rl w A ls) (ln : n = ls.length) (hn : n ≤ 1000) :
    Calls Try.prog 31 #[.agg #[.int .i64 c, .int .i64 h, .int .i64 x, .slice A n cA], .int .i64 i, .int .i64 p] w (RowTo icells (partsN ⟨c, h, x, ls⟩ i p) w) := by
  obtain ⟨it, hit, hy0, hy1, hy2⟩ := info_parts Try.info3
  have HX := Lib.hid hx; have LX := Lib.hid ln
  clear hx ln
  obtain ⟨er, her⟩ : ∃ er, er = errN ⟨c, h, x, ls⟩ := ⟨_, rfl⟩
  have HER := Lib.hid her
  clear her
  go_enter Try.func31, Try.ntmps31
  go_wp2_with fail
  refine (rshapes_any c h x A cA n ls _ (HX.out.below ((Below.refl _ w).alloc (Nat.le_refl _) _)) LX.out hn).mono ?_
  rintro e w1 ⟨A1, k1, n1, rfl, hn1, hR, hb, hd1, hd2⟩
  have B1 := Lib.hid (chain ((Below.refl w.heap.size w).alloc (Nat.le_refl _) _) hb)
  have N1 := Lib.hid ((NB.new w c h x (.slice A n cA)).below hb)
  obtain ⟨c0, c1, c2, c3⟩ := N1.out.cells
  clear hb hd1 hd2
  rw [← HER.out]
  by_cases h0 : ¬ er = 0
  · have b0 : (er != 0) = true := by simpa using h0
    have HZ : Hid (partsN ⟨c, h, x, ls⟩ i p = []) := if_neg (by rw [at_none (by rw [← HER.out]; exact h0), hasK_z]; decide)
    clear h0 hn1 hR
    go_wp2_with fail
    go_ret
    exact ⟨none, 0, 0, rfl, by rw [HZ.out]; rfl, by rw [HZ.out]; exact Rg.nil _ _ _, B1.out, Nat.le_refl _, Nat.zero_le _⟩
  have h0 : er = 0 := by omega
  subst h0
  by_cases i0 : i < 0
  · have d0 : decide (i < 0) = true := decide_eq_true i0
    have HZ : Hid (partsN ⟨c, h, x, ls⟩ i p = []) := if_neg (by rw [at_far (by omega), hasK_z]; decide)
    clear hn1 hR
    go_wp2_with fail
    go_ret
    exact ⟨none, 0, 0, rfl, by rw [HZ.out]; rfl, by rw [HZ.out]; exact Rg.nil _ _ _, B1.out, Nat.le_refl _, Nat.zero_le _⟩
  have d0 : decide (i < 0) = false := decide_eq_false i0
  by_cases i1 : (n : Int) ≤ i
  · have d1 : decide ((n : Int) ≤ i) = true := decide_eq_true i1
    have HZ : Hid (partsN ⟨c, h, x, ls⟩ i p = []) := if_neg (by rw [at_far (by rw [← LX.out]; omega), hasK_z]; decide)
    clear hn1 hR
    go_wp2_with fail
    go_ret
    exact ⟨none, 0, 0, rfl, by rw [HZ.out]; rfl, by rw [HZ.out]; exact Rg.nil _ _ _, B1.out, Nat.le_refl _, Nat.zero_le _⟩
  have d1 : decide ((n : Int) ≤ i) = false := decide_eq_false i1
  obtain ⟨j, rfl⟩ : ∃ j : Nat, i = j := ⟨i.toNat, by omega⟩
  have jn : j < n := by omega
  have d2 : decide (n ≤ j) = false := by simp; omega
  have he := HER.out.symm
  have HI : Hid (isB ⟨c, h, x, ls⟩ (j : Int) = true) := isB_yes ⟨he, by omega, by show (j : Int) < (ls.length : Int); rw [← LX.out]; omega⟩
  rw [shN_ok he] at hR hn1
  rw [sh_len, ← LX.out] at hn1
  obtain ⟨bS, oS, rfl, hlS, hcS⟩ := hR (by rw [sh_len]; omega)
  obtain ⟨b1, o1, rfl, l1, q⟩ := HX.out (by rw [← LX.out]; omega)
  have hjl : j < ls.length := by rw [← LX.out]; exact jn
  have hl := get_ly hjl
  obtain ⟨K, hK⟩ : ∃ K, K = atN ⟨c, h, x, ls⟩ (j : Int) := ⟨_, rfl⟩
  have hKe := hK.trans (at_some he hl)
  have hq := (q j hjl).below B1.out l1
  rw [show ls.getD j Ly.z = K.l by rw [hKe]] at hq
  obtain ⟨a7, a8, a9, a10⟩ := hq
  have g1 := sh_get ls ⟨c, h, x⟩ j (by omega)
  rw [show endS ⟨c, h, x⟩ (ls.take j) = K.i by rw [hKe]] at g1
  have g2 := sh_get ls ⟨c, h, x⟩ (j + 1) (by omega)
  rw [show endS ⟨c, h, x⟩ (ls.take (j + 1)) = K.u by rw [hKe, end_next hl]] at g2
  obtain ⟨a0, a1, a2⟩ := sh_at hcS g1
  obtain ⟨a3, a4, a5⟩ := sh_at hcS g2
  obtain ⟨m, hm⟩ : ∃ m, m = j + 1 := ⟨_, rfl⟩
  rw [← hm] at a3 a4 a5
  have a6 := c3
  have hln : w.heap.size < w1.heap.size := N1.out.lt
  have hlb : b1 < w1.heap.size := Nat.lt_of_lt_of_le l1 B1.out.size
  have ja : (0 : Int) ≤ (j : Int) := by omega
  have jb : (j : Int) < (n1 : Int) := by omega
  have jc : (j : Int) < (n : Int) := by omega
  have ma : (0 : Int) ≤ (m : Int) := by omega
  have mb : (m : Int) < (n1 : Int) := by omega
  have jb' : j < n1 := by omega
  have mb' : m < n1 := by omega
  have v1 : IntKind.i64.wrap ((j : Int) + 1) = (m : Int) := next_i64 hm (Nat.lt_succ_self j) (by omega)
  have v2 : wrap64 ((j : Int) + 1) = (m : Int) := next_wrap hm (Nat.lt_succ_self j) (by omega)
  have HV1 := Lib.hid v1; have HV2 := Lib.hid v2
  have HK := Lib.hid hK
  have GD : Hid (Good K) := by rw [HK.out]; exact good_at HI.out
  clear hK hKe g1 g2 hcS hl he hn1 hm q l1 hjl v1 v2
  by_cases k3 : ¬ K.l.k = 3
  · have d3 : (K.l.k != 3) = true := by simpa using k3
    have HZ : Hid (partsN ⟨c, h, x, ls⟩ j p = []) := by
      show _ = _
      unfold partsN partsK
      rw [← HK.out, if_neg k3]; simp
    clear k3
    go_wp2_with fail
    go_ret
    exact ⟨none, 0, 0, rfl, by rw [HZ.out]; rfl, by rw [HZ.out]; exact Rg.nil _ _ _, B1.out, Nat.le_refl _, Nat.zero_le _⟩
  have k3 : K.l.k = 3 := by omega
  have d3 : (K.l.k != 3) = false := by rw [k3]; rfl
  obtain ⟨hs1, hs2, hs3, hs4⟩ := GD.out.pool k3
  obtain ⟨r1, r2, r3, r4, r5, r6, r7⟩ := right_bd GD.out.2.1
  obtain ⟨u1, u2, u3, u4, u5, u6, u7⟩ := right_bd GD.out.ur
  have ss2 : K.l.s ≤ 12 := by
    by_cases hle : K.l.s ≤ K.i.h
    · omega
    · rw [Int.emod_eq_of_lt (by omega) (by omega)] at hs2; omega
  obtain ⟨mm, hmm⟩ : ∃ mm : Nat, K.l.s = mm := ⟨K.l.s.toNat, by omega⟩
  have mm1 : mm ≤ 12 := by omega
  obtain ⟨ch, hch⟩ : ∃ ch, chI K.u.c K.u.h K.u.x p = ch := ⟨_, rfl⟩
  obtain ⟨y, hy⟩ : ∃ y, rowI K.u.c K.u.h K.u.x p = y := ⟨_, rfl⟩
  obtain ⟨z, hz⟩ : ∃ z, colI K.u.c K.u.h K.u.x p = z := ⟨_, rfl⟩
  obtain ⟨is, his⟩ : ∃ is, hasB K.u.c K.u.h K.u.x p = is := ⟨_, rfl⟩
  have KO : Hid (∀ w, Calls Try.prog 70 #[.agg #[.int .i64 K.u.c, .int .i64 K.u.h, .int .i64 K.u.x], .int .i64 p] w fun e w' => e = .returned (.tuple #[.int .i64 ch, .int .i64 y, .int .i64 z, .bool is]) ∧ Below w.heap.size w w') := fun w => by
    refine (rof_any K.u.c K.u.h K.u.x p w).mono ?_
    rintro e w' ⟨he, hb⟩
    rw [hch, hy, hz, his] at he
    exact ⟨he, hb⟩
  have HPN : Hid (partsN ⟨c, h, x, ls⟩ j p = if is = true then winL K.i ch (y * (mm : Int)) (z * (mm : Int)) mm else []) := by
    show _ = _
    unfold partsN partsK hasK
    rw [← HK.out, his, if_pos k3, hch, hy, hz, hmm, show (mm : Int).toNat = mm from rfl]
  have OB : Hid (is = true → (0 ≤ y ∧ y ≤ 11) ∧ (0 ≤ z ∧ z ≤ 11)) := fun e => by
    have h1 := of_bd (s := K.u) (by rw [his]; exact e)
    rw [hy, hz] at h1
    omega
  rw [hmm] at a9
  have v1 := HV1.out
  have v2 := HV2.out
  have HMM := Lib.hid hmm
  clear k3 hs1 hs2 hs3 hs4 r1 r2 r3 r4 r5 r6 r7 u1 u2 u3 u4 u5 u6 u7 ss2 hmm hch hy hz his
  go_wp2_with fail
  refine (KO.out _).mono ?_
  rintro e w2 ⟨rfl, hb⟩
  have t0 := (hb.cell (p := ⟨bS, oS + j * 3, none⟩) hlS).trans a0
  have t1 := (hb.cell (p := ⟨bS, oS + j * 3 + 1, none⟩) hlS).trans a1
  have t2 := (hb.cell (p := ⟨bS, oS + j * 3 + 2, none⟩) hlS).trans a2
  have t3 := (hb.cell (p := ⟨bS, oS + m * 3, none⟩) hlS).trans a3
  have t4 := (hb.cell (p := ⟨bS, oS + m * 3 + 1, none⟩) hlS).trans a4
  have t5 := (hb.cell (p := ⟨bS, oS + m * 3 + 2, none⟩) hlS).trans a5
  have t6 := (hb.cell (p := ⟨w.heap.size, 3, none⟩) hln).trans a6
  have t7 := (hb.cell (p := ⟨b1, o1 + j * 4, none⟩) hlb).trans a7
  have t8 := (hb.cell (p := ⟨b1, o1 + j * 4 + 1, none⟩) hlb).trans a8
  have t9 := (hb.cell (p := ⟨b1, o1 + j * 4 + 2, none⟩) hlb).trans a9
  have t10 := (hb.cell (p := ⟨b1, o1 + j * 4 + 3, none⟩) hlb).trans a10
  have hsz := hb.size
  have B2 := Lib.hid (chain B1.out hb)
  have N2 := Lib.hid (N1.out.below hb)
  clear a0 a1 a2 a3 a4 a5 a6 a7 a8 a9 a10 c0 c1 c2 c3
  have a0 := t0
  have a1 := t1
  have a2 := t2
  have a3 := t3
  have a4 := t4
  have a5 := t5
  have a6 := t6
  have a7 := t7
  have a8 := t8
  have a9 := t9
  have a10 := t10
  clear t0 t1 t2 t3 t4 t5 t6 t7 t8 t9 t10
  replace hlS : bS < w2.heap.size := by omega
  replace hln : w.heap.size < w2.heap.size := by omega
  replace hlb : b1 < w2.heap.size := by omega
  clear hsz
  obtain ⟨c0, c1, c2, c3⟩ := N2.out.cells
  clear hb v1 v2
  by_cases hisf : is = false
  · subst hisf
    have HZ : Hid (partsN ⟨c, h, x, ls⟩ j p = []) := by show _ = _; rw [HPN.out]; simp
    by_cases m0 : 0 < mm
    · have m0i : (0 : Int) < (mm : Int) := by omega
      go_wp2_with fail
      go_loopg [13, 15, 16] 0 (fun _ v s15 _ wx => v = .slice none 0 0 ∧ s15 = .int .i64 0 ∧ Hid (Below w2.heap.size w2 wx))
      case atStart => exact ⟨rfl, rfl, Below.refl _ _⟩
      case round =>
        obtain ⟨rfl, rfl, BW⟩ := hrel
        go_wp2_with fail
        go_ret
        exact ⟨none, 0, 0, rfl, by rw [HZ.out]; rfl, by rw [HZ.out]; exact Rg.nil _ _ _, chain B2.out BW.out, Nat.le_refl _, Nat.zero_le _⟩
    · obtain rfl : mm = 0 := by omega
      go_wp2_with fail
      go_loopg [13, 15, 16] 0 (fun _ v s15 _ wx => v = .slice none 0 0 ∧ s15 = .int .i64 0 ∧ Hid (Below w2.heap.size w2 wx))
      case atStart => exact ⟨rfl, rfl, Below.refl _ _⟩
      case round =>
        obtain ⟨rfl, rfl, BW⟩ := hrel
        go_wp2_with fail
        go_ret
        exact ⟨none, 0, 0, rfl, by rw [HZ.out]; rfl, by rw [HZ.out]; exact Rg.nil _ _ _, chain B2.out BW.out, Nat.le_refl _, Nat.zero_le _⟩
  have hist : is = true := by cases is <;> simp_all
  subst hist
  obtain ⟨⟨y0, y1⟩, ⟨z0, z1⟩⟩ := OB.out rfl
  have HP1 : Hid (partsN ⟨c, h, x, ls⟩ j p = winL K.i ch (y * (mm : Int)) (z * (mm : Int)) mm) := by show _ = _; rw [HPN.out, if_pos rfl]
  obtain ⟨yt, hyt⟩ : ∃ yt, yt = y * (mm : Int) := ⟨_, rfl⟩
  obtain ⟨zt, hzt⟩ : ∃ zt, zt = z * (mm : Int) := ⟨_, rfl⟩
  have yb := mul_bd y0 y1 (show (0 : Int) ≤ (mm : Int) by omega) (show (mm : Int) ≤ 12 by omega)
  have zb := mul_bd z0 z1 (show (0 : Int) ≤ (mm : Int) by omega) (show (mm : Int) ≤ 12 by omega)
  rw [← hyt] at yb
  rw [← hzt] at zb
  rw [← hyt, ← hzt] at HP1
  obtain ⟨yb0, yb1⟩ := yb
  obtain ⟨zb0, zb1⟩ := zb
  obtain ⟨B, hB⟩ : ∃ B, B = w2.heap.size := ⟨_, rfl⟩
  have HBB := Lib.hid hB
  have HA0 := Lib.hid a0; have HA1 := Lib.hid a1; have HA2 := Lib.hid a2
  clear hisf hB
  go_wp2_with fail
  clear a0 a1 a2 a3 a4 a5 a6 a7 a8 a9 a10 c0 c1 c2 c3
  go_loopg [13, 15, 16] mm (fun g v s15 _ wx => ∃ r : Nat, r ≤ mm ∧ Hid (g = mm - r) ∧ s15 = .int .i64 (r : Int) ∧ Hid (wx.ownsRow B 3 1 v (r * mm) ((winR K.i ch yt zt mm r).flatMap icells)) ∧ Hid (Below w2.heap.size w2 wx))
  case atStart => exact ⟨0, by omega, by show _ = _; omega, rfl, by show World.ownsRow _ _ _ _ _ _ _; rw [Nat.zero_mul]; exact ⟨rfl, .inl ⟨rfl, rfl⟩⟩, Below.refl _ _⟩
  case round =>
    obtain ⟨r, hr, HG, rfl, OR, BR⟩ := hrel
    by_cases rm : r < mm
    · have ri : (r : Int) < (mm : Int) := by omega
      go_wp2_with fail
      go_loopg [13, 16] mm (fun g v s16 wx => ∃ k : Nat, k ≤ mm ∧ Hid (g = mm - k) ∧ s16 = .int .i64 (k : Int) ∧ Hid (wx.ownsRow B 3 1 v (r * mm + k) ((winR K.i ch yt zt mm r ++ rowL K.i ch (yt + (r : Nat)) zt k).flatMap icells)) ∧ Hid (Below w2.heap.size w2 wx))
      case atStart => exact ⟨0, by omega, by show _ = _; omega, rfl, by show World.ownsRow _ _ _ _ _ _ _; simpa [rowL] using OR.out, BR⟩
      case round =>
        obtain ⟨k, hk, HG2, rfl, OK, BK⟩ := hrel
        by_cases km : k < mm
        · have ki : (k : Int) < (mm : Int) := by omega
          have a0 := (BK.out.cell (p := ⟨bS, oS + j * 3, none⟩) hlS).trans HA0.out
          have a1 := (BK.out.cell (p := ⟨bS, oS + j * 3 + 1, none⟩) hlS).trans HA1.out
          have a2 := (BK.out.cell (p := ⟨bS, oS + j * 3 + 2, none⟩) hlS).trans HA2.out
          obtain ⟨y2, hy2e⟩ : ∃ y2, y2 = yt + (r : Int) := ⟨_, rfl⟩
          obtain ⟨z2, hz2e⟩ : ∃ z2, z2 = zt + (k : Int) := ⟨_, rfl⟩
          obtain ⟨vv, hvv⟩ : ∃ vv, atI K.i.c K.i.h K.i.x ch y2 z2 = vv := ⟨_, rfl⟩
          have KA : Hid (∀ w, Calls Try.prog 71 #[.agg #[.int .i64 K.i.c, .int .i64 K.i.h, .int .i64 K.i.x], .int .i64 ch, .int .i64 (y * (mm : Int) + (r : Int)), .int .i64 (z * (mm : Int) + (k : Int))] w fun e w' => e = .returned (.int .i64 vv) ∧ Below w.heap.size w w') := fun w => by
            rw [← hvv, hy2e, hz2e, hyt, hzt]; exact rat_any K.i.c K.i.h K.i.x ch _ _ w
          have RN : Hid (rowL K.i ch (yt + (r : Nat)) zt (k + 1) = rowL K.i ch (yt + (r : Nat)) zt k ++ [vv]) := by
            show _ = _
            rw [row_next, ← hvv, hy2e, hz2e]
          have hb1 : r * mm ≤ 11 * 12 := Nat.mul_le_mul (by omega) mm1
          have q1 : 0 ≤ y * (mm : Int) ∧ y * (mm : Int) ≤ 132 := by rw [← hyt]; omega
          have q2 : 0 ≤ z * (mm : Int) ∧ z * (mm : Int) ≤ 132 := by rw [← hzt]; omega
          obtain ⟨q1a, q1b⟩ := q1
          obtain ⟨q2a, q2b⟩ := q2
          have HYT := Lib.hid hyt; have HZT := Lib.hid hzt
          clear hy2e hz2e hvv hyt hzt
          go_wp2_with fail
          refine (KA.out _).mono ?_
          rintro e w4 ⟨rfl, hb⟩
          have O4 := Lib.hid (own_belowE OK.out hb)
          have B4 := Lib.hid (chain BK.out hb)
          have hBw : B ≤ w4.heap.size := by rw [HBB.out]; exact B4.out.size
          clear hb a0 a1 a2
          obtain ⟨vA, vc, hv, hd1, hd2⟩ := own_rg icells_len (by decide) O4.out
          subst hv
          clear hd1 hd2
          go_wp2_with (at_builtin; refine wpList_append_own _ rfl _ _ 43 rfl B 3 it (.int .i64 0) 1 8 Try.underlying43 hit hy0 hy1 hy2 rfl (by decide) _ (r * mm + k) _ rfl (O4.out.alloc _) ⟨w4.heap.size, 0, none⟩ 1 1 (icells vv) rfl rfl ?d1 (icells_one _) ?d3 ?d4 ?d5 ?_)
          case d1 => first | exact fun _ _ h => h | exact new_cells
          case d3 => unfold maxLen; omega
          case d4 => omega
          case d5 => first | omega | (simp; omega)
          intro v' w5 hown2 hgrow hcap
          clear hcap
          have O5 : Hid (w5.ownsRow B 3 1 v' (r * mm + (k + 1)) ((winR K.i ch yt zt mm r ++ rowL K.i ch (yt + (r : Nat)) zt (k + 1)).flatMap icells)) := by
            show w5.ownsRow _ _ _ _ _ _
            rw [RN.out, ← List.append_assoc, List.flatMap_append, ← Nat.add_assoc]
            simpa using hown2
          have B5 : Hid (Below w2.heap.size w2 w5) := (B4.out.alloc B4.out.size _).grown hgrow (by simp; have := B4.out.size; omega) (fun q hqq => by have := (O4.out.lt _ hqq).1; rw [HBB.out] at this; exact this)
          clear hown2 hgrow
          go_wp2_with fail
          go_roundg (mm - (k + 1))
          case measure => have := HG2.out; omega
          case rel => exact ⟨k + 1, by omega, rfl, by go_num, O5, B5⟩
        · obtain rfl : k = mm := by omega
          have hO6 := OK.out
          rw [← win_next, ← Nat.succ_mul] at hO6
          have O6 := Lib.hid hO6
          clear hO6
          go_wp2_with fail
          go_roundg (k - (r + 1))
          case measure => have := HG.out; omega
          case rel => exact ⟨r + 1, by omega, rfl, by go_num, O6, BK⟩
    · obtain rfl : r = mm := by omega
      obtain ⟨A5, c5, hv, hd1, hd2, hd3, hd4⟩ := own_cap icells_len (by decide) OR.out
      subst hv
      have E1 := Lib.hid hd1; have E2 := Lib.hid hd2; have E3 := Lib.hid hd3; have E4 := Lib.hid hd4
      clear hd1 hd2 hd3 hd4
      go_wp2_with fail
      go_ret
      exact ⟨A5, c5, _, rfl, by rw [HP1.out]; exact E1.out, by rw [HP1.out]; exact E2.out, chain B2.out BR.out, E3.out, E4.out⟩

end Go.Proofs.Ytnfmpladdfgadaa
