/-
  What the document's own conv of layer 6 answers: the terms of a Conv's number.
-/
import Derived.Test.YtnnebdpmmkjfnaaTPub
import Derived.Test.YtnnebdpmmkjfnaaROf
import Derived.Deep.AppendLies
namespace Go.Proofs.Ytnnebdpmmkjfnaa
open Go.RowKit

theorem LB.new (w : World) (l : Ly) : LB (w.alloc (.cells #[.int .i64 l.k, .int .i64 l.o, .int .i64 l.s, .int .i64 l.t] 41)) w.heap.size l := heap_alloc_new w _
theorem SB.alloc {w : World} {b : Nat} {s : Sh} (H : SB w b s) (o : Obj) : SB (w.alloc o) b s := (Lib.alloc_old w o b H.lt).trans H
/-- How things stand in the document's conv. -/
def CJ (w0 : World) (s : Sh) (l : Ly) (a : Int) (xs : List Int) (v : Value) (w : World) : Prop :=
  w.ownsRow (w0.heap.size + 3) 55 2 v xs.length ((seqT a xs).flatMap tcells) ∧ SB w w0.heap.size s ∧ LB w (w0.heap.size + 1 + 1) l ∧ Below w0.heap.size w0 w

set_option maxHeartbeats 8000000 in
set_option maxRecDepth 100000 in
theorem rconv6_any (s u : Sh) (l : Ly) (m cn : Nat) (f p : Int) (w : World) (hp : hasB u.c u.h u.x p = true) (hur : u.r = true) (hm : l.s = (m : Int)) (hm1 : m ≤ 12) (hcn : s.c = (cn : Int)) (hc1 : cn ≤ 8) (ht0 : 0 ≤ l.t) (ht1 : l.t ≤ 12) (f0 : 0 ≤ f) (f1 : f ≤ 512) :
    Calls Try.prog 52 #[.agg #[.int .i64 s.c, .int .i64 s.h, .int .i64 s.x], .agg #[.int .i64 u.c, .int .i64 u.h, .int .i64 u.x], .agg #[.int .i64 l.k, .int .i64 l.o, .int .i64 l.s, .int .i64 l.t], .int .i64 f, .int .i64 p] w (RowTo tcells (seqT (f + chI u.c u.h u.x p * s.c * l.s * l.s) (chanL s (rowI u.c u.h u.x p * l.t) (colI u.c u.h u.x p * l.t) m cn)) w) := by
  obtain ⟨i0, hi, hz0, hz1, hz2⟩ := info_parts Try.info55
  obtain ⟨⟨ch0, ch1⟩, ⟨ro0, ro1⟩, ⟨co0, co1⟩⟩ := of_bd (s := u) hp
  obtain ⟨u1, u2, u3, u4, u5, u6, _⟩ := right_bd hur
  obtain ⟨o, ho⟩ : ∃ o, chI u.c u.h u.x p = o := ⟨_, rfl⟩
  obtain ⟨y, hy⟩ : ∃ y, rowI u.c u.h u.x p = y := ⟨_, rfl⟩
  obtain ⟨x, hx⟩ : ∃ x, colI u.c u.h u.x p = x := ⟨_, rfl⟩
  rw [ho] at ch0 ch1
  rw [hy] at ro0 ro1
  rw [hx] at co0 co1
  have KO : Hid (∀ w, Calls Try.prog 37 #[.agg #[.int .i64 u.c, .int .i64 u.h, .int .i64 u.x], .int .i64 p] w fun e w' => e = .returned (.tuple #[.int .i64 o, .int .i64 y, .int .i64 x, .bool true]) ∧ Below w.heap.size w w') := fun w => by
    refine (rof_any u.c u.h u.x p w).mono ?_
    rintro e w' ⟨he, hb⟩
    rw [ho, hy, hx, hp] at he
    exact ⟨he, hb⟩
  rw [ho, hy, hx]
  have o8 : o ≤ 8 := by omega
  have y12 : y ≤ 11 := by omega
  have x12 : x ≤ 11 := by omega
  clear ho hy hx ch1 ro1 co1 u1 u2 u3 u4 u5 u6 hp hur
  obtain ⟨a, ha⟩ : ∃ a, a = f + o * s.c * l.s * l.s := ⟨_, rfl⟩
  obtain ⟨yt, hyt⟩ : ∃ yt, yt = y * l.t := ⟨_, rfl⟩
  obtain ⟨xt, hxt⟩ : ∃ xt, xt = x * l.t := ⟨_, rfl⟩
  have yb := mul_bd ro0 y12 ht0 ht1
  have xb := mul_bd co0 x12 ht0 ht1
  rw [← hyt] at yb
  rw [← hxt] at xb
  rw [← ha, ← hyt, ← hxt]
  have HYT := Lib.hid hyt; have HXT := Lib.hid hxt
  have HAE : Hid (a = f + o * (cn : Int) * (m : Int) * (m : Int)) := by rw [ha, hm, hcn]; exact rfl
  have HM := Lib.hid hm; have HCN := Lib.hid hcn
  clear ha hyt hxt hm hcn
  obtain ⟨W, hW⟩ : ∃ W, W = ((w.alloc (.cells #[.int .i64 s.c, .int .i64 s.h, .int .i64 s.x] 23)).alloc (.cells #[.int .i64 u.c, .int .i64 u.h, .int .i64 u.x] 23)).alloc (.cells #[.int .i64 l.k, .int .i64 l.o, .int .i64 l.s, .int .i64 l.t] 41) := ⟨_, rfl⟩
  have J0 : Hid (CJ w s l a [] (.slice none 0 0) W) := by
    rw [hW]
    refine ⟨⟨rfl, .inl ⟨rfl, rfl⟩⟩, ((SB.new w s).alloc _).alloc _, ?_, below_threeB w _ _ _⟩
    have := LB.new (((w.alloc (.cells #[.int .i64 s.c, .int .i64 s.h, .int .i64 s.x] 23)).alloc (.cells #[.int .i64 u.c, .int .i64 u.h, .int .i64 u.x] 23))) l
    rwa [show ((w.alloc _).alloc _).heap.size = w.heap.size + 1 + 1 by simp] at this
  have hWz : W.heap.size = w.heap.size + 3 := by rw [hW]; simp
  go_enter Try.func52, Try.ntmps52
  go_wp2_with fail
  rw [← hW]
  clear hW
  refine (KO.out _).mono ?_
  rintro e w1 ⟨rfl, hb⟩
  have J1 : Hid (CJ w s l a [] (.slice none 0 0) w1) := ⟨own_belowE J0.out.1 hb, J0.out.2.1.below hb, J0.out.2.2.1.below hb, chain J0.out.2.2.2 hb⟩
  have hz1s : w.heap.size + 3 ≤ w1.heap.size := by have := hb.size; omega
  clear hb J0 hWz
  go_wp2_with fail
  go_loopg [15, 16, 17, 18] cn (fun g v s16 _ _ wx => ∃ c : Nat, c ≤ cn ∧ Hid (g = cn - c) ∧ s16 = .int .i64 (c : Int) ∧ Hid (CJ w s l a (chanL s yt xt m c) v wx) ∧ w.heap.size + 3 ≤ wx.heap.size)
  case atStart => exact ⟨0, by omega, by show _ = _; omega, rfl, by show CJ _ _ _ _ _ _ _; simpa [chanL] using J1.out, hz1s⟩
  case round =>
    obtain ⟨c, hc, HG, rfl, JC, hzc⟩ := hrel
    obtain ⟨_, hS, hL, _⟩ := JC.out
    obtain ⟨s0, s1, s2⟩ := hS.cells
    obtain ⟨l0, l1, l2, l3⟩ := hL.cells
    clear hS hL
    by_cases cc : c < cn
    · have d1 : decide ((c : Int) < s.c) = true := decide_eq_true (by rw [HCN.out]; omega)
      have d1' : (c : Int) < s.c := by rw [HCN.out]; omega
      go_wp2_with fail
      go_loopg [15, 17, 18] m (fun g v s17 _ wx => ∃ r : Nat, r ≤ m ∧ Hid (g = m - r) ∧ s17 = .int .i64 (r : Int) ∧ Hid (CJ w s l a (chanL s yt xt m c ++ winR s c yt xt m r) v wx) ∧ w.heap.size + 3 ≤ wx.heap.size)
      case atStart => exact ⟨0, by omega, by show _ = _; omega, rfl, by show CJ _ _ _ _ _ _ _; simpa [winR] using JC.out, hzc⟩
      case round =>
        obtain ⟨r, hr, HG2, rfl, JR, hzr⟩ := hrel
        clear s0 s1 s2 l0 l1 l2 l3
        obtain ⟨_, hS, hL, _⟩ := JR.out
        obtain ⟨s0, s1, s2⟩ := hS.cells
        obtain ⟨l0, l1, l2, l3⟩ := hL.cells
        clear hS hL
        by_cases rm : r < m
        · have d2 : (r : Int) < l.s := by rw [HM.out]; omega
          go_wp2_with fail
          go_loopg [15, 18] m (fun g v s18 wx => ∃ k : Nat, k ≤ m ∧ Hid (g = m - k) ∧ s18 = .int .i64 (k : Int) ∧ Hid (CJ w s l a ((chanL s yt xt m c ++ winR s c yt xt m r) ++ rowL s c (yt + (r : Nat)) xt k) v wx) ∧ w.heap.size + 3 ≤ wx.heap.size)
          case atStart => exact ⟨0, by omega, by show _ = _; omega, rfl, by show CJ _ _ _ _ _ _ _; simpa [rowL] using JR.out, hzr⟩
          case round =>
            obtain ⟨k, hk, HG3, rfl, JK, hzk⟩ := hrel
            clear s0 s1 s2 l0 l1 l2 l3
            obtain ⟨hO, hS, hL, hB⟩ := JK.out
            obtain ⟨s0, s1, s2⟩ := hS.cells
            obtain ⟨l0, l1, l2, l3⟩ := hL.cells
            have ls := hS.lt
            have ll := hL.lt
            by_cases km : k < m
            · have d3 : (k : Int) < l.s := by rw [HM.out]; omega
              obtain ⟨xs, hxs⟩ : ∃ xs, xs = (chanL s yt xt m c ++ winR s c yt xt m r) ++ rowL s c (yt + (r : Nat)) xt k := ⟨_, rfl⟩
              rw [← hxs] at hO
              have hlen : xs.length = c * (m * m) + r * m + k := by rw [hxs, List.length_append, List.length_append, chan_len, win_len, row_len]
              have hb1 : c * (m * m) ≤ 7 * (12 * 12) := Nat.mul_le_mul (by omega) (Nat.mul_le_mul hm1 hm1)
              have hb2 : r * m ≤ 11 * 12 := Nat.mul_le_mul (by omega) hm1
              have hlb : xs.length ≤ 1200 := by omega
              have sc0 : 0 ≤ s.c ∧ s.c ≤ 8 := by rw [HCN.out]; omega
              have sl0 : 0 ≤ l.s ∧ l.s ≤ 12 := by rw [HM.out]; omega
              obtain ⟨m1, e1⟩ : ∃ m1, m1 = o * s.c := ⟨_, rfl⟩
              have g1 := mul_bd ch0 o8 sc0.1 sc0.2
              rw [← e1] at g1
              obtain ⟨m2, e2⟩ : ∃ m2, m2 = m1 + (c : Int) := ⟨_, rfl⟩
              obtain ⟨m3, e3⟩ : ∃ m3, m3 = m2 * l.s := ⟨_, rfl⟩
              have g3 := mul_bd (show 0 ≤ m2 by omega) (show m2 ≤ 72 by omega) sl0.1 sl0.2
              rw [← e3] at g3
              obtain ⟨m4, e4⟩ : ∃ m4, m4 = m3 + (r : Int) := ⟨_, rfl⟩
              obtain ⟨m5, e5⟩ : ∃ m5, m5 = m4 * l.s := ⟨_, rfl⟩
              have g5 := mul_bd (show 0 ≤ m4 by omega) (show m4 ≤ 876 by omega) sl0.1 sl0.2
              rw [← e5] at g5
              obtain ⟨m6, e6⟩ : ∃ m6, m6 = f + m5 := ⟨_, rfl⟩
              obtain ⟨m7, e7⟩ : ∃ m7, m7 = m6 + (k : Int) := ⟨_, rfl⟩
              obtain ⟨y2, e8⟩ : ∃ y2, y2 = yt + (r : Int) := ⟨_, rfl⟩
              obtain ⟨x2, e9⟩ : ∃ x2, x2 = xt + (k : Int) := ⟨_, rfl⟩
              obtain ⟨z, hz⟩ : ∃ z, atI s.c s.h s.x c y2 x2 = z := ⟨_, rfl⟩
              have EQ7 : Hid (m7 = a + (xs.length : Nat)) := by
                show _ = _
                rw [e7, e6, e5, e4, e3, e2, e1, HAE.out, hlen, HCN.out, HM.out, Int.natCast_add, Int.natCast_add, Int.natCast_mul, Int.natCast_mul, Int.natCast_mul, Int.add_mul, Int.add_mul, Int.add_mul, Int.mul_assoc (c : Int)]
                omega
              have XS1 : Hid (chanL s yt xt m c ++ winR s c yt xt m r ++ rowL s c (yt + (r : Nat)) xt (k + 1) = xs ++ [z]) := by
                show _ = _
                rw [row_next, ← List.append_assoc, ← hxs, ← hz, e8, e9]
              have KA : Hid (∀ w, Calls Try.prog 55 #[.agg #[.int .i64 s.c, .int .i64 s.h, .int .i64 s.x], .int .i64 (c : Int), .int .i64 y2, .int .i64 x2] w fun e w' => e = .returned (.int .i64 z) ∧ Below w.heap.size w w') := fun w => by
                rw [← hz]; exact rat_any s.c s.h s.x c y2 x2 w
              have V1 : IntKind.i64.wrap (o * s.c) = m1 := by rw [IntWalk.i64_in _ (by omega)]; exact e1.symm
              have V2 : IntKind.i64.wrap (m1 + (c : Int)) = m2 := by rw [IntWalk.i64_in _ (by omega)]; exact e2.symm
              have V3 : IntKind.i64.wrap (m2 * l.s) = m3 := by rw [IntWalk.i64_in _ (by omega)]; exact e3.symm
              have V4 : IntKind.i64.wrap (m3 + (r : Int)) = m4 := by rw [IntWalk.i64_in _ (by omega)]; exact e4.symm
              have V5 : IntKind.i64.wrap (m4 * l.s) = m5 := by rw [IntWalk.i64_in _ (by omega)]; exact e5.symm
              have V6 : IntKind.i64.wrap (f + m5) = m6 := by rw [IntWalk.i64_in _ (by omega)]; exact e6.symm
              have V7 : IntKind.i64.wrap (m6 + (k : Int)) = m7 := by rw [IntWalk.i64_in _ (by omega)]; exact e7.symm
              have VY : IntKind.i64.wrap (y * l.t) = yt := by rw [← HYT.out, IntWalk.i64_in _ (by omega)]
              have VX : IntKind.i64.wrap (x * l.t) = xt := by rw [← HXT.out, IntWalk.i64_in _ (by omega)]
              have V8 : IntKind.i64.wrap (yt + (r : Int)) = y2 := by rw [IntWalk.i64_in _ (by omega)]; exact e8.symm
              have V9 : IntKind.i64.wrap (xt + (k : Int)) = x2 := by rw [IntWalk.i64_in _ (by omega)]; exact e9.symm
              have A1 : Hid (u15.ownBlock ≠ some w.heap.size) := fun h => absurd (hO.lt _ h).1 (by omega)
              have A2 : Hid (u15.ownBlock ≠ some (w.heap.size + 1 + 1)) := fun h => absurd (hO.lt _ h).1 (by omega)
              have HO := Lib.hid hO; have HS := Lib.hid hS; have HL := Lib.hid hL; have HB := Lib.hid hB
              clear hO hS hL hB hxs hlen hb1 hb2 e1 e2 e3 e4 e5 e6 e7 e8 e9 hz g1 g3 g5 sc0 sl0
              go_wp2_with fail
              have HC0 : Hid (Below wr.heap.size wr wr.drew) := below_drew wr
              have tok1 : True := trivial
              go_region_held3 (fun w' => w'.cell? ⟨w.heap.size, 0, none⟩ = some (.int .i64 s.c) ∧ w'.cell? ⟨w.heap.size, 1, none⟩ = some (.int .i64 s.h) ∧ w'.cell? ⟨w.heap.size, 2, none⟩ = some (.int .i64 s.x) ∧ w'.cell? ⟨w.heap.size + 1 + 1, 2, none⟩ = some (.int .i64 l.s) ∧ w'.cell? ⟨w.heap.size + 1 + 1, 3, none⟩ = some (.int .i64 l.t))
                (first
                  | exact ⟨q0, q1, q2, q3, q4⟩
                  | go_keep
                  | (go_split_ands
                     refine ⟨?_, ?_, ?_, ?_, ?_⟩
                     · (rw [hgrow.cell_far _ (by simp; omega) (Ne.symm A1.out)]; first | assumption | go_keep)
                     · (rw [hgrow.cell_far _ (by simp; omega) (Ne.symm A1.out)]; first | assumption | go_keep)
                     · (rw [hgrow.cell_far _ (by simp; omega) (Ne.symm A1.out)]; first | assumption | go_keep)
                     · (rw [hgrow.cell_far _ (by simp; omega) (Ne.symm A2.out)]; first | assumption | go_keep)
                     · (rw [hgrow.cell_far _ (by simp; omega) (Ne.symm A2.out)]; first | assumption | go_keep)
                    ))
                (first
                  | ((have _t := tok1; clear tok1; go_at_call 55; (with_reducible refine (KA.out _).mono ?_); rintro e w2 ⟨rfl, hb2⟩
                      have HC1 := Lib.hid (HC0.out.trans (hb2.mono HC0.out.size))
                      have zz := HC1.out.size
                      have q0 := (HC1.out.cell (p := ⟨w.heap.size, 0, none⟩) ls).trans s0
                      have q1 := (HC1.out.cell (p := ⟨w.heap.size, 1, none⟩) ls).trans s1
                      have q2 := (HC1.out.cell (p := ⟨w.heap.size, 2, none⟩) ls).trans s2
                      have q3 := (HC1.out.cell (p := ⟨w.heap.size + 1 + 1, 2, none⟩) ll).trans l2
                      have q4 := (HC1.out.cell (p := ⟨w.heap.size + 1 + 1, 3, none⟩) ll).trans l3
                      have O2 := Lib.hid (own_belowE HO.out HC1.out)
                      clear hb2))
                  | ((refine step_append_lies _ (by rfl) _ _ _ (by rfl) (w.heap.size + 3) 55 i0 _ 2 16 Try.underlying46 hi hz0 hz1 hz2 rfl (by omega) u15 xs.length ((seqT a xs).flatMap tcells) (by rfl) (O2.out.alloc _) ⟨w2.heap.size, 0, none⟩ 1 1 (tcells ⟨z, m7⟩) (by rfl) (by rfl) (World.news_of_block (cs := #[.int .i64 z, .int .i64 m7]) (t := 55) (fr := (0, 0)) (heap_alloc_new w2 _)) (tcells_one _) (by omega) (by unfold maxLen; omega) (by omega) (by simp; omega) (w2.heap.size + 1) (by simp) ?_; intro gg cap w3 hown2 hgrow hat hlt2))
                  | fail)
              have J3 : Hid (CJ w s l a ((chanL s yt xt m c ++ winR s c yt xt m r) ++ rowL s c (yt + (r : Nat)) xt (k + 1)) (.slice (some ⟨gg, 0, none⟩) (xs.length + 1) cap) w3) := by
                show CJ _ _ _ _ _ _ _
                rw [XS1.out]
                refine ⟨?_, ?_, ?_, ?_⟩
                · rw [seq_snoc, ← EQ7.out, List.flatMap_append, List.length_append]
                  simpa using hown2
                · exact (hgrow.block _ (by simp; omega) (Ne.symm A1.out)).trans ((Lib.alloc_old _ _ _ (by omega)).trans ((HC1.out.block _ ls).trans HS.out))
                · exact (hgrow.block _ (by simp; omega) (Ne.symm A2.out)).trans ((Lib.alloc_old _ _ _ (by omega)).trans ((HC1.out.block _ ll).trans HL.out))
                · exact (chain_alloc (chain HB.out HC1.out) _).grown hgrow (by simp; have := (chain HB.out HC1.out).size; omega) (fun q hqq => by have := (HO.out.lt _ hqq).1; omega)
              have hz3 : w.heap.size + 3 ≤ w3.heap.size := by have h1 := hgrow.size; simp at h1; omega
              clear hown2 hgrow hat hlt2 q0 q1 q2 q3 q4 V1 V2 V3 V4 V5 V6 V7 V8 V9 VX VY s0 s1 s2 l0 l1 l2 l3
              go_wp2_with fail
              go_roundg (m - (k + 1))
              case measure => have := HG3.out; omega
              case rel => exact ⟨k + 1, by omega, rfl, by go_num, J3, hz3⟩
            · obtain rfl : k = m := by omega
              have d3 : ¬ (k : Int) < l.s := by rw [HM.out]; omega
              have hJ2 := JK.out
              rw [List.append_assoc, ← win_next] at hJ2
              have J2 := Lib.hid hJ2
              clear hJ2 hO hS hL hB
              go_wp2_with fail
              go_roundg (k - (r + 1))
              case measure => have := HG2.out; omega
              case rel => exact ⟨r + 1, by omega, rfl, by go_num, J2, hzk⟩
        · obtain rfl : r = m := by omega
          have d2 : ¬ (r : Int) < l.s := by rw [HM.out]; omega
          have hJ2 := JR.out
          rw [show winR s c yt xt r r = winL s c yt xt r from rfl, ← chan_next] at hJ2
          have J2 := Lib.hid hJ2
          clear hJ2
          go_wp2_with fail
          go_roundg (cn - (c + 1))
          case measure => have := HG.out; omega
          case rel => exact ⟨c + 1, by omega, rfl, by go_num, J2, hzr⟩
    · obtain rfl : c = cn := by omega
      have d1 : decide ((c : Int) < s.c) = false := decide_eq_false (by rw [HCN.out]; omega)
      obtain ⟨hO, _, _, hB⟩ := JC.out
      obtain ⟨A2, c2, hv, hd1, hd2, hd3, hd4⟩ := own_cap tcells_len (by decide) hO
      subst hv
      have D1 := Lib.hid hd1; have D2 := Lib.hid hd2; have D3 := Lib.hid hd3; have D4 := Lib.hid hd4; have BB := Lib.hid hB
      clear hO hB hd1 hd2 hd3 hd4
      go_wp2_with fail
      go_ret
      exact ⟨A2, c2, _, rfl, D1.out, D2.out, BB.out, D3.out, D4.out⟩

end Go.Proofs.Ytnnebdpmmkjfnaa
