/-
  What Parts of package terms answers of a Pool: a row of its own.
-/
import Derived.Test.YtnnebdpmmkjfnaaTPub
namespace Go.Proofs.Ytnnebdpmmkjfnaa
open Go.RowKit

set_option maxHeartbeats 2000000 in
set_option maxRecDepth 100000 in
theorem parts_pool (c h x : Int) (A : Option Addr) (cA n : Nat) (ls : List Ly) (i p : Int) (K : Kn) (w : World) (hx : Rl w A ls) (ln : n = ls.length) (hn : n ≤ 1000) (hK : K = atN ⟨c, h, x, ls⟩ i) (hh : hasK K p = true) (hk3 : K.l.k = 3) (hpos : 0 < (partsK K p).length) :
    Calls Try.prog 34 #[.agg #[.int .i64 c, .int .i64 h, .int .i64 x, .slice A n cA], .int .i64 i, .int .i64 p] w fun e w' => ∃ (g k : Nat), e = .returned (.slice (some ⟨g, 0, none⟩) (partsK K p).length k) ∧ (∀ j u, ((partsK K p).flatMap icells)[j]? = some u → w'.cell? ⟨g, 0 + j, none⟩ = some u) ∧ w.heap.size ≤ g ∧ g < w'.heap.size ∧ Below w.heap.size w w' := by
  have HP0 := Lib.hid hpos; have HK3 := Lib.hid hk3
  clear hpos hk3
  have hh2 := hh
  rw [hK] at hh2
  obtain ⟨hE, j, l, hij, hl, hat, hly, hr, hok⟩ := has_layer hh2
  rw [← hK] at hat
  have hu : K.u.r = true := by rw [hat]; exact out_right hr hly hok
  have hir : K.i.r = true := by rw [hat]; exact hr
  obtain ⟨u1, u2, u3, u4, u5, u6, u7⟩ := right_bd hu
  obtain ⟨r1, r2, r3, r4, r5, r6, r7⟩ := right_bd hir
  obtain ⟨⟨ch0, ch1⟩, ⟨ro0, ro1⟩, ⟨co0, co1⟩⟩ := of_bd (s := K.u) hh
  have hkind : K.l.k = 1 ∨ K.l.k = 2 ∨ K.l.k = 3 ∨ K.l.k = 4 := by rw [hat]; exact ly_kind hly
  have hrest : lyB K.l = true := by rw [hat]; exact hly
  have hok2 : okS K.i K.l = true := by rw [hat]; exact hok
  obtain ⟨st, hst⟩ : ∃ st, st = (if K.l.k = 3 then K.l.s else K.l.t) := ⟨_, rfl⟩
  have hst0 : 0 ≤ st ∧ st ≤ 999999 ∧ (K.l.k = 3 → st = K.l.s ∧ st ≤ 12) := by
    rcases hkind with k | k | k | k
    · rw [hst, if_neg (by omega)]
      have ho2 := hok2
      rw [(out_conv K.i k).2] at ho2
      obtain ⟨_, _, _, _, _, t1, t2, _⟩ := convB_out ho2
      exact ⟨by omega, by omega, fun h => absurd h (by omega)⟩
    · rw [hst, if_neg (by omega)]
      have := hrest
      unfold lyB restB at this
      rw [if_neg (by omega), if_neg (by omega), if_neg (by omega)] at this
      simp at this
      exact ⟨by omega, by omega, fun h => absurd h (by omega)⟩
    · rw [hst, if_pos k]
      have ho2 := hok2
      rw [(out_pool K.i k).2] at ho2
      obtain ⟨_, t1, t2, _⟩ := poolB_out ho2
      have h12 : K.l.s ≤ K.i.h := by
        by_cases hle : K.l.s ≤ K.i.h
        · exact hle
        · rw [Int.emod_eq_of_lt (by omega) (by omega)] at t2; omega
      exact ⟨by omega, by omega, fun _ => ⟨rfl, by omega⟩⟩
    · rw [hst, if_neg (by omega)]
      have := hrest
      unfold lyB restB at this
      rw [if_neg (by omega), if_neg (by omega), if_pos k] at this
      simp at this
      exact ⟨by omega, by omega, fun h => absurd h (by omega)⟩
  obtain ⟨st0, st1, st2⟩ := hst0
  have m1 := mul_bd co0 (show colI K.u.c K.u.h K.u.x p ≤ 12 by omega) st0 st1
  have m2 := mul_bd ro0 (show rowI K.u.c K.u.h K.u.x p ≤ 12 by omega) st0 st1
  obtain ⟨ch, hch⟩ : ∃ ch : Nat, chI K.u.c K.u.h K.u.x p = ch := ⟨(chI K.u.c K.u.h K.u.x p).toNat, by omega⟩
  obtain ⟨cx, hcx⟩ : ∃ cx : Nat, colI K.u.c K.u.h K.u.x p * st = cx := ⟨(colI K.u.c K.u.h K.u.x p * st).toNat, by omega⟩
  obtain ⟨cy, hcy⟩ : ∃ cy : Nat, rowI K.u.c K.u.h K.u.x p * st = cy := ⟨(rowI K.u.c K.u.h K.u.x p * st).toNat, by omega⟩
  have HF : Hid (∀ w, Rl w A ls → Calls Try.prog 49 #[.agg #[.int .i64 c, .int .i64 h, .int .i64 x, .slice A n cA], .int .i64 i, .int .i64 p] w fun e w' => e = .returned (.agg #[.int .i64 K.l.k, .int .i64 K.l.o, .int .i64 K.l.s, .int .i64 K.l.t, .int .i64 K.i.c, .int .i64 K.i.h, .int .i64 K.i.x, .int .i64 (ch : Int), .complex .f64 (fl cx) (fl cy)]) ∧ Below w.heap.size w w') := fun w hx =>
    find_some c h x A cA n ls i p K st ch cx cy w hx ln hn hK hh hst hch hcx hcy (by omega) (by omega)
  have HTO : Hid (partsK K p = if K.l.k = 3 then winL K.i (ch : Int) (cy : Int) (cx : Int) K.l.s.toNat else []) := by
    show _ = _
    unfold partsK
    by_cases k3 : K.l.k = 3
    · rw [if_pos k3, if_pos k3, hch, ← (st2 k3).1, hcx, hcy]
    · rw [if_neg k3, if_neg k3]
  have X12 : K.l.k = 3 → 0 ≤ K.l.s ∧ K.l.s ≤ 12 ∧ cx ≤ 150 ∧ cy ≤ 150 := fun k3 => by
    have z1 := mul_bd co0 (show colI K.u.c K.u.h K.u.x p ≤ 11 by omega) st0 (st2 k3).2
    have z2 := mul_bd ro0 (show rowI K.u.c K.u.h K.u.x p ≤ 11 by omega) st0 (st2 k3).2
    have := (st2 k3)
    exact ⟨by omega, by omega, by omega, by omega⟩
  have HX12 := Lib.hid X12
  clear X12 hst hch hcx hcy m1 m2 st0 st1 st2 hrest hu hir u1 u2 u3 u4 u5 u6 u7 r1 r2 r3 r4 r5 r6 r7 ch0 ch1 ro0 ro1 co0 co1 hat hly hr hok hl hij hE hh2 hh hK hkind hok2
  have hcs : ∀ (a : Addr) (k : FloatKind) (re im : Nat) (m : Mode) (w : World), (store a (.complex k re im) m).run Try.prog w = stored Try.prog w a (.complex k re im) m := fun a k re im m w => run_store Try.prog w a _ m rfl
  have hmf : ∀ (fn : Fn) (first cap : Array Value) (w : World), (Instr.makeFunc fn first cap).run Try.prog w = .ok (.func fn first cap) w := fun _ _ _ _ => rfl
  have HX := Lib.hid hx
  clear hx ln
  go_enter Try.func34, Try.ntmps34
  go_wp2_with fail
  refine (HF.out _ (HX.out.below ((Below.refl _ w).alloc (Nat.le_refl _) _))).mono ?_
  rintro e w1 ⟨rfl, hb⟩
  have B1 := Lib.hid (chain ((Below.refl w.heap.size w).alloc (Nat.le_refl _) _) hb)
  clear hb
  by_cases k3 : K.l.k = 3
  · have e3 : (K.l.k != 3) = false := by rw [k3]; rfl
    obtain ⟨x1, x2, x3, x4⟩ := HX12.out k3
    obtain ⟨m, hm⟩ : ∃ m : Nat, K.l.s = m := ⟨K.l.s.toNat, by omega⟩
    have hT := HTO.out
    rw [if_pos k3, hm, show (m : Int).toNat = m from rfl] at hT
    have HT := Lib.hid hT
    obtain ⟨pb, hpb⟩ : ∃ pb, pb = w1.heap.size + 1 := ⟨_, rfl⟩
    have hp : w.heap.size ≤ pb := by have := B1.out.size; omega
    have HO : Hid (∀ w', PJ w pb [] w' → Calls Try.prog 53 #[.agg #[.int .i64 K.l.k, .int .i64 K.l.o, .int .i64 K.l.s, .int .i64 K.l.t, .int .i64 K.i.c, .int .i64 K.i.h, .int .i64 K.i.x, .int .i64 (ch : Int), .complex .f64 (fl cx) (fl cy)], .int .i64 (ch : Int), .func (.func 54) #[] #[.pointer (some ⟨pb, 0, none⟩)]] w' fun e w'' => e = .returned (.tuple #[]) ∧ PJ w pb (partsK K p) w'') := fun w' hj => by
      have := window_any 54 #[.pointer (some ⟨pb, 0, none⟩)] (PJ w pb) (by intro args w; go_simp) (fun xs x w1 hl hj => parts1_any w pb hp xs x w1 hl hj) (fun xs w1 w2 h1 h2 => h1.below h2) K.l.k K.l.o K.l.t (ch : Int) K.i m cx cy (ch : Int) [] w' hj (by omega) x3 x4 (by simp)
      rw [hm, HT.out]
      exact this.mono fun e w2 hh => ⟨hh.1, hh.2.1⟩
    have J0 : Hid (PJ w pb [] ((w1.alloc (.cells #[.int .i64 K.l.k, .int .i64 K.l.o, .int .i64 K.l.s, .int .i64 K.l.t, .int .i64 K.i.c, .int .i64 K.i.h, .int .i64 K.i.x, .int .i64 (ch : Int), .complex .f64 (fl cx) (fl cy)] 79)).alloc (.cells #[.slice none 0 0] 49))) := by
      refine ⟨⟨.slice none 0 0, ?_, ⟨rfl, .inl ⟨rfl, rfl⟩⟩⟩, chain_alloc (chain_alloc B1.out _) _⟩
      have := heap_alloc_new (w1.alloc (.cells #[.int .i64 K.l.k, .int .i64 K.l.o, .int .i64 K.l.s, .int .i64 K.l.t, .int .i64 K.i.c, .int .i64 K.i.h, .int .i64 K.i.x, .int .i64 (ch : Int), .complex .f64 (fl cx) (fl cy)] 79)) (.cells #[.slice none 0 0] 49)
      rw [show (w1.alloc _).heap.size = w1.heap.size + 1 by simp, ← hpb] at this
      exact this
    clear hT hm k3 x1 x2 x3 x4
    go_wp2_with fail
    rw [← hpb]
    clear hpb
    refine (HO.out _ J0.out).mono ?_
    rintro e w3 ⟨rfl, ⟨v, hV, hO⟩, hB⟩
    obtain ⟨g3, c3, hv, hd1, hd2, hd3, hd4, hd5, hd6⟩ := own_at icells_len (by decide) hO HP0.out
    subst hv
    have D2 : Hid (w.heap.size ≤ g3) := by show _ ≤ _; omega
    have D3 := Lib.hid hd3; have D6 := Lib.hid hd6; have B := Lib.hid hB
    have cv := hV.cell
    clear hV hO hB hd1 hd2 hd3 hd4 hd5 hd6
    go_wp2_with fail
    go_ret
    exact ⟨g3, c3, rfl, D6.out, D2.out, D3.out, B.out⟩
  · exact absurd HK3.out k3

end Go.Proofs.Ytnnebdpmmkjfnaa
