/-
  What the closures of package plain answer: the number at a place that comes out, by each kind of layer. What doings and through of package plain, and IndexFunc of the library for them, answer. What through of package plain answers: what a layer makes of numbers.
-/
import Derived.Test.YtbcmhoomdackkaaUNet
namespace Go.Proofs.Ytbcmhoomdackkaa
open Go.RowKit

theorem u_cell {w : World} {b off : Nat} {us : List UInt64} (h : ∀ j u, (us.flatMap ucells)[j]? = some u → w.cell? ⟨b, off + j, none⟩ = some u) {k : Nat} (hk : k < us.length) :
    w.cell? ⟨b, off + k, none⟩ = some (.int .u64 (uz (ug us (k : Nat)))) := by
  have q := Rg.at ucells_len h (ug_get hk)
  have := q 0 _ rfl
  rw [Nat.mul_one, Nat.add_zero] at this
  exact this
theorem i_cell {w : World} {b off : Nat} {xs : List Int} (h : ∀ j u, (xs.flatMap icells)[j]? = some u → w.cell? ⟨b, off + j, none⟩ = some u) {k : Nat} {x : Int} (hx : xs[k]? = some x) :
    w.cell? ⟨b, off + k, none⟩ = some (.int .i64 x) := by
  have q := Rg.at icells_len h hx
  have := q 0 _ rfl
  rw [Nat.mul_one, Nat.add_zero] at this
  exact this
theorem t_cells2 {w : World} {b off : Nat} {ts : List Tm} (h : ∀ j u, (ts.flatMap tcells)[j]? = some u → w.cell? ⟨b, off + j, none⟩ = some u) {k : Nat} {t : Tm} (ht : ts[k]? = some t) :
    w.cell? ⟨b, off + k * 2, none⟩ = some (.int .i64 t.x) ∧ w.cell? ⟨b, off + k * 2 + 1, none⟩ = some (.int .i64 t.w) := by
  have q := Rg.at tcells_len h ht
  exact ⟨q 0 _ rfl, q 1 _ rfl⟩
theorem take_next {α : Type} {l : List α} {k : Nat} {x : α} (h : l[k]? = some x) : l.take (k + 1) = l.take k ++ [x] := by
  rw [List.take_add_one, h]; rfl
theorem sum_next {α : Type} (f : α → UInt64) {l : List α} {k : Nat} {x : α} (h : l[k]? = some x) : sumU ((l.take (k + 1)).map f) = sumU ((l.take k).map f) + f x := by
  rw [take_next h, List.map_append]; exact sumU_snoc _ _

set_option maxHeartbeats 2000000 in
set_option maxRecDepth 100000 in
theorem products_clo (bn bi bx bw : Nat) (c h x : Int) (A X W : Option Addr) (cA n cX nx cW nw : Nat) (ls : List Ly) (xs ws : List UInt64) (i p : Int) (ts : List Tm) (w : World)
    (hx : Rl w A ls) (ln : n = ls.length) (hn : n ≤ 1000) (hX : Rg ucells w X xs) (lx : nx = xs.length) (hW : Rg ucells w W ws) (lw : nw = ws.length)
    (hts : termsN ⟨c, h, x, ls⟩ i p = ts) (hl : ts.length ≤ 5000) (hr : ∀ t ∈ ts, 0 ≤ t.x ∧ t.x < (nx : Int) ∧ 0 ≤ t.w ∧ t.w < (nw : Int))
    (hN : NB w bn c h x (.slice A n cA)) (hI : CB w bi 3 (.int .i64 i)) (hXb : CB w bx 44 (.slice X nx cX)) (hWb : CB w bw 44 (.slice W nw cW)) :
    Calls Try.prog 76 #[.int .i64 p, .pointer (some ⟨bn, 0, none⟩), .pointer (some ⟨bi, 0, none⟩), .pointer (some ⟨bx, 0, none⟩), .pointer (some ⟨bw, 0, none⟩)] w fun e w' => e = .returned (.int .u64 (uz (sumU (ts.map (termU xs ws))))) ∧ Below w.heap.size w w' := by
  have HX := Lib.hid hx; have LN := Lib.hid ln; have HXR := Lib.hid hX; have LX := Lib.hid lx; have HWR := Lib.hid hW; have LW := Lib.hid lw; have HTS := Lib.hid hts; have HR := Lib.hid hr
  have NN := Lib.hid hN; have CI := Lib.hid hI; have CX := Lib.hid hXb; have CW := Lib.hid hWb
  obtain ⟨c0, c1, c2, c3⟩ := hN.cells
  have ci := hI.cell
  clear hx ln hX lx hW lw hts hr hN hI hXb hWb
  go_enter Try.func76, Try.ntmps76
  go_wp2_with fail
  refine (terms_any c h x A cA n ls i p ts HTS.out _ HX.out LN.out hn).mono ?_
  rintro e w1 ⟨A1, k1, n1, rfl, hn1, hR1, hb1, hd1, hd2⟩
  have B1 := Lib.hid hb1; have R1 := Lib.hid hR1; have L1 := Lib.hid hn1
  have n5 : n1 ≤ 5000 := by omega
  clear hb1 hR1 hd1 hd2 hn1 c0 c1 c2 c3 ci hl
  go_wp2_with fail
  go_loopg [6, 8, 14] n1 (fun g s6 _ s14 wx => ∃ k : Nat, k ≤ n1 ∧ Hid (g = n1 - k) ∧ s6 = .int .u64 (uz (sumU ((ts.take k).map (termU xs ws)))) ∧ s14 = .int .i64 (k : Int) ∧ Hid (Below w1.heap.size w1 wx))
  case atStart => exact ⟨0, by omega, by show _ = _; omega, rfl, rfl, Below.refl _ _⟩
  case round =>
    obtain ⟨k, hk, HG, rfl, rfl, BK⟩ := hrel
    obtain ⟨s, hs⟩ : ∃ s, s = sumU ((ts.take k).map (termU xs ws)) := ⟨_, rfl⟩
    rw [← hs]
    have HS := Lib.hid hs
    clear hs
    by_cases kn : k < n1
    · have ki : (k : Int) < (n1 : Int) := by omega
      obtain ⟨b1, o1, rfl, l1, q1⟩ := R1.out (by rw [← L1.out]; omega)
      obtain ⟨t, ht⟩ : ∃ t, ts[k]? = some t := ⟨_, List.getElem?_eq_getElem (by rw [← L1.out]; exact kn)⟩
      obtain ⟨y0, y1⟩ := t_cells2 q1 ht
      have z0 := (BK.out.cell (p := ⟨b1, o1 + k * 2, none⟩) l1).trans y0
      have z1 := (BK.out.cell (p := ⟨b1, o1 + k * 2 + 1, none⟩) l1).trans y1
      obtain ⟨r1, r2, r3, r4⟩ := HR.out t (List.mem_of_getElem? ht)
      have HT := Lib.hid ht
      obtain ⟨tx, tw⟩ := t
      obtain ⟨jx, rfl⟩ : ∃ jx : Nat, tx = jx := ⟨tx.toNat, by have : 0 ≤ tx := r1; omega⟩
      obtain ⟨jw, rfl⟩ : ∃ jw : Nat, tw = jw := ⟨tw.toNat, by have : 0 ≤ tw := r3; omega⟩
      have r2 : (jx : Int) < (nx : Int) := r2
      have r4 : (jw : Int) < (nw : Int) := r4
      have z0 : wr.cell? ⟨b1, o1 + k * 2, none⟩ = some (.int .i64 (jx : Int)) := z0
      have z1 : wr.cell? ⟨b1, o1 + k * 2 + 1, none⟩ = some (.int .i64 (jw : Int)) := z1
      obtain ⟨b2, o2, rfl, l2, q2⟩ := HXR.out (by rw [← LX.out]; omega)
      obtain ⟨b3, o3, rfl, l3, q3⟩ := HWR.out (by rw [← LW.out]; omega)
      have BW := Lib.hid (chain B1.out BK.out)
      have v2 := (BW.out.cell (p := ⟨b2, o2 + jx, none⟩) l2).trans (u_cell q2 (show jx < xs.length by rw [← LX.out]; omega))
      have v3 := (BW.out.cell (p := ⟨b3, o3 + jw, none⟩) l3).trans (u_cell q3 (show jw < ws.length by rw [← LW.out]; omega))
      have cx := (CX.out.below BW.out).cell
      have cw := (CW.out.below BW.out).cell
      have lbx := (CX.out.below BW.out).lt
      have lbw := (CW.out.below BW.out).lt
      have l2' := Nat.lt_of_lt_of_le l2 BW.out.size
      have l3' := Nat.lt_of_lt_of_le l3 BW.out.size
      obtain ⟨ux, hux⟩ : ∃ u, u = ug xs (jx : Nat) := ⟨_, rfl⟩
      obtain ⟨uw, huw⟩ : ∃ u, u = ug ws (jw : Nat) := ⟨_, rfl⟩
      rw [← hux] at v2
      rw [← huw] at v3
      have HUX := Lib.hid hux; have HUW := Lib.hid huw
      clear q1 q2 q3 y0 y1 ht r1 r3 hux huw
      go_wp2_with fail
      go_quiet (fail)
      go_wp2_with fail
      go_roundg (n1 - (k + 1))
      case measure => have := HG.out; omega
      case rel => exact ⟨k + 1, by omega, rfl, by rw [uz_mul, uz_add, sum_next _ HT.out, ← HS.out, termU, HUX.out, HUW.out], by go_num, below_drewN (chain_alloc BK.out _) _⟩
    · obtain rfl : k = n1 := by omega
      have e : ts.take k = ts := by rw [L1.out, List.take_length]
      have hs := HS.out
      rw [e] at hs
      have HS2 := Lib.hid hs
      clear hs
      go_wp2_with fail
      go_ret
      exact ⟨by rw [HS2.out]; rfl, chain B1.out BK.out⟩

set_option maxHeartbeats 2000000 in
set_option maxRecDepth 100000 in
theorem parts_clo (bn bi bx : Nat) (c h x : Int) (A X : Option Addr) (cA n cX nx : Nat) (ls : List Ly) (xs : List UInt64) (i p : Int) (ts : List Int) (w : World)
    (hx : Rl w A ls) (ln : n = ls.length) (hn : n ≤ 1000) (hX : Rg ucells w X xs) (lx : nx = xs.length)
    (hts : partsN ⟨c, h, x, ls⟩ i p = ts) (hl : ts.length ≤ 5000) (hr : ∀ t ∈ ts, 0 ≤ t ∧ t < (nx : Int))
    (hN : NB w bn c h x (.slice A n cA)) (hI : CB w bi 3 (.int .i64 i)) (hXb : CB w bx 44 (.slice X nx cX)) :
    Calls Try.prog 79 #[.int .i64 p, .pointer (some ⟨bn, 0, none⟩), .pointer (some ⟨bi, 0, none⟩), .pointer (some ⟨bx, 0, none⟩)] w fun e w' => e = .returned (.int .u64 (uz (sumU (ts.map (ug xs))))) ∧ Below w.heap.size w w' := by
  have HX := Lib.hid hx; have LN := Lib.hid ln; have HXR := Lib.hid hX; have LX := Lib.hid lx; have HTS := Lib.hid hts; have HR := Lib.hid hr
  have NN := Lib.hid hN; have CI := Lib.hid hI; have CX := Lib.hid hXb
  obtain ⟨c0, c1, c2, c3⟩ := hN.cells
  have ci := hI.cell
  clear hx ln hX lx hts hr hN hI hXb
  go_enter Try.func79, Try.ntmps79
  go_wp2_with fail
  refine (parts_any c h x A cA n ls i p ts HTS.out _ HX.out LN.out hn).mono ?_
  rintro e w1 ⟨A1, k1, n1, rfl, hn1, hR1, hb1, hd1, hd2⟩
  have B1 := Lib.hid hb1; have R1 := Lib.hid hR1; have L1 := Lib.hid hn1
  have n5 : n1 ≤ 5000 := by omega
  clear hb1 hR1 hd1 hd2 hn1 c0 c1 c2 c3 ci hl
  go_wp2_with fail
  go_loopg [5, 7, 13] n1 (fun g s6 _ s14 wx => ∃ k : Nat, k ≤ n1 ∧ Hid (g = n1 - k) ∧ s6 = .int .u64 (uz (sumU ((ts.take k).map (ug xs)))) ∧ s14 = .int .i64 (k : Int) ∧ Hid (Below w1.heap.size w1 wx))
  case atStart => exact ⟨0, by omega, by show _ = _; omega, rfl, rfl, Below.refl _ _⟩
  case round =>
    obtain ⟨k, hk, HG, rfl, rfl, BK⟩ := hrel
    obtain ⟨s, hs⟩ : ∃ s, s = sumU ((ts.take k).map (ug xs)) := ⟨_, rfl⟩
    rw [← hs]
    have HS := Lib.hid hs
    clear hs
    by_cases kn : k < n1
    · have ki : (k : Int) < (n1 : Int) := by omega
      obtain ⟨b1, o1, rfl, l1, q1⟩ := R1.out (by rw [← L1.out]; omega)
      obtain ⟨t, ht⟩ : ∃ t, ts[k]? = some t := ⟨_, List.getElem?_eq_getElem (by rw [← L1.out]; exact kn)⟩
      have z0 := (BK.out.cell (p := ⟨b1, o1 + k, none⟩) l1).trans (i_cell q1 ht)
      obtain ⟨r1, r2⟩ := HR.out t (List.mem_of_getElem? ht)
      have HT := Lib.hid ht
      obtain ⟨jx, rfl⟩ : ∃ jx : Nat, t = jx := ⟨t.toNat, by omega⟩
      obtain ⟨b2, o2, rfl, l2, q2⟩ := HXR.out (by rw [← LX.out]; omega)
      have BW := Lib.hid (chain B1.out BK.out)
      have v2 := (BW.out.cell (p := ⟨b2, o2 + jx, none⟩) l2).trans (u_cell q2 (show jx < xs.length by rw [← LX.out]; omega))
      have cx := (CX.out.below BW.out).cell
      obtain ⟨ux, hux⟩ : ∃ u, u = ug xs (jx : Nat) := ⟨_, rfl⟩
      rw [← hux] at v2
      have HUX := Lib.hid hux
      clear q1 q2 ht r1 hux
      go_wp2_with fail
      go_roundg (n1 - (k + 1))
      case measure => have := HG.out; omega
      case rel => exact ⟨k + 1, by omega, rfl, by rw [uz_add, sum_next _ HT.out, ← HS.out, HUX.out], by go_num, BK⟩
    · obtain rfl : k = n1 := by omega
      have e : ts.take k = ts := by rw [L1.out, List.take_length]
      have hs := HS.out
      rw [e] at hs
      have HS2 := Lib.hid hs
      clear hs
      go_wp2_with fail
      go_ret
      exact ⟨by rw [HS2.out]; rfl, chain B1.out BK.out⟩

set_option maxHeartbeats 1000000 in
set_option maxRecDepth 100000 in
theorem square_clo (bx : Nat) (X : Option Addr) (cX nx : Nat) (xs : List UInt64) (p : Nat) (w : World)
    (hX : Rg ucells w X xs) (lx : nx = xs.length) (hp : p < nx) (hXb : CB w bx 44 (.slice X nx cX)) :
    Calls Try.prog 78 #[.int .i64 (p : Int), .pointer (some ⟨bx, 0, none⟩)] w fun e w' => e = .returned (.int .u64 (uz (ug xs (p : Nat) * ug xs (p : Nat)))) ∧ Below w.heap.size w w' := by
  have cx := hXb.cell
  obtain ⟨b2, o2, rfl, l2, q2⟩ := hX (by omega)
  have v2 := u_cell q2 (show p < xs.length by omega)
  obtain ⟨u, hu⟩ : ∃ u, u = ug xs (p : Nat) := ⟨_, rfl⟩
  rw [← hu] at v2
  rw [← hu]
  have pi : (p : Int) < (nx : Int) := by omega
  have lb := hXb.lt
  clear q2 hu lx hX hXb
  go_enter Try.func78, Try.ntmps78
  go_wp2_with fail
  go_quiet (fail)
  go_wp2_with fail
  go_ret
  exact ⟨by rw [uz_mul]; rfl, below_drewN (Below.refl _ w) _⟩

end Go.Proofs.Ytbcmhoomdackkaa

namespace Go.Proofs.Ytbcmhoomdackkaa
open Go.RowKit

/-- What a kind of layer does: a closure. -/
structure Dg where
  k : Int
  f : Nat
  caps : Array Value
def dcells (d : Dg) : List Value := [.int .i64 d.k, .func (.func d.f) #[] d.caps]
theorem dcells_len (d : Dg) : (dcells d).length = 2 := rfl
theorem d_cells {w : World} {b off : Nat} {ds : List Dg} (h : ∀ j u, (ds.flatMap dcells)[j]? = some u → w.cell? ⟨b, off + j, none⟩ = some u) {k : Nat} {d : Dg} (hd : ds[k]? = some d) :
    w.cell? ⟨b, off + k * 2, none⟩ = some (.int .i64 d.k) ∧ w.cell? ⟨b, off + k * 2 + 1, none⟩ = some (.func (.func d.f) #[] d.caps) := by
  have q := Rg.at dcells_len h hd
  exact ⟨q 0 _ rfl, q 1 _ rfl⟩
def pt (b : Nat) : Value := .pointer (some ⟨b, 0, none⟩)
def doingsL (b : Nat) : List Dg := [⟨1, 76, #[pt b, pt (b + 1), pt (b + 2), pt (b + 3)]⟩, ⟨2, 78, #[pt (b + 2)]⟩, ⟨3, 79, #[pt b, pt (b + 1), pt (b + 2)]⟩, ⟨4, 76, #[pt b, pt (b + 1), pt (b + 2), pt (b + 3)]⟩]
/-- The four variables that closures of doings look at. -/
def Four (w : World) (b : Nat) (c h x : Int) (v : Value) (i : Int) (vx vw : Value) : Prop := NB w b c h x v ∧ CB w (b + 1) 3 (.int .i64 i) ∧ CB w (b + 2) 44 vx ∧ CB w (b + 3) 44 vw
theorem Four.below {w w' : World} {b : Nat} {c h x : Int} {v : Value} {i : Int} {vx vw : Value} (H : Four w b c h x v i vx vw) (hb : Below w.heap.size w w') : Four w' b c h x v i vx vw :=
  ⟨H.1.below hb, H.2.1.below hb, H.2.2.1.below hb, H.2.2.2.below hb⟩
theorem new_at {w : World} {o : Obj} {k : Nat} (h : k = w.heap.size) : (w.alloc o).heap[k]? = some o := by subst h; exact heap_alloc_new w o
theorem cb_new (w : World) (T : Nat) (v : Value) : CB (w.alloc (.cells #[v] T)) w.heap.size T v := heap_alloc_new w _
theorem cb_alloc {w : World} {b T : Nat} {v : Value} (H : CB w b T v) (o : Obj) : CB (w.alloc o) b T v := (Lib.alloc_old w o b H.lt).trans H
theorem Four.new (w : World) (c h x : Int) (v : Value) (i : Int) (vx vw : Value) :
    Four ((((w.alloc (.cells #[.int .i64 c, .int .i64 h, .int .i64 x, v] 26)).alloc (.cells #[.int .i64 i] 3)).alloc (.cells #[vx] 44)).alloc (.cells #[vw] 44)) w.heap.size c h x v i vx vw := by
  refine ⟨(((NB.new w c h x v).alloc _).alloc _).alloc _, ?_, ?_, ?_⟩
  · have := cb_alloc (cb_alloc (cb_new (w.alloc (.cells #[.int .i64 c, .int .i64 h, .int .i64 x, v] 26)) 3 (.int .i64 i)) (.cells #[vx] 44)) (.cells #[vw] 44)
    rwa [show (w.alloc (.cells #[.int .i64 c, .int .i64 h, .int .i64 x, v] 26)).heap.size = w.heap.size + 1 by simp] at this
  · have := cb_alloc (cb_new ((w.alloc (.cells #[.int .i64 c, .int .i64 h, .int .i64 x, v] 26)).alloc (.cells #[.int .i64 i] 3)) 44 vx) (.cells #[vw] 44)
    rwa [show ((w.alloc (.cells #[.int .i64 c, .int .i64 h, .int .i64 x, v] 26)).alloc (.cells #[.int .i64 i] 3)).heap.size = w.heap.size + 2 by simp] at this
  · have := cb_new (((w.alloc (.cells #[.int .i64 c, .int .i64 h, .int .i64 x, v] 26)).alloc (.cells #[.int .i64 i] 3)).alloc (.cells #[vx] 44)) 44 vw
    rwa [show (((w.alloc (.cells #[.int .i64 c, .int .i64 h, .int .i64 x, v] 26)).alloc (.cells #[.int .i64 i] 3)).alloc (.cells #[vx] 44)).heap.size = w.heap.size + 3 by simp] at this

set_option maxHeartbeats 1000000 in
set_option maxRecDepth 100000 in
theorem doings_any (c h x : Int) (A : Option Addr) (cA n : Nat) (i : Int) (X W : Option Addr) (cX nx cW nw : Nat) (w : World) :
    Calls Try.prog 61 #[.agg #[.int .i64 c, .int .i64 h, .int .i64 x, .slice A n cA], .int .i64 i, .slice X nx cX, .slice W nw cW] w fun e w' => ∃ g : Nat, e = .returned (.slice (some ⟨g, 0, none⟩) 4 4) ∧ Rg dcells w' (some ⟨g, 0, none⟩) (doingsL w.heap.size) ∧ Four w' w.heap.size c h x (.slice A n cA) i (.slice X nx cX) (.slice W nw cW) ∧ Below w.heap.size w w' := by
  have hmf : ∀ (fn : Fn) (first cap : Array Value) (w : World), (Instr.makeFunc fn first cap).run Try.prog w = .ok (.func fn first cap) w := fun _ _ _ _ => rfl
  have F4 := Lib.hid (Four.new w c h x (.slice A n cA) i (.slice X nx cX) (.slice W nw cW))
  go_enter Try.func61, Try.ntmps61
  go_wp2_with fail
  go_ret
  refine ⟨_, rfl, rg_block (new_at (by simp)) (by rfl), F4.out.below ((Below.refl _ _).alloc (Nat.le_refl _) _), ?_⟩
  repeat first | exact Below.refl _ _ | refine chain_alloc ?_ _

set_option maxHeartbeats 1000000 in
set_option maxRecDepth 100000 in
theorem same_kind (bn bi : Nat) (c h x : Int) (A : Option Addr) (cA n : Nat) (ls : List Ly) (i : Nat) (l : Ly) (d : Dg) (w : World) (hx : Rl w A ls) (hl : ls[i]? = some l) (hn : i < n) (hN : NB w bn c h x (.slice A n cA)) (hI : CB w bi 3 (.int .i64 (i : Int))) :
    Calls Try.prog 63 #[.agg #[.int .i64 d.k, .func (.func d.f) #[] d.caps], pt bn, pt bi] w fun e w' => e = .returned (.bool (d.k == l.k)) ∧ Below w.heap.size w w' := by
  obtain ⟨c0, c1, c2, c3⟩ := hN.cells
  have ci := hI.cell
  have lN := hN.lt
  have lI := hI.lt
  obtain ⟨b, o, rfl, lb, q⟩ := hx (by have := (List.getElem?_eq_some_iff.1 hl).1; omega)
  have hil := (List.getElem?_eq_some_iff.1 hl).1
  have hle : ls.getD i Ly.z = l := Option.some.inj ((get_ly hil).symm.trans hl)
  obtain ⟨q0, q1, q2, q3⟩ := q i hil
  rw [hle] at q0 q1 q2 q3
  have ii : (i : Int) < (n : Int) := by omega
  clear q hl hx hN hI hle hil
  unfold pt
  go_enter Try.func63, Try.ntmps63
  go_wp2_with fail
  go_quiet (fail)
  go_wp2_with fail
  go_ret
  exact ⟨rfl, below_drewN (chain_alloc (Below.refl _ w) _) _⟩

theorem same_kind_is (bn bi : Nat) (c h x : Int) (A : Option Addr) (cA n : Nat) (ls : List Ly) (i : Nat) (l : Ly) (d : Dg) (r : Bool) (hr : (d.k == l.k) = r) (w : World) (hx : Rl w A ls) (hl : ls[i]? = some l) (hn : i < n) (hN : NB w bn c h x (.slice A n cA)) (hI : CB w bi 3 (.int .i64 (i : Int))) :
    Calls Try.prog 63 #[.agg #[.int .i64 d.k, .func (.func d.f) #[] d.caps], pt bn, pt bi] w fun e w' => e = .returned (.bool r) ∧ Below w.heap.size w w' := by
  subst hr
  exact same_kind bn bi c h x A cA n ls i l d w hx hl hn hN hI

set_option maxHeartbeats 1000000 in
set_option maxRecDepth 100000 in
theorem index_any (bn bi : Nat) (c h x : Int) (A : Option Addr) (cA n : Nat) (ls : List Ly) (i : Nat) (l : Ly) (g m t : Nat) (ds : List Dg) (w : World) (hx : Rl w A ls) (hl : ls[i]? = some l) (hn : i < n) (hN : NB w bn c h x (.slice A n cA)) (hI : CB w bi 3 (.int .i64 (i : Int)))
    (hd : Rg dcells w (some ⟨g, 0, none⟩) ds) (hm : m = ds.length) (hm1 : m ≤ 1000) (ht : t < m) (hne : ∀ j, j < t → ∀ d, ds[j]? = some d → (d.k == l.k) = false) (hyes : ∀ d, ds[t]? = some d → (d.k == l.k) = true) :
    Calls Try.prog 62 #[.slice (some ⟨g, 0, none⟩) m m, .func (.func 63) #[] #[pt bn, pt bi]] w fun e w' => e = .returned (.int .i64 (t : Int)) ∧ Below w.heap.size w w' := by
  have HX := Lib.hid hx; have HL := Lib.hid hl; have NN := Lib.hid hN; have CI := Lib.hid hI; have HD := Lib.hid hd; have HM := Lib.hid hm; have NE := Lib.hid hne; have YES := Lib.hid hyes
  clear hx hl hN hI hd hm hne hyes
  have hn' := Lib.hid hn
  clear hn
  go_enter Try.func62, Try.ntmps62
  go_wp2_with fail
  go_loopg [5, 8] m (fun gh _ s8 wx => ∃ k : Nat, k ≤ t ∧ Hid (gh = m - k) ∧ s8 = .int .i64 (k : Int) ∧ Hid (Below w.heap.size w wx))
  case atStart => exact ⟨0, by omega, by show _ = _; omega, rfl, Below.refl _ _⟩
  case round =>
    obtain ⟨k, hk, HG, rfl, BK⟩ := hrel
    have ki : (k : Int) < (m : Int) := by omega
    obtain ⟨b1, o1, e1, l1, q1⟩ := HD.out (by rw [← HM.out]; omega)
    injection e1 with e1
    injection e1 with e2 e3 e4
    subst e2 e3
    obtain ⟨d, hd⟩ : ∃ d, ds[k]? = some d := ⟨_, List.getElem?_eq_getElem (by rw [← HM.out]; omega)⟩
    obtain ⟨y0, y1⟩ := d_cells q1 hd
    rw [Nat.zero_add] at y0 y1
    have z0 := (BK.out.cell (p := ⟨g, k * 2, none⟩) l1).trans y0
    have z1 := (BK.out.cell (p := ⟨g, k * 2 + 1, none⟩) l1).trans y1
    have HDD := Lib.hid hd
    clear y0 y1 q1 hd e4
    by_cases kt : k < t
    · have RF := Lib.hid (NE.out k kt d HDD.out)
      go_wp2_with fail
      refine (same_kind_is bn bi c h x A cA n ls i l d false RF.out _ (HX.out.below BK.out) HL.out hn'.out (NN.out.below BK.out) (CI.out.below BK.out)).mono ?_
      rintro e w2 ⟨rfl, hb⟩
      have B2 := Lib.hid (chain BK.out hb)
      clear hb
      go_wp2_with fail
      go_roundg (m - (k + 1))
      case measure => have := HG.out; omega
      case rel => exact ⟨k + 1, by omega, rfl, by go_num, B2⟩
    · obtain rfl : k = t := by omega
      have RT := Lib.hid (YES.out d HDD.out)
      go_wp2_with fail
      refine (same_kind_is bn bi c h x A cA n ls i l d true RT.out _ (HX.out.below BK.out) HL.out hn'.out (NN.out.below BK.out) (CI.out.below BK.out)).mono ?_
      rintro e w2 ⟨rfl, hb⟩
      have B2 := Lib.hid (chain BK.out hb)
      clear hb
      go_wp2_with fail
      go_ret
      exact ⟨rfl, B2.out⟩

/-! ### Which closure -/
theorem aw_le {c h x : Int} {ls : List Ly} (e : errN ⟨c, h, x, ls⟩ = 0) {j : Nat} (hj : j < ls.length) : (atN ⟨c, h, x, ls⟩ (j : Nat)).a + (atN ⟨c, h, x, ls⟩ (j : Nat)).w ≤ totW (knN ⟨c, h, x, ls⟩) := by
  have hl := get_ly hj
  rw [(tots e).1, at_some e hl]
  show sumW ⟨c, h, x⟩ (ls.take j) + wI (endS ⟨c, h, x⟩ (ls.take j)) (ls.getD j Ly.z) ≤ _
  obtain ⟨r, f3, t, _⟩ := ok_all e
  have r : (⟨c, h, x⟩ : Sh).r = true := r
  have h2 : sumW ⟨c, h, x⟩ (ls.take (j + 1)) = sumW ⟨c, h, x⟩ (ls.take j) + wI (endS ⟨c, h, x⟩ (ls.take j)) (ls.getD j Ly.z) := by
    rw [List.take_add_one, hl, Option.toList, w_app]
    show _ + (_ + 0) = _
    omega
  have h1 := (List.take_append_drop (j + 1) ls).symm
  have a1 := f3
  have t1 := t
  rw [h1] at a1 t1
  rw [fit_app, Bool.and_eq_true] at t1
  obtain ⟨q1, q2⟩ := all_parts a1
  have h3 := (sums_nn (end_right _ _ r q1 t1.1) q2 t1.2).1
  have h4 : sumW ⟨c, h, x⟩ ls = sumW ⟨c, h, x⟩ (ls.take (j + 1)) + sumW (endS ⟨c, h, x⟩ (ls.take (j + 1))) (ls.drop (j + 1)) := by
    rw [← w_app, List.take_append_drop]
  omega
theorem parts_rng {K : Kn} (g : Good K) {p : Int} (hp : hasK K p = true) : (partsK K p).length ≤ 5000 ∧ ∀ t ∈ partsK K p, 0 ≤ t ∧ t < K.i.n := by
  unfold partsK
  by_cases k3 : K.l.k = 3
  · rw [if_pos k3]
    obtain ⟨s1, d1, d2, hu⟩ := g.pool k3
    obtain ⟨r1, r2, r3, r4, r5, r6, _⟩ := right_bd g.2.1
    obtain ⟨⟨c0, c1⟩, ⟨y0, y1⟩, ⟨x0, x1⟩⟩ := of_bd (s := K.u) hp
    have hc : K.u.c = K.i.c := by rw [hu]
    have hh : K.u.h = K.i.h / K.l.s := by rw [hu]
    have hx : K.u.x = K.i.x / K.l.s := by rw [hu]
    have s12 : K.l.s ≤ 12 := by
      by_cases hle : K.l.s ≤ K.i.h
      · omega
      · rw [Int.emod_eq_of_lt (by omega) (by omega)] at d1; omega
    have fit : ∀ {H y : Int}, H % K.l.s = 0 → y < H / K.l.s → ∀ r : Nat, (r : Int) < K.l.s → y * K.l.s + r < H := fun {H y} hd hy r hr => by
      have a : (y + 1) * K.l.s ≤ H / K.l.s * K.l.s := Int.mul_le_mul_of_nonneg_right (by omega) (by omega)
      have b : H / K.l.s * K.l.s ≤ H := Int.ediv_mul_le _ (by omega)
      rw [Int.add_mul, Int.one_mul] at a
      omega
    refine ⟨?_, fun t ht => ?_⟩
    · unfold winL
      rw [win_len]
      have : K.l.s.toNat * K.l.s.toNat ≤ 12 * 12 := Nat.mul_le_mul (by omega) (by omega)
      omega
    · obtain ⟨r, q, hr, hq, rfl⟩ := win_mem.1 ht
      have m1 := Int.mul_nonneg y0 (show 0 ≤ K.l.s by omega)
      have m2 := Int.mul_nonneg x0 (show 0 ≤ K.l.s by omega)
      exact at_in_bd (insideB_yes g.2.1 ⟨by omega, by omega, by omega, fit d1 (by omega) r (by omega), by omega, fit d2 (by omega) q (by omega)⟩)
  · rw [if_neg k3]; exact ⟨by simp, fun t ht => by simp at ht⟩

set_option maxHeartbeats 1000000 in
set_option maxRecDepth 100000 in
theorem sel (b : Nat) (c h x : Int) (A X W : Option Addr) (cA n cX nx cW nw : Nat) (ls : List Ly) (xs ws : List UInt64) (i : Nat) (K : Kn)
    (ln : n = ls.length) (hn : n ≤ 1000) (lx : nx = xs.length) (lw : nw = ws.length) (hE : errN ⟨c, h, x, ls⟩ = 0) (hi : i < n) (hK : K = atN ⟨c, h, x, ls⟩ (i : Nat)) (hxn : (nx : Int) = K.i.n) (hwn : (nw : Int) = totW (knN ⟨c, h, x, ls⟩)) :
    ∃ (t F : Nat) (caps : Array Value), t < 4 ∧ (doingsL b)[t]? = some ⟨K.l.k, F, caps⟩ ∧ (∀ j, j < t → ∀ d, (doingsL b)[j]? = some d → (d.k == K.l.k) = false) ∧ (∀ args w, Sem.run Try.prog (callFunc F args) w = .ok (.enter F args) w) ∧
      ∀ (p : Nat) (w' : World), (p : Int) < K.u.n → Four w' b c h x (.slice A n cA) (i : Int) (.slice X nx cX) (.slice W nw cW) → Rl w' A ls → Rg ucells w' X xs → Rg ucells w' W ws →
        Calls Try.prog F (#[.int .i64 (p : Int)] ++ caps) w' fun e w'' => e = .returned (.int .u64 (uz (numK K xs ws (p : Nat)))) ∧ Below w'.heap.size w' w'' := by
  have g : Good K := by rw [hK]; exact good_at (isB_yes ⟨hE, by omega, by show (i : Int) < (ls.length : Int); omega⟩)
  have haw : K.a + K.w ≤ (nw : Int) := by rw [hwn, hK]; exact aw_le hE (by omega)
  have prod : K.l.k ≠ 2 → K.l.k ≠ 3 → ∀ (p : Nat) (w' : World), (p : Int) < K.u.n → Four w' b c h x (.slice A n cA) (i : Int) (.slice X nx cX) (.slice W nw cW) → Rl w' A ls → Rg ucells w' X xs → Rg ucells w' W ws →
        Calls Try.prog 76 (#[.int .i64 (p : Int)] ++ #[pt b, pt (b + 1), pt (b + 2), pt (b + 3)]) w' fun e w'' => e = .returned (.int .u64 (uz (numK K xs ws (p : Nat)))) ∧ Below w'.heap.size w' w'' := fun k2 k3 p w' hp F4 hl hX hW => by
    have hh : hasK K (p : Nat) = true := has_yes (by omega) hp
    have hlen := terms_len g (p : Nat)
    have hper := per_bd g
    have := products_clo b (b + 1) (b + 2) (b + 3) c h x A X W cA n cX nx cW nw ls xs ws i p (termsK K (p : Nat)) w' hl ln hn hX lx hW lw (by have := hh; rw [hK] at this ⊢; exact termsN_is this) (by omega) (fun t ht => by
      obtain ⟨h1, h2, _, h4⟩ := terms_rng g hh t ht
      have := h4 (w_yes g k2 k3)
      have := g.2.2.2.2.1
      omega) F4.1 F4.2.1 F4.2.2.1 F4.2.2.2
    have en : numK K xs ws (p : Nat) = sumU ((termsK K (p : Nat)).map (termU xs ws)) := by unfold numK; rw [if_neg k2, if_neg k3]
    rw [en]
    exact this
  rcases g.kind with k | k | k | k
  · exact ⟨0, 76, _, by omega, by rw [k]; rfl, fun j hj => absurd hj (by omega), by intro args w; go_simp, prod (by omega) (by omega)⟩
  · refine ⟨1, 78, _, by omega, by rw [k]; rfl, fun j hj d hd => ?_, by intro args w; go_simp, fun p w' hp F4 hl hX hW => ?_⟩
    · obtain rfl : j = 0 := by omega
      have hd := (Option.some.inj hd).symm
      rw [hd, k]; rfl
    · have hu := g.square k
      have en : numK K xs ws (p : Nat) = ug xs (p : Nat) * ug xs (p : Nat) := by unfold numK; rw [if_pos k]
      rw [en]
      exact square_clo (b + 2) X cX nx xs p w' hX lx (by rw [hu] at hp; omega) F4.2.2.1
  · refine ⟨2, 79, _, by omega, by rw [k]; rfl, fun j hj d hd => ?_, by intro args w; go_simp, fun p w' hp F4 hl hX hW => ?_⟩
    · have : j = 0 ∨ j = 1 := by omega
      rcases this with rfl | rfl
      · have hd := (Option.some.inj hd).symm
        rw [hd, k]; rfl
      · have hd := (Option.some.inj hd).symm
        rw [hd, k]; rfl
    · have hh : hasK K (p : Nat) = true := has_yes (by omega) hp
      obtain ⟨p1, p2⟩ := parts_rng g hh
      have en : numK K xs ws (p : Nat) = sumU ((partsK K (p : Nat)).map (ug xs)) := by unfold numK; rw [if_neg (show ¬ K.l.k = 2 by omega), if_pos k]
      rw [en]
      exact parts_clo b (b + 1) (b + 2) c h x A X cA n cX nx ls xs i p (partsK K (p : Nat)) w' hl ln hn hX lx (by have := hh; rw [hK] at this ⊢; exact if_pos this) p1 (fun t ht => by have := p2 t ht; omega) F4.1 F4.2.1 F4.2.2.1
  · refine ⟨3, 76, _, by omega, by rw [k]; rfl, fun j hj d hd => ?_, by intro args w; go_simp, prod (by omega) (by omega)⟩
    have : j = 0 ∨ j = 1 ∨ j = 2 := by omega
    rcases this with rfl | rfl | rfl
    · have hd := (Option.some.inj hd).symm
      rw [hd, k]; rfl
    · have hd := (Option.some.inj hd).symm
      rw [hd, k]; rfl
    · have hd := (Option.some.inj hd).symm
      rw [hd, k]; rfl

end Go.Proofs.Ytbcmhoomdackkaa

namespace Go.Proofs.Ytbcmhoomdackkaa
open Go.RowKit

theorem Try.info51 : (Try.prog.info? 51).map (fun i => (i.zero, i.size, i.bytes)) = some (some (.int .u64 0), 1, 8) := by kernel_rfl
/-- A row of numbers that is being filled. -/
def UB (w : World) (g : Nat) (us : List UInt64) (k : Nat) : Prop :=
  ∃ cs : Array Value, w.heap[g]? = some (.cells cs 51 (0, 0)) ∧ cs.size = us.length ∧ (∀ j, j < us.length → ∃ v, cs[j]? = some (.int .u64 v)) ∧ ∀ j u, j < k → us[j]? = some u → cs[j]? = some (.int .u64 (uz u))
theorem UB.start (w : World) (us : List UInt64) : UB (w.alloc (.cells (madeCells #[.int .u64 0] us.length) 51)) w.heap.size us 0 := by
  refine ⟨_, heap_alloc_new w _, size_madeCells _ _, fun j hj => ⟨0, ?_⟩, fun j u hj => absurd hj (by omega)⟩
  simp [madeCells, hj, Nat.mod_one]
theorem UB.lt {w : World} {g k : Nat} {us : List UInt64} (h : UB w g us k) : g < w.heap.size := by
  obtain ⟨cs, h1, _⟩ := h
  exact (Array.getElem?_eq_some_iff.1 h1).1
theorem UB.below {w w' : World} {g k : Nat} {us : List UInt64} (h : UB w g us k) (hb : Below w.heap.size w w') : UB w' g us k := by
  have hl := h.lt
  obtain ⟨cs, h1, h2⟩ := h
  exact ⟨cs, (hb.block g hl).trans h1, h2⟩
theorem UB.facts {w : World} {g k : Nat} {us : List UInt64} (h : UB w g us k) (hk : k < us.length) :
    (∃ v, w.cell? ⟨g, k, none⟩ = some (.int .u64 v)) ∧ w.frozen? ⟨g, k, none⟩ = false := by
  obtain ⟨cs, h1, h2, h3, _⟩ := h
  refine ⟨?_, Lib.frozen_of_heap h1 _⟩
  rw [Lib.cell_of_heap h1]; exact h3 _ hk
theorem UB.step {w : World} {g k : Nat} {us : List UInt64} {u : UInt64} (h : UB w g us k) (hk : us[k]? = some u) : UB (w.setCell ⟨g, k, none⟩ (.int .u64 (uz u))) g us (k + 1) := by
  have hl := (List.getElem?_eq_some_iff.1 hk).1
  obtain ⟨cs, h1, h2, h3, h4⟩ := h
  refine ⟨_, Lib.heap_setCell_same h1 _, by simp [h2], fun j hj => ?_, fun j v hj hv => ?_⟩
  · by_cases e : j = k
    · subst e; exact ⟨_, by rw [Array.getElem?_setIfInBounds_self_of_lt (by omega)]⟩
    · obtain ⟨v, hv⟩ := h3 j hj
      exact ⟨v, by rw [Array.getElem?_setIfInBounds_ne (by omega)]; exact hv⟩
  · by_cases e : j = k
    · subst e
      rw [hk] at hv
      rw [Array.getElem?_setIfInBounds_self_of_lt (by omega), Option.some.inj hv]
    · rw [Array.getElem?_setIfInBounds_ne (by omega)]; exact h4 j v (by omega) hv
theorem UB.done {w : World} {g : Nat} {us : List UInt64} (h : UB w g us us.length) : Rg ucells w (some ⟨g, 0, none⟩) us := fun _ => by
  have hl := h.lt
  obtain ⟨cs, h1, h2, h3, h4⟩ := h
  refine ⟨g, 0, rfl, hl, fun j v hv => ?_⟩
  rw [Nat.zero_add, Lib.cell_of_heap h1]
  have hj : j < us.length := by
    have := (List.getElem?_eq_some_iff.1 hv).1
    rwa [flat_len ucells_len, Nat.mul_one] at this
  have g1 := flat_get ucells_len us j 0 _ (List.getElem?_eq_getElem hj) (by omega)
  rw [Nat.mul_one, Nat.add_zero, hv] at g1
  rw [g1, h4 j _ hj (List.getElem?_eq_getElem hj)]; rfl

set_option maxHeartbeats 4000000 in
set_option maxRecDepth 100000 in
theorem through_any (c h x : Int) (A X W : Option Addr) (cA n cX nx cW nw : Nat) (ls : List Ly) (xs ws : List UInt64) (i many : Nat) (K : Kn) (w : World)
    (hx : Rl w A ls) (ln : n = ls.length) (hn : n ≤ 1000) (hX : Rg ucells w X xs) (lx : nx = xs.length) (hW : Rg ucells w W ws) (lw : nw = ws.length) (hE : errN ⟨c, h, x, ls⟩ = 0) (hi : i < n) (hK : K = atN ⟨c, h, x, ls⟩ (i : Nat)) (hxn : (nx : Int) = K.i.n) (hwn : (nw : Int) = totW (knN ⟨c, h, x, ls⟩)) (hm : K.u.n = (many : Int)) :
    Calls Try.prog 47 #[.agg #[.int .i64 c, .int .i64 h, .int .i64 x, .slice A n cA], .int .i64 (i : Int), .int .i64 (many : Int), .slice X nx cX, .slice W nw cW] w (RowTo ucells (layK K xs ws) w) := by
  have ub := size_bd K.u
  have hm1 : many ≤ 128 := by omega
  have hl := get_ly (show i < ls.length by omega)
  have hlk : (ls.getD i Ly.z).k = K.l.k := by rw [hK, at_some hE hl]
  obtain ⟨us, hus⟩ : ∃ us, us = layK K xs ws := ⟨_, rfl⟩
  have hul : many = us.length := by rw [hus, lay_len]; omega
  have hug : ∀ p : Nat, p < many → us[p]? = some (numK K xs ws (p : Nat)) := fun p hp => by rw [hus]; exact lay_get (by omega)
  obtain ⟨t, F, caps, t4, hsel, hne, hF, hdo⟩ := sel (w.heap.size + 2) c h x A X W cA n cX nx cW nw ls xs ws i K ln hn lx lw hE hi hK hxn hwn
  obtain ⟨i0, hi0, hz0, hz1, hz2⟩ := info_parts Try.info51
  have hmk : ∀ w : World, (Instr.makeSlice 44 (.int .i64 (many : Int)) (.int .i64 (many : Int))).run Try.prog w = .ok (.slice (some ⟨w.heap.size, 0, none⟩) many many) (w.alloc (.cells (madeCells #[.int .u64 0] many) 51)) := fun w => by
    have := run_make (P := Try.prog) w 44 51 i0 _ Try.underlying44 hi0 hz0 .i64 .i64 (many : Int) (many : Int) (by omega) (Int.le_refl _) (by rw [hz2]; omega) (by omega)
    rw [hz1, Nat.mul_one] at this
    exact this
  have hmf : ∀ (fn : Fn) (first cap : Array Value) (w : World), (Instr.makeFunc fn first cap).run Try.prog w = .ok (.func fn first cap) w := fun _ _ _ _ => rfl
  rw [← hus]
  have HX := Lib.hid hx; have HXR := Lib.hid hX; have HWR := Lib.hid hW; have HL := Lib.hid hl; have HUL := Lib.hid hul; have HUG := Lib.hid hug
  have SEL := Lib.hid hsel; have NE := Lib.hid hne; have DO := Lib.hid hdo; have HLK := Lib.hid hlk; have HI := Lib.hid hi; have HM := Lib.hid hm
  have NI := Lib.hid ((NB.new w c h x (.slice A n cA)).alloc (.cells #[.int .i64 (i : Int)] 3))
  have CI : Hid (CB ((w.alloc (.cells #[.int .i64 c, .int .i64 h, .int .i64 x, .slice A n cA] 26)).alloc (.cells #[.int .i64 (i : Int)] 3)) (w.heap.size + 1) 3 (.int .i64 (i : Int))) := by
    have := cb_new (w.alloc (.cells #[.int .i64 c, .int .i64 h, .int .i64 x, .slice A n cA] 26)) 3 (.int .i64 (i : Int))
    rwa [show (w.alloc (.cells #[.int .i64 c, .int .i64 h, .int .i64 x, .slice A n cA] 26)).heap.size = w.heap.size + 1 by simp] at this
  have B0 : Hid (Below w.heap.size w ((w.alloc (.cells #[.int .i64 c, .int .i64 h, .int .i64 x, .slice A n cA] 26)).alloc (.cells #[.int .i64 (i : Int)] 3))) := below_two w _ _
  have sz : ((w.alloc (.cells #[.int .i64 c, .int .i64 h, .int .i64 x, .slice A n cA] 26)).alloc (.cells #[.int .i64 (i : Int)] 3)).heap.size = w.heap.size + 2 := by simp
  have SZ := Lib.hid sz
  clear hx ln hn hX lx hW lw hE hi hK hxn hwn hm hus hul hug hsel hne hdo hlk hl ub sz hi0 hz0 hz1 hz2
  go_enter Try.func47, Try.ntmps47
  go_wp2_with fail
  refine (doings_any c h x A cA n (i : Int) X W cX nx cW nw _).mono ?_
  rintro e w1 ⟨g, rfl, hD, hF4, hb1⟩
  rw [SZ.out] at hD hF4
  have B1 := Lib.hid (chain B0.out hb1)
  have N1 := Lib.hid (NI.out.below hb1)
  have C1 := Lib.hid (CI.out.below hb1)
  have D1 := Lib.hid hD; have F1 := Lib.hid hF4
  clear hD hF4 hb1 NI CI B0
  go_wp2_with fail
  refine (index_any w.heap.size (w.heap.size + 1) c h x A cA n ls i _ g 4 t _ _ (HX.out.below B1.out) HL.out HI.out N1.out C1.out D1.out rfl (by omega) t4 (by rw [HLK.out]; exact NE.out) (fun d hd => by rw [SEL.out] at hd; rw [← Option.some.inj hd, HLK.out]; simp)).mono ?_
  rintro e w2 ⟨rfl, hb2⟩
  have B2 := Lib.hid (chain B1.out hb2)
  have D2 := Lib.hid (D1.out.below hb2); have F2 := Lib.hid (F1.out.below hb2)
  clear hb2 B1 N1 C1 D1 F1
  go_wp2_with fail
  obtain ⟨q, hq⟩ : ∃ q, q = w2.heap.size := ⟨_, rfl⟩
  obtain ⟨V, hV⟩ : ∃ V, V = w2.alloc (.cells (madeCells #[.int .u64 0] many) 51) := ⟨_, rfl⟩
  have U0 : Hid (UB V q us 0) := by rw [hV, hq, HUL.out]; exact UB.start w2 us
  have B3 : Hid (Below w2.heap.size w2 V) := by rw [hV]; exact (Below.refl _ w2).alloc (Nat.le_refl _) _
  have qw : Hid (w2.heap.size ≤ q) := by rw [hq]; exact Nat.le_refl _
  rw [← hV, ← hq]
  clear hV hq
  go_loopg [14, 27] many (fun gh _ s27 wx => ∃ k : Nat, k ≤ many ∧ Hid (gh = many - k) ∧ s27 = .int .i64 (k : Int) ∧ Hid (UB wx q us k) ∧ Hid (Below w2.heap.size w2 wx))
  case atStart => exact ⟨0, by omega, by show _ = _; omega, rfl, U0, B3⟩
  case round =>
    obtain ⟨k, hk, HG, rfl, UK, BK⟩ := hrel
    by_cases km : k < many
    · have ki : (k : Int) < (many : Int) := by omega
      have ti : (t : Int) < (4 : Int) := by omega
      obtain ⟨b1, o1, e1, l1, q1⟩ := D2.out (by show 0 < 4; omega)
      injection e1 with e1
      injection e1 with e2 e3 e4
      subst e2 e3
      have y1 := (d_cells q1 SEL.out).2
      rw [Nat.zero_add] at y1
      have z1 := (BK.out.cell (p := ⟨g, t * 2 + 1, none⟩) l1).trans y1
      have BW := Lib.hid (chain B2.out BK.out)
      clear y1 q1 e4
      go_wp2_with fail
      refine (DO.out k _ (by rw [HM.out]; exact ki) (F2.out.below BK.out) (HX.out.below BW.out) (HXR.out.below BW.out) (HWR.out.below BW.out)).mono ?_
      rintro e w3 ⟨rfl, hb3⟩
      have U3 := Lib.hid (UK.out.below hb3)
      have B4 := Lib.hid (chain BK.out hb3)
      obtain ⟨⟨v, yv⟩, fz⟩ := U3.out.facts (by rw [← HUL.out]; exact km)
      obtain ⟨u, hu⟩ : ∃ u, u = numK K xs ws (k : Nat) := ⟨_, rfl⟩
      rw [← hu]
      have HU := Lib.hid (HUG.out k km)
      rw [← hu] at HU
      clear hb3 hu
      go_wp2_with fail
      go_roundg (many - (k + 1))
      case measure => have := HG.out; omega
      case rel => exact ⟨k + 1, by omega, rfl, by go_num, U3.out.step HU.out, B4.out.setCell (p := ⟨q, k, none⟩) qw.out _⟩
    · obtain rfl : k = many := by omega
      have UD : Hid (UB wr q us us.length) := by show UB _ _ _ _; rw [← HUL.out]; exact UK.out
      go_wp2_with fail
      go_ret
      exact ⟨some ⟨q, 0, none⟩, k, k, rfl, HUL.out, UD.out.done, chain B2.out BK.out, Nat.le_refl _, by unfold maxLen; omega⟩

end Go.Proofs.Ytbcmhoomdackkaa
