/-
  What package sector answers: read.
-/
import Derived.Test.YtjokaaekliapmaaDoorQPub2
namespace Go.Proofs.YtjokaaekliapmaaDoor
open Go.RowKit

/-- A number of 64 bits, with its sign. -/
def iw (n : Nat) : Int := IntKind.i64.wrap (n : Int)
theorem iw_zero : iw 0 = 0 := by kernel_rfl
theorem iw_small {n : Nat} (h : n < 9223372036854775808) : iw n = n := by unfold iw; rw [IntKind.wrap_i64]; omega
theorem iw_big {n : Nat} (h : 9223372036854775808 ≤ n) (h2 : n < 18446744073709551616) : iw n < 0 := by unfold iw; rw [IntKind.wrap_i64]; omega
theorem iw_or (q : Nat) (y : UInt8) : bits .or .i64 (IntKind.i64.wrap (iw q * 256)) (bz y) = iw (q * 256 + y.toNat) := by
  have hy := y.toNat_lt
  have e1 : BitVec.ofInt 64 (IntKind.i64.wrap (iw q * 256)) = BitVec.ofNat 64 (q * 256) := by
    apply BitVec.eq_of_toNat_eq
    rw [BitVec.toNat_ofInt, BitVec.toNat_ofNat]
    unfold iw
    rw [IntKind.wrap_i64, IntKind.wrap_i64]
    omega
  have e2 : BitVec.ofInt 64 (bz y) = BitVec.ofNat 64 y.toNat := by
    unfold bz
    rw [BitVec.ofInt_natCast]
  show IntKind.i64.wrap ((BitVec.ofInt 64 (IntKind.i64.wrap (iw q * 256)) ||| BitVec.ofInt 64 (bz y)).toNat : Int) = _
  rw [e1, e2, BitVec.toNat_or, BitVec.toNat_ofNat, BitVec.toNat_ofNat, Nat.mod_eq_of_lt (show y.toNat < 2 ^ 64 by omega)]
  have e3 : q * 256 % 2 ^ 64 = 2 ^ 8 * (q % 2 ^ 56) := by omega
  rw [e3, ← Nat.two_pow_add_eq_or_of_lt (show y.toNat < 2 ^ 8 by omega)]
  unfold iw
  rw [IntKind.wrap_i64, IntKind.wrap_i64]
  omega

/-- Five numbers in a variable. -/
def RC (w : World) (z : Nat) (f : Nat → Int) : Prop := ∃ cs : Array Value, w.heap[z]? = some (.cells cs 34 (0, 0)) ∧ cs.size = 5 ∧ ∀ q, q < 5 → cs[q]? = some (.int .i64 (f q))
theorem RC.lt {w : World} {z : Nat} {f : Nat → Int} (H : RC w z f) : z < w.heap.size := by
  obtain ⟨cs, h, _⟩ := H
  exact (Array.getElem?_eq_some_iff.1 h).1
theorem RC.new (w : World) : RC (w.alloc (.cells #[.int .i64 0, .int .i64 0, .int .i64 0, .int .i64 0, .int .i64 0] 34)) w.heap.size (fun _ => 0) :=
  ⟨_, heap_alloc_new w _, rfl, fun q hq => by
    match q, hq with
    | 0, _ => rfl
    | 1, _ => rfl
    | 2, _ => rfl
    | 3, _ => rfl
    | 4, _ => rfl⟩
theorem RC.cell {w : World} {z q : Nat} {f : Nat → Int} (H : RC w z f) (hq : q < 5) : w.cell? ⟨z, q, none⟩ = some (.int .i64 (f q)) ∧ w.frozen? ⟨z, q, none⟩ = false := by
  obtain ⟨cs, h1, h2, h3⟩ := H
  exact ⟨by rw [Lib.cell_of_heap h1]; exact h3 q hq, Lib.frozen_of_heap h1 q⟩
theorem RC.below {w w' : World} {z : Nat} {f : Nat → Int} (H : RC w z f) (hb : Below w.heap.size w w') : RC w' z f := by
  have lt := H.lt
  obtain ⟨cs, h1, h2, h3⟩ := H
  exact ⟨cs, (hb.block z lt).trans h1, h2, h3⟩
theorem RC.set {w : World} {z i : Nat} {f f' : Nat → Int} {v : Int} (H : RC w z f) (hi : i < 5) (hf : ∀ q, q < 5 → f' q = if q = i then v else f q) : RC (w.setCell ⟨z, i, none⟩ (.int .i64 v)) z f' := by
  obtain ⟨cs, h1, h2, h3⟩ := H
  refine ⟨_, Lib.heap_setCell_same h1 _, by simp [h2], fun q hq => ?_⟩
  rw [hf q hq]
  by_cases e : q = i
  · subst e
    rw [if_pos rfl, Array.getElem?_setIfInBounds_self_of_lt (by omega)]
  · rw [if_neg e, Array.getElem?_setIfInBounds_ne (fun h => e h.symm)]
    exact h3 q hq
theorem RC.other {w : World} {z : Nat} {f : Nat → Int} (a : Addr) (v : Value) (H : RC w z f) (h : z ≠ a.block) : RC (w.setCell a v) z f := by
  obtain ⟨cs, h1, h2, h3⟩ := H
  exact ⟨cs, (Below.heap_setCell w a v z h).trans h1, h2, h3⟩
/-- What has been read where j bytes of number i have been read. -/
def partR (b : List UInt8) (i j q : Nat) : Int := if q < i then iw (rdN ((b.drop (ofN q)).take (wdN q))) else if q = i then iw (rdN ((b.drop (ofN i)).take j)) else 0
theorem part_zero (b : List UInt8) : partR b 0 0 = fun _ => 0 := by
  funext q
  unfold partR
  rw [if_neg (by omega), List.take_zero]
  by_cases e : q = 0
  · rw [if_pos e]; exact iw_zero
  · rw [if_neg e]
theorem part_next (b : List UInt8) (i : Nat) : partR b i (wdN i) = partR b (i + 1) 0 := by
  funext q
  unfold partR
  rw [List.take_zero]
  by_cases e : q < i
  · rw [if_pos e, if_pos (by omega)]
  · rw [if_neg e]
    by_cases e2 : q = i
    · subst e2; rw [if_pos rfl, if_pos (by omega)]
    · rw [if_neg e2, if_neg (by omega)]
      by_cases e3 : q = i + 1
      · rw [if_pos e3]; exact iw_zero.symm
      · rw [if_neg e3]
theorem part_step (b : List UInt8) (i j : Nat) : ∀ q, q < 5 → partR b i (j + 1) q = if q = i then iw (rdN ((b.drop (ofN i)).take (j + 1))) else partR b i j q := fun q _ => by
  unfold partR
  by_cases e2 : q = i
  · subst e2; rw [if_neg (by omega), if_pos rfl, if_pos rfl]
  · rw [if_neg e2, if_neg e2, if_neg e2]
theorem part_here (b : List UInt8) (i j : Nat) : partR b i j i = iw (rdN ((b.drop (ofN i)).take j)) := by
  unfold partR
  rw [if_neg (by omega), if_pos rfl]
theorem part_done (b : List UInt8) {q : Nat} (hq : q < 5) : partR b 5 0 q = iw (rdN ((b.drop (ofN q)).take (wdN q))) := by
  unfold partR
  rw [if_pos hq]
theorem cut_up4 (g o r c m q s d : Nat) (h1 : o + m = q) (h2 : s + m = r) (h3 : 0 < d) (h4 : d + m = c) (h5 : s ≤ d) (w : World) : (Instr.slice 22 (.slice (some ⟨g, o, none⟩) r c) (some (.int .i64 (m : Int))) none none).run Tryd.prog w = .ok (.slice (some ⟨g, q, none⟩) s d) w := by
  subst h1 h2 h4
  have e1 : ¬ d + m = m := by omega
  have e2 : (m : Int) ≤ (s : Int) + (m : Int) := by omega
  have e3 : ¬ d = 0 := by omega
  have e4 : s + m ≤ d + m := by omega
  go_simp
theorem cut_to4 (g o r c m : Nat) (h1 : m ≤ r) (h2 : r ≤ c) (w : World) : (Instr.slice 22 (.slice (some ⟨g, o, none⟩) r c) none (some (.int .i64 (m : Int))) none).run Tryd.prog w = .ok (.slice (some ⟨g, o, none⟩) m c) w := by
  have : m ≤ c := by omega
  first | (go_simp; done) | (go_simp; intro hh; omega)
def ReadTo (b : List UInt8) (bA oA cA : Nat) (w : World) (e : Ending) (w' : World) : Prop :=
  e = .returned (.tuple #[.agg #[.int .i64 (partR b 5 0 0), .int .i64 (partR b 5 0 1), .int .i64 (partR b 5 0 2), .int .i64 (partR b 5 0 3), .int .i64 (partR b 5 0 4)], .slice (some ⟨bA, oA + 14, none⟩) 50 (cA - 14)]) ∧ Below w.heap.size w w'

theorem RC.sets {w w0 : World} {z : Nat} {f : Nat → Int} (v0 v1 v2 v3 v4 : Int) (H : RC w z f) (hb : Below w0.heap.size w0 w) (hz : w0.heap.size ≤ z) : RC (((((w.setCell ⟨z, 0, none⟩ (.int .i64 v0)).setCell ⟨z, 1, none⟩ (.int .i64 v1)).setCell ⟨z, 2, none⟩ (.int .i64 v2)).setCell ⟨z, 3, none⟩ (.int .i64 v3)).setCell ⟨z, 4, none⟩ (.int .i64 v4)) z (fun q => [v0, v1, v2, v3, v4].getD q 0) ∧ Below w0.heap.size w0 (((((w.setCell ⟨z, 0, none⟩ (.int .i64 v0)).setCell ⟨z, 1, none⟩ (.int .i64 v1)).setCell ⟨z, 2, none⟩ (.int .i64 v2)).setCell ⟨z, 3, none⟩ (.int .i64 v3)).setCell ⟨z, 4, none⟩ (.int .i64 v4)) := by
  refine ⟨?_, below_sets5 hb hz _ _ _ _ _⟩
  refine RC.set (f := fun q => if q = 3 then v3 else if q = 2 then v2 else if q = 1 then v1 else if q = 0 then v0 else f q) (RC.set (f := fun q => if q = 2 then v2 else if q = 1 then v1 else if q = 0 then v0 else f q) (RC.set (f := fun q => if q = 1 then v1 else if q = 0 then v0 else f q) (RC.set (f := fun q => if q = 0 then v0 else f q) (RC.set H (by decide) (fun _ _ => rfl)) (by decide) (fun _ _ => rfl)) (by decide) (fun _ _ => rfl)) (by decide) (fun _ _ => rfl)) (by decide) (fun q hq => ?_)
  match q, hq with
  | 0, _ => rfl
  | 1, _ => rfl
  | 2, _ => rfl
  | 3, _ => rfl
  | 4, _ => rfl
theorem read_end {w wr : World} {zr : Nat} {f : Nat → Int} {vs : Value} {tmps : Array Value} {Q : Ending → World → Prop} (H : RC wr zr f) (hB : Below w.heap.size w wr) (hz : w.heap.size ≤ zr) (v0 v1 v2 v3 v4 : Int) (hq : ∀ w', Below w.heap.size w w' → Q (.returned (.tuple #[.agg #[.int .i64 v0, .int .i64 v1, .int .i64 v2, .int .i64 v3, .int .i64 v4], vs])) w') (h2 : tmps.getD 2 undef = .pointer (some ⟨zr, 0, none⟩) := by rfl) (h3 : tmps.getD 3 undef = vs := by rfl) :
    bodyPost Tryd.prog Tryd.f17 Q .ret { tmps := tmps, defers := [] } (((((wr.setCell ⟨zr, 0, none⟩ (.int .i64 v0)).setCell ⟨zr, 1, none⟩ (.int .i64 v1)).setCell ⟨zr, 2, none⟩ (.int .i64 v2)).setCell ⟨zr, 3, none⟩ (.int .i64 v3)).setCell ⟨zr, 4, none⟩ (.int .i64 v4)) := by
  obtain ⟨h5, h6⟩ := RC.sets v0 v1 v2 v3 v4 H hB hz
  generalize (((((wr.setCell ⟨zr, 0, none⟩ (.int .i64 v0)).setCell ⟨zr, 1, none⟩ (.int .i64 v1)).setCell ⟨zr, 2, none⟩ (.int .i64 v2)).setCell ⟨zr, 3, none⟩ (.int .i64 v3)).setCell ⟨zr, 4, none⟩ (.int .i64 v4)) = V at h5 h6 ⊢
  have y0 : V.cell? ⟨zr, 0, none⟩ = some (.int .i64 v0) := (h5.cell (q := 0) (by decide)).1
  have y1 : V.cell? ⟨zr, 1, none⟩ = some (.int .i64 v1) := (h5.cell (q := 1) (by decide)).1
  have y2 : V.cell? ⟨zr, 2, none⟩ = some (.int .i64 v2) := (h5.cell (q := 2) (by decide)).1
  have y3 : V.cell? ⟨zr, 3, none⟩ = some (.int .i64 v3) := (h5.cell (q := 3) (by decide)).1
  have y4 : V.cell? ⟨zr, 4, none⟩ = some (.int .i64 v4) := (h5.cell (q := 4) (by decide)).1
  have h2' : tmps[2]?.getD undef = .pointer (some ⟨zr, 0, none⟩) := by simpa using h2
  have h3' : tmps[3]?.getD undef = vs := by simpa using h3
  exact bodyPost_ret (v := .tuple #[.agg #[.int .i64 v0, .int .i64 v1, .int .i64 v2, .int .i64 v3, .int .i64 v4], vs]) (by simp [results, Tryd.results17, go_sem, h2', h3', y0, y1, y2, y3, y4]) rfl (hq V h6)

set_option maxHeartbeats 4000000 in
set_option maxRecDepth 100000 in
theorem read16 (bA oA cA : Nat) (b : List UInt8) (w : World) (hr : Rg bcells w (some ⟨bA, oA, none⟩) b) (hl : b.length = 64) (hc : 64 ≤ cA) (hT : Wd w := by first | assumption | exact Hid.out (by assumption) | exact Wd.below (Hid.out (by assumption)) (Hid.out (by assumption)) | exact Wd.below (by assumption) (Hid.out (by assumption))) :
    Calls Tryd.prog 17 #[.slice (some ⟨bA, oA, none⟩) 64 cA] w (ReadTo b bA oA cA w) := by
  have HR := Lib.hid hr; have HL := Lib.hid hl; have HCA := Lib.hid hc; have HT := Lib.hid hT
  have al := arr5
  clear hr hl hc hT
  go_enter Tryd.func17, Tryd.ntmps17
  go_wp2_with fail
  have R1 := RC.new w
  have hb := chain_alloc (Below.refl _ w) (.cells #[.int .i64 0, .int .i64 0, .int .i64 0, .int .i64 0, .int .i64 0] 34)
  obtain ⟨zr, hzr⟩ : ∃ z, z = w.heap.size := ⟨_, rfl⟩
  obtain ⟨zn, hzn⟩ : ∃ z, z = w.heap.size + 1 := ⟨_, rfl⟩
  have R2 := RC.new (w.alloc (.cells #[.int .i64 0, .int .i64 0, .int .i64 0, .int .i64 0, .int .i64 0] 34))
  rw [show (w.alloc (.cells #[.int .i64 0, .int .i64 0, .int .i64 0, .int .i64 0, .int .i64 0] 34)).heap.size = zn by rw [hzn]; simp, ← part_zero b] at R2
  have hb2 := chain_alloc hb (.cells #[.int .i64 0, .int .i64 0, .int .i64 0, .int .i64 0, .int .i64 0] 34)
  replace R1 := R1.below (chain_alloc (Below.refl _ _) (.cells #[.int .i64 0, .int .i64 0, .int .i64 0, .int .i64 0, .int .i64 0] 34))
  rw [← hzr] at R1
  have NE : Hid (¬ zn = zr ∧ w.heap.size ≤ zr ∧ w.heap.size ≤ zn) := ⟨by omega, by omega, by omega⟩
  rw [← hzn, ← hzr]
  generalize (w.alloc (.cells #[.int .i64 0, .int .i64 0, .int .i64 0, .int .i64 0, .int .i64 0] 34)).alloc (.cells #[.int .i64 0, .int .i64 0, .int .i64 0, .int .i64 0, .int .i64 0] 34) = w1 at R1 R2 hb2 ⊢
  have RR := Lib.hid R1; have RN := Lib.hid R2; have B1 := Lib.hid hb2
  clear R1 R2 hb hb2 hzr hzn
  go_loopg [0, 8] 5 (fun gh s0 s8 wr => ∃ i o r c : Nat, i ≤ 5 ∧ Hid (gh = 5 - i) ∧ Hid (o = ofN i) ∧ Hid (r + o = 64) ∧ Hid (c + o = cA) ∧ s8 = .int .i64 (i : Int) ∧ s0 = .slice (some ⟨bA, oA + o, none⟩) r c ∧ Hid (RC wr zn (partR b i 0)) ∧ Hid (RC wr zr fun _ => 0) ∧ Hid (Below w.heap.size w wr))
  case atStart => exact ⟨0, 0, 64, cA, by omega, rfl, rfl, rfl, rfl, rfl, rfl, RN, RR, B1⟩
  case round =>
    clear RR RN B1
    obtain ⟨i, o, r, c, hi5, HG, HO, HRO, HCO, rfl, rfl, RN, RR, BK⟩ := hrel
    by_cases i5 : i < 5
    · have ii : (i : Int) < 5 := by omega
      have ia : (0 : Int) ≤ (i : Int) := by omega
      obtain ⟨z1, z2, z3, z4⟩ := of_next i5
      obtain ⟨m, hm⟩ : ∃ m, m = wdN i := ⟨_, rfl⟩
      have w0c := ((HT.out.below BK.out).cell i5)
      rw [← hm] at z1 z2 z3 w0c
      have HM := Lib.hid hm
      have mr : m ≤ r := by have := HRO.out; have := HO.out; omega
      have rc : r ≤ c := by have := HRO.out; have := HCO.out; have := HCA.out; omega
      have st := cut_to4 bA (oA + o) r c m mr rc
      have MR := Lib.hid mr; have RC0 := Lib.hid rc
      have HB : Hid (m = ((b.drop o).take m).length ∧ ∀ v, Below w.heap.size w v → Rg bcells v (some ⟨bA, oA + o, none⟩) ((b.drop o).take m)) := ⟨by rw [List.length_take, List.length_drop, HL.out]; have := HRO.out; omega, fun v hv => rg_cut16 (HR.out.below hv) o m⟩
      have Z1 := Lib.hid z1; have Z4 := Lib.hid z4; have I5 := Lib.hid i5
      have M1 := Lib.hid z2; have M8 := Lib.hid z3
      clear z1 z4 hm i5 z2 z3 mr rc
      go_wp2_with fail
      clear w0c st
      go_loopg [17] m (fun gh s17 wx => ∃ j : Nat, j ≤ m ∧ Hid (gh = m - j) ∧ s17 = .int .i64 (j : Int) ∧ Hid (RC wx zn (partR b i j)) ∧ Hid (RC wx zr fun _ => 0) ∧ Hid (Below w.heap.size w wx))
      case atStart => exact ⟨0, by omega, by show _ = _; omega, rfl, RN, RR, BK⟩
      case round =>
        clear RN RR BK
        obtain ⟨j, hjm, HG2, rfl, RN, RR, BK⟩ := hrel
        by_cases jn : j < m
        · have ji : (j : Int) < (m : Int) := by omega
          have ja : (0 : Int) ≤ (j : Int) := by omega
          obtain ⟨b1, o1, e1, l1, q1⟩ := (HB.out.2 _ BK.out) (by rw [← HB.out.1]; omega)
          have e1 := Option.some.inj e1
          simp only [Addr.mk.injEq] at e1
          obtain ⟨rfl, rfl, _⟩ := e1
          obtain ⟨y, gy⟩ : ∃ y, ((b.drop o).take m)[j]? = some y := ⟨_, List.getElem?_eq_getElem (by rw [← HB.out.1]; exact jn)⟩
          have cy := b_cell q1 gy
          have m8 := M8.out
          have y0 := bz_lo y
          have y1 := bz_hi y
          obtain ⟨q, hq⟩ : ∃ q, q = rdN ((b.drop o).take j) := ⟨_, rfl⟩
          obtain ⟨cn, fn⟩ := RN.out.cell I5.out
          rw [part_here, ← HO.out, ← hq] at cn
          have io : bits .or .i64 (wrap64 (iw q * 256)) (bz y) = iw (q * 256 + y.toNat) := by rw [← IntWalk.i64_left]; exact iw_or q y
          obtain ⟨v, hv⟩ : ∃ v, v = iw (q * 256 + y.toNat) := ⟨_, rfl⟩
          rw [← hv] at io
          have RV : Hid (v = iw (rdN ((b.drop (ofN i)).take (j + 1)))) := by
            have gy2 : (b.drop o)[j]? = some y := by rw [← gy, List.getElem?_take_of_lt jn]
            show _ = _
            rw [hv, hq, ← HO.out, take_get gy2, rd_snoc]
          have JN := Lib.hid jn
          clear gy q1 jn hv hq
          generalize iw q = u at cn io
          go_wp2_with fail
          have R2 := Lib.hid (RN.out.set (v := v) (f' := partR b i (j + 1)) I5.out (fun p hp => by rw [RV.out]; exact part_step b i j p hp))
          have RR2 : Hid (RC (wr.setCell ⟨zn, i, none⟩ (.int .i64 v)) zr fun _ => 0) := RR.out.other _ _ (fun z => NE.out.1 z.symm)
          have B2 : Hid (Below w.heap.size w (wr.setCell ⟨zn, i, none⟩ (.int .i64 v))) := BK.out.setCell (p := ⟨zn, i, none⟩) NE.out.2.2 _
          clear RN RR BK cn fn cy
          go_roundg (m - (j + 1))
          case measure => have := HG2.out; have := JN.out; omega
          case rel => exact ⟨j + 1, by have := JN.out; omega, rfl, by go_num, R2, RR2, B2⟩
        · obtain rfl : j = m := by omega
          have q1 := HO.out; have q2 := Z1.out; have q3 := Z4.out; have q4 := HRO.out; have q5 := M1.out; have q6 := HCO.out; have q7 := HCA.out
          obtain ⟨o2, ho2⟩ : ∃ o2, o2 = o + j := ⟨_, rfl⟩
          obtain ⟨r2, hr2⟩ : ∃ r2, r2 = r - j := ⟨_, rfl⟩
          obtain ⟨c2, hc2⟩ : ∃ c2, c2 = c - j := ⟨_, rfl⟩
          have cu := cut_up4 bA (oA + o) r c j (oA + o2) r2 c2 (by omega) (by omega) (by omega) (by omega) (by omega)
          have RN2 : Hid (RC wr zn (partR b (i + 1) 0)) := by
            have := RN.out
            rw [HM.out, part_next] at this
            exact this
          have O2 : Hid (o2 = ofN (i + 1)) := by show _ = _; omega
          have RO2 : Hid (r2 + o2 = 64) := by show _ = _; omega
          have CO2 : Hid (c2 + o2 = cA) := by show _ = _; omega
          have c0 := ((HT.out.below BK.out).cell I5.out)
          rw [← HM.out] at c0
          clear ho2 hr2 hc2 q1 q2 q3 q4 q5 q6 q7 RN hjm
          go_wp2_with fail
          go_roundg (5 - (i + 1))
          case measure => have := HG.out; have := I5.out; omega
          case rel => exact ⟨i + 1, o2, r2, c2, by have := I5.out; omega, rfl, O2, RO2, CO2, by go_num, rfl, RN2, RR, BK⟩
    · obtain rfl : i = 5 := by omega
      obtain rfl : o = 14 := HO.out
      obtain rfl : r = 50 := by have := HRO.out; omega
      obtain rfl : c = cA - 14 := by have := HCO.out; omega
      clear HG HO HRO HCO
      obtain ⟨n0, _⟩ := RN.out.cell (q := 0) (by decide)
      obtain ⟨n1, _⟩ := RN.out.cell (q := 1) (by decide)
      obtain ⟨n2, _⟩ := RN.out.cell (q := 2) (by decide)
      obtain ⟨n3, _⟩ := RN.out.cell (q := 3) (by decide)
      obtain ⟨n4, _⟩ := RN.out.cell (q := 4) (by decide)
      obtain ⟨r0, f0⟩ := RR.out.cell (q := 0) (by decide)
      obtain ⟨r1, f1⟩ := RR.out.cell (q := 1) (by decide)
      obtain ⟨r2, f2⟩ := RR.out.cell (q := 2) (by decide)
      obtain ⟨r3, f3⟩ := RR.out.cell (q := 3) (by decide)
      obtain ⟨r4, f4⟩ := RR.out.cell (q := 4) (by decide)
      obtain ⟨v0, hv0⟩ : ∃ v, v = partR b 5 0 0 := ⟨_, rfl⟩
      obtain ⟨v1, hv1⟩ : ∃ v, v = partR b 5 0 1 := ⟨_, rfl⟩
      obtain ⟨v2, hv2⟩ : ∃ v, v = partR b 5 0 2 := ⟨_, rfl⟩
      obtain ⟨v3, hv3⟩ : ∃ v, v = partR b 5 0 3 := ⟨_, rfl⟩
      obtain ⟨v4, hv4⟩ : ∃ v, v = partR b 5 0 4 := ⟨_, rfl⟩
      rw [← hv0] at n0
      rw [← hv1] at n1
      rw [← hv2] at n2
      rw [← hv3] at n3
      rw [← hv4] at n4
      have NZ : ¬ zn = zr := NE.out.1
      have HV : Hid (v0 = partR b 5 0 0 ∧ v1 = partR b 5 0 1 ∧ v2 = partR b 5 0 2 ∧ v3 = partR b 5 0 3 ∧ v4 = partR b 5 0 4) := ⟨hv0, hv1, hv2, hv3, hv4⟩
      clear hv0 hv1 hv2 hv3 hv4
      go_wp2_with fail
      refine read_end RR.out BK.out NE.out.2.1 v0 v1 v2 v3 v4 ?_
      obtain ⟨rfl, rfl, rfl, rfl, rfl⟩ := HV.out
      exact fun w' hb => ⟨rfl, hb⟩

end Go.Proofs.YtjokaaekliapmaaDoor
