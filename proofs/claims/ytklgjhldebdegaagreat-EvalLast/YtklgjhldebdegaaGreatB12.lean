/-
  What the laws of this seat stand on, part 12.
-/
import Derived.Test.YtklgjhldebdegaaGreatB11
import Derived.Deep.RegionHeld3
import Derived.Deep.QuietTactic
import Derived.BigQuiet
import Derived.StillTailTactics
namespace Go.Proofs.YtklgjhldebdegaaGreat
open Go.RowKit

/-- All but what someone owns is kept. -/
def KeepO (B : Nat) (O : Nat → Prop) (w w' : World) : Prop := Below B w w' ∧ ∀ b, b < w.heap.size → ¬ O b → w'.heap[b]? = w.heap[b]?
/-- How things stand when k gates have been looked at. -/
def Goes (B : Nat) (J : (Nat → Prop) → Nat → World → Prop) (O : Nat → Prop) (w : World) (k : Nat) (w' : World) : Prop :=
  ∃ O' : Nat → Prop, J O' k w' ∧ KeepO B O w w' ∧ ∀ b, O' b → O b ∨ w.heap.size ≤ b
theorem goes_start {B : Nat} {J : (Nat → Prop) → Nat → World → Prop} {O : Nat → Prop} {w : World} {k : Nat} (h : J O k w) : Goes B J O w k w :=
  ⟨O, h, ⟨Below.refl _ _, fun _ _ _ => rfl⟩, fun _ h => Or.inl h⟩
theorem KeepO.next {B : Nat} {O O' : Nat → Prop} {w w' w'' : World} (h : KeepO B O w w') (g : KeepO B O' w' w'') (s : ∀ b, O' b → O b ∨ w.heap.size ≤ b) : KeepO B O w w'' :=
  ⟨h.1.trans g.1, fun b hb hn => (g.2 b (Nat.lt_of_lt_of_le hb h.1.size) (fun q => by rcases s b q with q | q; exact hn q; omega)).trans (h.2 b hb hn)⟩
theorem Goes.next {B : Nat} {J : (Nat → Prop) → Nat → World → Prop} {O O' : Nat → Prop} {w w' w'' : World} {k' : Nat} (h : KeepO B O w w') (s : ∀ b, O' b → O b ∨ w.heap.size ≤ b) (g : Goes B J O' w' k' w'') : Goes B J O w k' w'' := by
  obtain ⟨O2, g1, g2, g3⟩ := g
  refine ⟨O2, g1, h.next g2 s, fun b hb => ?_⟩
  rcases g3 b hb with q | q
  · exact s b q
  · exact Or.inr (Nat.le_trans h.1.size q)
theorem KeepO.more {B : Nat} {O : Nat → Prop} {w w' w'' : World} (h : KeepO B O w w') (hB : B ≤ w.heap.size) (g : Below w'.heap.size w' w'') : KeepO B O w w'' :=
  ⟨h.1.trans (g.mono (Nat.le_trans hB h.1.size)), fun b hb hn => (g.block b (Nat.lt_of_lt_of_le hb h.1.size)).trans (h.2 b hb hn)⟩
/-- A stage of products in a variable. -/
def VB (w : World) (b : Nat) (c h x : Int) (v : Value) (a : Int) (z : UInt64) (l f i u : Int) : Prop :=
  w.heap[b]? = some (.cells #[.int .i64 c, .int .i64 h, .int .i64 x, v, .int .i64 a, .int .u64 (uz z), .int .i64 l, .int .i64 f, .int .i64 i, .int .i64 u] 92 (0, 0))
theorem VB.lt {w : World} {b : Nat} {c h x : Int} {v : Value} {a : Int} {z : UInt64} {l f i u : Int} (H : VB w b c h x v a z l f i u) : b < w.heap.size := (Array.getElem?_eq_some_iff.1 H).1
theorem VB.new (w : World) (c h x : Int) (v : Value) (a : Int) (z : UInt64) (l f i u : Int) : VB (w.alloc (.cells #[.int .i64 c, .int .i64 h, .int .i64 x, v, .int .i64 a, .int .u64 (uz z), .int .i64 l, .int .i64 f, .int .i64 i, .int .i64 u] 92)) w.heap.size c h x v a z l f i u := heap_alloc_new w _
theorem VB.kept {w w' : World} {b : Nat} {c h x : Int} {v : Value} {a : Int} {z : UInt64} {l f i u : Int} (H : VB w b c h x v a z l f i u) (e : w'.heap[b]? = w.heap[b]?) : VB w' b c h x v a z l f i u := e.trans H
theorem VB.below {w w' : World} {b : Nat} {c h x : Int} {v : Value} {a : Int} {z : UInt64} {l f i u : Int} (H : VB w b c h x v a z l f i u) (hb : Below w.heap.size w w') : VB w' b c h x v a z l f i u := H.kept (hb.block b H.lt)
theorem VB.cells {w : World} {b : Nat} {c h x : Int} {v : Value} {a : Int} {z : UInt64} {l f i u : Int} (H : VB w b c h x v a z l f i u) :
    w.cell? ⟨b, 0, none⟩ = some (.int .i64 c) ∧ w.cell? ⟨b, 1, none⟩ = some (.int .i64 h) ∧ w.cell? ⟨b, 2, none⟩ = some (.int .i64 x) ∧ w.cell? ⟨b, 3, none⟩ = some v ∧ w.cell? ⟨b, 4, none⟩ = some (.int .i64 a) ∧ w.cell? ⟨b, 5, none⟩ = some (.int .u64 (uz z)) ∧ w.cell? ⟨b, 6, none⟩ = some (.int .i64 l) ∧ w.cell? ⟨b, 7, none⟩ = some (.int .i64 f) ∧ w.cell? ⟨b, 8, none⟩ = some (.int .i64 i) ∧ w.cell? ⟨b, 9, none⟩ = some (.int .i64 u) := by
  refine ⟨?_, ?_, ?_, ?_, ?_, ?_, ?_, ?_, ?_, ?_⟩ <;> (rw [Lib.cell_of_heap H]; rfl)
/-- A stage's gate, by its place and term. -/
theorem stage_term {c h x : Int} {ls : List Ly} (e : errN ⟨c, h, x, ls⟩ = 0) {s l f u q : Nat} (hs : s < (stagesN ⟨c, h, x, ls⟩).length) (hl : l = stgN ⟨c, h, x, ls⟩ s) (hf : f = fromN ⟨c, h, x, ls⟩ s)
    (hu : (atN ⟨c, h, x, ls⟩ (l : Int)).u.n = (u : Int)) (hq : q = (perK (atN ⟨c, h, x, ls⟩ (l : Int))).toNat) {p r : Nat} (hp : p < u) (hr : r < q) :
    ∃ t : Tm, (termsN ⟨c, h, x, ls⟩ (l : Int) (p : Int))[r]? = some t ∧ gtN ⟨c, h, x, ls⟩ (f + (p * q + r)) = ⟨(l : Int), (p : Int), (r : Int), t.x, t.w⟩ := by
  subst hl hf hq
  obtain ⟨t, h1, h2⟩ := stage_gate e hs (p := p) (j := r) (by omega) hr
  exact ⟨t, by rw [show termsN ⟨c, h, x, ls⟩ ((stgN ⟨c, h, x, ls⟩ s : Nat) : Int) (p : Int) = termsK (atN ⟨c, h, x, ls⟩ ((stgN ⟨c, h, x, ls⟩ s : Nat) : Int)) (p : Int) from if_pos (has_yes (by omega) (by omega))]; exact h1, h2⟩
theorem stage_terms {c h x : Int} {ls : List Ly} (e : errN ⟨c, h, x, ls⟩ = 0) {s l u q : Nat} (hs : s < (stagesN ⟨c, h, x, ls⟩).length) (hl : l = stgN ⟨c, h, x, ls⟩ s)
    (hu : (atN ⟨c, h, x, ls⟩ (l : Int)).u.n = (u : Int)) (hq : q = (perK (atN ⟨c, h, x, ls⟩ (l : Int))).toNat) {p : Nat} (hp : p < u) : (termsN ⟨c, h, x, ls⟩ (l : Int) (p : Int)).length = q := by
  subst hl hq
  obtain ⟨g, _⟩ := stage_good e hs
  rw [show termsN ⟨c, h, x, ls⟩ ((stgN ⟨c, h, x, ls⟩ s : Nat) : Int) (p : Int) = termsK (atN ⟨c, h, x, ls⟩ ((stgN ⟨c, h, x, ls⟩ s : Nat) : Int)) (p : Int) from if_pos (has_yes (by omega) (by omega))]
  have := terms_len g (p : Int)
  omega
theorem stage_count {c h x : Int} {ls : List Ly} (e : errN ⟨c, h, x, ls⟩ = 0) {s l f u q m : Nat} (hs : s < (stagesN ⟨c, h, x, ls⟩).length) (hl : l = stgN ⟨c, h, x, ls⟩ s) (hf : f = fromN ⟨c, h, x, ls⟩ s) (hm : m = manyN ⟨c, h, x, ls⟩ s)
    (hu : (atN ⟨c, h, x, ls⟩ (l : Int)).u.n = (u : Int)) (hq : q = (perK (atN ⟨c, h, x, ls⟩ (l : Int))).toNat) : m = u * q ∧ f + m ≤ 512 ∧ u ≤ 128 ∧ q ≤ 512 ∧ 1 ≤ u := by
  subst hl hf hq hm
  obtain ⟨g, k3⟩ := stage_good e hs
  have r2 := (stage_range e hs).2
  have bd := many_bd e hs
  have gb := gates_bd (c := c) (h := h) (x := x) (ls := ls)
  have ub := size_bd (atN ⟨c, h, x, ls⟩ ((stgN ⟨c, h, x, ls⟩ s : Nat) : Int)).u
  have up := size_pos g.ur
  rw [hu, Int.toNat_natCast] at r2
  have u1 : 1 ≤ u := by omega
  refine ⟨r2, by omega, by omega, ?_, u1⟩
  have : 1 * (perK (atN ⟨c, h, x, ls⟩ ((stgN ⟨c, h, x, ls⟩ s : Nat) : Int))).toNat ≤ u * (perK (atN ⟨c, h, x, ls⟩ ((stgN ⟨c, h, x, ls⟩ s : Nat) : Int))).toNat := Nat.mul_le_mul_right _ u1
  omega
theorem uz_next (k : Nat) : IntKind.u64.wrap (uz (UInt64.ofNat k) + 1) = uz (UInt64.ofNat (k + 1)) := by
  have := uz_add (UInt64.ofNat k) 1
  rw [show (uz 1) = 1 from rfl] at this
  rw [this]
  congr 1
  simp

set_option maxHeartbeats 8000000 in
set_option maxRecDepth 100000 in
theorem each13 (F : Nat) (P : Value) (J : (Nat → Prop) → Nat → World → Prop) (w0 : World)
    (hE : ∀ args w, Sem.run Tryz.prog (callFunc F args) w = .ok (.enter F args) w)
    (hO : ∀ O k w, J O k w → ∀ b, O b → w0.heap.size ≤ b ∧ b < w.heap.size)
    (hS : ∀ O k w w', J O k w → Below w.heap.size w w' → J O k w')
    (c h x : Int) (A : Option Addr) (cA n : Nat) (ls : List Ly) (a : Int) (z : UInt64) (s l f u m : Nat) (i : Int) (hx : Rl w0 A ls) (ln : n = ls.length) (hn : n ≤ 60)
    (he : errN ⟨c, h, x, ls⟩ = 0) (hs : s < (stagesN ⟨c, h, x, ls⟩).length) (hl : l = stgN ⟨c, h, x, ls⟩ s) (hf : f = fromN ⟨c, h, x, ls⟩ s) (hm : m = manyN ⟨c, h, x, ls⟩ s) (hu : (atN ⟨c, h, x, ls⟩ (l : Int)).u.n = (u : Int))
    (hJ : ∀ O k w, k < m → J O k w → Calls Tryz.prog F #[P, .int .i64 (gtN ⟨c, h, x, ls⟩ (f + k)).a, .agg #[.int .i64 (gtN ⟨c, h, x, ls⟩ (f + k)).x, .int .i64 (gtN ⟨c, h, x, ls⟩ (f + k)).w], tpv (halfU z a (UInt64.ofNat (f + k)))] w fun e w' => e = .returned (.tuple #[]) ∧ ∃ O', J O' (k + 1) w' ∧ KeepO w0.heap.size O w w' ∧ ∀ b, O' b → O b ∨ w.heap.size ≤ b)
    (O : Nat → Prop) (w : World) (hb : Below w0.heap.size w0 w) (h0 : J O 0 w) :
    Calls Tryz.prog 138 #[.agg #[.int .i64 c, .int .i64 h, .int .i64 x, .slice A n cA, .int .i64 a, .int .u64 (uz z), .int .i64 (l : Int), .int .i64 (f : Int), .int .i64 i, .int .i64 (u : Int)], .func (.func F) #[P] #[]] w fun e w' => e = .returned (.tuple #[]) ∧ Goes w0.heap.size J O w m w' := by
  obtain ⟨q, hq⟩ : ∃ q, q = (perK (atN ⟨c, h, x, ls⟩ (l : Int))).toNat := ⟨_, rfl⟩
  obtain ⟨m1, m2, m3, m4, m5⟩ := stage_count he hs hl hf hm hu hq
  have ST : Hid (∀ p r : Nat, p < u → r < q → ∃ t : Tm, (termsN ⟨c, h, x, ls⟩ (l : Int) (p : Int))[r]? = some t ∧ gtN ⟨c, h, x, ls⟩ (f + (p * q + r)) = ⟨(l : Int), (p : Int), (r : Int), t.x, t.w⟩) := fun p r hp hr => stage_term he hs hl hf hu hq hp hr
  have TL : Hid (∀ p : Nat, p < u → (termsN ⟨c, h, x, ls⟩ (l : Int) (p : Int)).length = q) := fun p hp => stage_terms he hs hl hu hq hp
  have M1 := Lib.hid m1
  have HO := Lib.hid hO; have HS := Lib.hid hS; have HJ := Lib.hid hJ
  have HX := Lib.hid hx; have LX := Lib.hid ln
  have hn1 : n ≤ 1000 := by omega
  have s0 := hb.size
  have OW : Hid (∀ b, O b → b < w.heap.size) := fun b q => (hO _ _ _ h0 b q).2
  have u1 : IntKind.u64.wrap (f : Int) = uz (UInt64.ofNat f) := uz_conv f
  obtain ⟨g0, hg0⟩ : ∃ g0, g0 = UInt64.ofNat f := ⟨_, rfl⟩
  rw [← hg0] at u1
  have G0 := Lib.hid hg0
  have P0 := VB.new w c h x (.slice A n cA) a z l f i u
  have JA := hS _ _ _ _ h0 (chain_alloc (Below.refl _ w) (.cells #[.int .i64 c, .int .i64 h, .int .i64 x, .slice A n cA, .int .i64 a, .int .u64 (uz z), .int .i64 (l : Int), .int .i64 (f : Int), .int .i64 i, .int .i64 (u : Int)] 92))
  have BA := chain_alloc (Below.refl _ w) (.cells #[.int .i64 c, .int .i64 h, .int .i64 x, .slice A n cA, .int .i64 a, .int .u64 (uz z), .int .i64 (l : Int), .int .i64 (f : Int), .int .i64 i, .int .i64 (u : Int)] 92)
  have PL := P0.lt
  clear hO hS hJ hx ln he hs hl hf hm hu hq m1 hg0 h0
  go_enter Tryz.func138, Tryz.ntmps138
  go_wp2_with fail
  obtain ⟨wA, hwA⟩ : ∃ wA, wA = w.alloc (.cells #[.int .i64 c, .int .i64 h, .int .i64 x, .slice A n cA, .int .i64 a, .int .u64 (uz z), .int .i64 (l : Int), .int .i64 (f : Int), .int .i64 i, .int .i64 (u : Int)] 92) := ⟨_, rfl⟩
  obtain ⟨bp, hbp⟩ : ∃ bp, bp = w.heap.size := ⟨_, rfl⟩
  rw [← hwA] at P0 JA BA PL ⊢
  rw [← hbp] at P0 BA PL OW s0 ⊢
  have WK : Hid (∀ b, b < bp → wA.heap[b]? = w.heap[b]?) := fun b hb => BA.block b (by omega)
  have BW : Hid (Below w0.heap.size w0 wA) := hb.trans (BA.mono s0)
  have PA := Lib.hid P0
  have GA : Hid (Goes w0.heap.size J O wA 0 wA) := goes_start JA
  have NB : Hid (¬ O bp) := fun q => by have := OW.out _ q; omega
  have SA : Hid (w0.heap.size ≤ wA.heap.size) := BW.out.size
  have WA : Hid (Below w0.heap.size w wA) := BA.mono s0
  obtain ⟨c0, c1, c2, c3, c4, c5, c6, c7, c8, c9⟩ := P0.cells
  clear hwA P0 JA BA hb
  go_wp2_with fail
  clear c0 c1 c2 c3 c4 c5 c6 c7 c8 c9
  have HBP := Lib.hid hbp
  clear hbp s0
  go_loopg [4, 5, 7, 13] u (fun gh s4 _ _ s13 wx => ∃ (p : Nat) (gv : UInt64), p ≤ u ∧ Hid (gh = u - p) ∧ Hid (gv = UInt64.ofNat (f + p * q)) ∧ s4 = .int .u64 (uz gv) ∧ s13 = .int .i64 (p : Int) ∧ Hid (Goes w0.heap.size J O wA (p * q) wx))
  case atStart => exact ⟨0, g0, by omega, by show _ = _; omega, by show _ = _; rw [G0.out, Nat.zero_mul, Nat.add_zero], rfl, rfl, by rw [Nat.zero_mul]; exact GA.out⟩
  case round =>
    obtain ⟨p, gv, hp, HG, HV, rfl, rfl, GK⟩ := hrel
    obtain ⟨O1, j1, kp1, sub1⟩ := GK.out
    have J1 := Lib.hid j1; have K1 := Lib.hid kp1; have S1 := Lib.hid sub1
    have nb1 : ¬ O1 bp := fun q => by rcases sub1 bp q with q | q; exact NB.out q; omega
    have pk := PA.out.kept (kp1.2 bp PL NB.out)
    have PK := Lib.hid pk
    have PL1 := pk.lt
    obtain ⟨c0, c1, c2, c3, c4, c5, c6, c7, c8, c9⟩ := pk.cells
    have NB1 := Lib.hid nb1
    clear j1 kp1 sub1 nb1 pk
    by_cases pu : p < u
    · have pi : (p : Int) < (u : Int) := by omega
      have dp : decide ((p : Int) < (u : Int)) = true := decide_eq_true pi
      obtain ⟨ts, hts⟩ : ∃ ts, termsN ⟨c, h, x, ls⟩ (l : Int) (p : Int) = ts := ⟨_, rfl⟩
      have HTS := Lib.hid hts
      have tl := TL.out p pu
      rw [hts] at tl
      have LT := Lib.hid tl
      clear hts tl
      go_wp2_with fail
      refine (terms_new c h x A cA n ls (l : Int) (p : Int) ts HTS.out _ (HX.out.below (BW.out.trans K1.out.1)) LX.out hn1).mono ?_
      rintro e w2 ⟨A2, k2, n2, rfl, hn2, hR2, hb2, hd1, hd2, hnew⟩
      have n2q : n2 = q := by rw [hn2]; exact LT.out
      subst n2q
      have R2 := Lib.hid hR2
      have J2 := Lib.hid (HS.out _ _ _ _ J1.out hb2)
      have K2 := Lib.hid (K1.out.more SA.out hb2)
      have P2 := Lib.hid (PK.out.below hb2)
      have NW := Lib.hid hnew
      have O1L : Hid (∀ b, O1 b → b < wr.heap.size) := fun b q => (HO.out _ _ _ J1.out b q).2
      have PL2 := Nat.lt_of_lt_of_le PL1 hb2.size
      have LN2 := Lib.hid hn2
      clear hn2 hR2 hb2 hd1 hd2 hnew c0 c1 c2 c3 c4 c5 c6 c7 c8 c9
      go_wp2_with fail
      go_loopg [4, 7, 23] n2 (fun gh s4 _ s23 wx => ∃ (r : Nat) (g : UInt64), r ≤ n2 ∧ Hid (gh = n2 - r) ∧ Hid (g = UInt64.ofNat (f + (p * n2 + r))) ∧ s4 = .int .u64 (uz g) ∧ s23 = .int .i64 (r : Int) ∧ Hid (Goes w0.heap.size J O1 w2 (p * n2 + r) wx))
      case atStart => exact ⟨0, gv, by omega, by show _ = _; omega, HV.out, rfl, rfl, goes_start J2.out⟩
      case round =>
        obtain ⟨r, g, hr, HG2, HGV, rfl, rfl, GR⟩ := hrel
        by_cases rq : r < n2
        · have ri : (r : Int) < (n2 : Int) := by omega
          have r0 : (0 : Int) ≤ (r : Int) := by omega
          have dr : decide ((r : Int) < (n2 : Int)) = true := decide_eq_true ri
          obtain ⟨O3, j3, kp3, sub3⟩ := GR.out
          obtain ⟨t, ht, hgt⟩ := ST.out p r pu rq
          rw [HTS.out] at ht
          obtain ⟨bR, oR, rfl, lR, qR⟩ := R2.out (by rw [LT.out]; omega)
          obtain ⟨y0, y1⟩ := t_cells2 qR ht
          have nR : ¬ O1 bR := fun q => by have := O1L.out _ q; have := NW.out ⟨bR, oR, none⟩ rfl; dsimp only at this; omega
          have eR := kp3.2 bR lR nR
          have x0 : wr.cell? ⟨bR, oR + r * 2, none⟩ = some (.int .i64 t.x) := (World.cell?_of_block eR).trans y0
          have x1 : wr.cell? ⟨bR, oR + r * 2 + 1, none⟩ = some (.int .i64 t.w) := (World.cell?_of_block eR).trans y1
          have pk := P2.out.kept (kp3.2 bp PL2 NB1.out)
          have PL3 := pk.lt
          obtain ⟨c0, c1, c2, c3, c4, c5, c6, c7, c8, c9⟩ := pk.cells
          have nb3 : ¬ O3 bp := fun q => by rcases sub3 bp q with q | q; exact NB1.out q; omega
          have O3L : Hid (∀ b, O3 b → b < wr.heap.size) := fun b q => (HO.out _ _ _ j3 b q).2
          have J3 := Lib.hid j3; have K3 := Lib.hid kp3; have S3 := Lib.hid sub3; have NB3 := Lib.hid nb3
          obtain ⟨kk, hkk⟩ : ∃ kk, kk = f + (p * n2 + r) := ⟨_, rfl⟩
          have KM : Hid (p * n2 + r < m) := by
            show _ < _
            rw [M1.out]
            have : (p + 1) * n2 ≤ u * n2 := Nat.mul_le_mul_right _ pu
            rw [Nat.succ_mul] at this
            omega
          have hg : g = UInt64.ofNat kk := by rw [hkk]; exact HGV.out
          obtain ⟨tr, htr⟩ : ∃ tr, tr = halfU z a g := ⟨_, rfl⟩
          have CF : Hid (∀ w, J O3 (p * n2 + r) w → Calls Tryz.prog F #[P, .int .i64 (p : Int), .agg #[.int .i64 t.x, .int .i64 t.w], .agg #[.int .u64 (uz tr.a), .int .u64 (uz tr.b), .int .u64 (uz tr.c)]] w fun e w' => e = .returned (.tuple #[]) ∧ ∃ O', J O' (p * n2 + r + 1) w' ∧ KeepO w0.heap.size O3 w w' ∧ ∀ b, O' b → O3 b ∨ w.heap.size ≤ b) := fun w hj => by
            have := HJ.out O3 (p * n2 + r) w KM.out hj
            rw [hgt, ← hkk, ← hg, ← htr] at this
            exact this
          have CH : Hid (∀ w, Calls Tryz.prog 141 #[.int .u64 (uz z), .int .i64 a, .int .u64 (uz g)] w fun e w' => e = .returned (.agg #[.int .u64 (uz tr.a), .int .u64 (uz tr.b), .int .u64 (uz tr.c)]) ∧ Below w.heap.size w w') := fun w => by rw [htr]; exact half11 z a g w
          obtain ⟨g', hg'⟩ : ∃ g', g' = UInt64.ofNat (f + (p * n2 + (r + 1))) := ⟨_, rfl⟩
          have gn : IntKind.u64.wrap (uz g + 1) = uz g' := by rw [hg, hg', hkk, show f + (p * n2 + (r + 1)) = f + (p * n2 + r) + 1 by omega]; exact uz_next _
          have GN := Lib.hid gn; have HGP := Lib.hid hg'
          obtain ⟨tx, tw⟩ := t
          dsimp only at x0 x1 CF
          have B4 := Lib.hid (chain_alloc (Below.refl _ wr) (.cells #[.int .i64 tx, .int .i64 tw] 82))
          have t0 : (wr.alloc (.cells #[.int .i64 tx, .int .i64 tw] 82)).cell? ⟨wr.heap.size, 0, none⟩ = some (.int .i64 tx) := by rw [Lib.cell_of_heap (heap_alloc_new wr _)]; rfl
          have t1 : (wr.alloc (.cells #[.int .i64 tx, .int .i64 tw] 82)).cell? ⟨wr.heap.size, 1, none⟩ = some (.int .i64 tw) := by rw [Lib.cell_of_heap (heap_alloc_new wr _)]; rfl
          have lt0 := Lib.hid (show wr.heap.size < (wr.alloc (.cells #[.int .i64 tx, .int .i64 tw] 82)).heap.size by simp)
          clear ht hgt qR y0 y1 eR pk nb3 j3 kp3 sub3 hg htr hg' gn hkk c0 c1 c2 c3 c6 c7 c8 c9
          go_wp2_with fail
          generalize wr.alloc (.cells #[.int .i64 tx, .int .i64 tw] 82) = w4 at t0 t1 lt0 B4 ⊢
          obtain ⟨tb, htb⟩ : ∃ tb, tb = wr.heap.size := ⟨_, rfl⟩
          rw [← htb] at t0 t1 lt0 ⊢
          replace c4 := (B4.out.cell (p := ⟨bp, 4, none⟩) PL3).trans c4
          replace c5 := (B4.out.cell (p := ⟨bp, 5, none⟩) PL3).trans c5
          have l4 := Nat.lt_of_lt_of_le PL3 B4.out.size
          have l5 := l4
          have l0 := lt0.out
          have l1 := lt0.out
          have NT : Hid (¬ O3 tb) := fun q => by have := O3L.out _ q; omega
          have J4 := Lib.hid (HS.out _ _ _ _ J3.out B4.out)
          clear x0 x1 htb lt0
          refine wp_region_noPanic ?_
          refine wp_region_held_drew (S := fun w' => w'.cell? ⟨tb, 0, none⟩ = some (.int .i64 tx) ∧ w'.cell? ⟨tb, 1, none⟩ = some (.int .i64 tw) ∧ w'.cell? ⟨bp, 4, none⟩ = some (.int .i64 a) ∧ w'.cell? ⟨bp, 5, none⟩ = some (.int .u64 (uz z))) (by kernel_rfl) ⟨t0, t1, c4, c5⟩ (fun hHeld => ?_)
          have hd := below_drew w4
          replace t0 := (hd.cell (p := ⟨tb, 0, none⟩) l0).trans t0
          replace l0 := Nat.lt_of_lt_of_le l0 hd.size
          replace t1 := (hd.cell (p := ⟨tb, 1, none⟩) l1).trans t1
          replace l1 := Nat.lt_of_lt_of_le l1 hd.size
          replace c4 := (hd.cell (p := ⟨bp, 4, none⟩) l4).trans c4
          replace l4 := Nat.lt_of_lt_of_le l4 hd.size
          replace c5 := (hd.cell (p := ⟨bp, 5, none⟩) l5).trans c5
          replace l5 := Nat.lt_of_lt_of_le l5 hd.size
          generalize w4.drew = wq1 at hHeld hd t0 l0 t1 l1 c4 l4 c5 l5 ⊢
          have BD : Hid (Below wq1.heap.size wq1 wq1) := Below.refl _ _
          refine wpAnyH_take (i := 0) (v := ?vv3001) (by simp only [List.getElem?_toArray, List.getElem?_cons_zero]; rfl) (by kernel_rfl) (by kernel_rfl) (by kernel_rfl) (fun _ _ _ h => h) (Or.inl ⟨by rfl, ?yy3001⟩) (by assumption) ?rr3001
          case yy3001 => (intro w hSw; (try dsimp only at hSw); go_simp; first | done | with_reducible rfl)
          simp only [Act.put, List.setIfInBounds_toArray, List.set_cons_zero, List.set_cons_succ]
          refine wpAnyH_take (i := 1) (v := ?vv3002) (by simp only [List.getElem?_toArray, List.getElem?_cons_zero, List.getElem?_cons_succ]; rfl) (by kernel_rfl) (by kernel_rfl) (by kernel_rfl) (fun _ _ _ h => h) (Or.inl ⟨by rfl, ?yy3002⟩) (by assumption) ?rr3002
          case yy3002 => (intro w hSw; (try dsimp only at hSw); go_simp; first | done | with_reducible rfl)
          simp only [Act.put, List.setIfInBounds_toArray, List.set_cons_zero, List.set_cons_succ]
          refine wpAnyH_take (i := 2) (v := ?vv3003) (by simp only [List.getElem?_toArray, List.getElem?_cons_zero, List.getElem?_cons_succ]; rfl) (by kernel_rfl) (by kernel_rfl) (by kernel_rfl) (fun _ _ _ h => h) (Or.inl ⟨by rfl, ?yy3003⟩) (by assumption) ?rr3003
          case yy3003 => (intro w hSw; (try dsimp only at hSw); go_simp; first | done | with_reducible rfl)
          simp only [Act.put, List.setIfInBounds_toArray, List.set_cons_zero, List.set_cons_succ]
          refine wpAnyH_take (i := 3) (v := ?vv3004) (by simp only [List.getElem?_toArray, List.getElem?_cons_zero, List.getElem?_cons_succ]; rfl) (by kernel_rfl) (by kernel_rfl) (by kernel_rfl) (fun _ _ _ h => h) (Or.inl ⟨by rfl, ?yy3004⟩) (by assumption) ?rr3004
          case yy3004 => (intro w hSw; (try dsimp only at hSw); go_simp; first | done | with_reducible rfl)
          simp only [Act.put, List.setIfInBounds_toArray, List.set_cons_zero, List.set_cons_succ]
          refine wpAnyH_take (i := 4) (v := ?vv3005) (by simp only [List.getElem?_toArray, List.getElem?_cons_zero, List.getElem?_cons_succ]; rfl) (by kernel_rfl) (by kernel_rfl) (by kernel_rfl) (fun _ _ _ h => h) (Or.inl ⟨by rfl, ?yy3005⟩) (by assumption) ?rr3005
          case yy3005 => (intro w hSw; (try dsimp only at hSw); go_simp; first | done | with_reducible rfl)
          simp only [Act.put, List.setIfInBounds_toArray, List.set_cons_zero, List.set_cons_succ]
          refine wpAnyH_take (i := 5) (v := ?vv3006) (by simp only [List.getElem?_toArray, List.getElem?_cons_zero, List.getElem?_cons_succ]; rfl) (by kernel_rfl) (by kernel_rfl) (by kernel_rfl) (fun _ _ _ h => h) (Or.inl ⟨by rfl, ?yy3006⟩) (by assumption) ?rr3006
          case yy3006 => (intro w hSw; (try dsimp only at hSw); go_simp; first | done | with_reducible rfl)
          simp only [Act.put, List.setIfInBounds_toArray, List.set_cons_zero, List.set_cons_succ]
          refine wpAnyH_take (i := 6) (v := ?vv3007) (by simp only [List.getElem?_toArray, List.getElem?_cons_zero, List.getElem?_cons_succ]; rfl) (by kernel_rfl) (by kernel_rfl) (by kernel_rfl) (fun _ _ _ h => h) (Or.inl ⟨by rfl, ?yy3007⟩) (by assumption) ?rr3007
          case yy3007 => (intro w hSw; (try dsimp only at hSw); go_simp; first | done | with_reducible rfl)
          simp only [Act.put, List.setIfInBounds_toArray, List.set_cons_zero, List.set_cons_succ]
          refine wpAnyH_take (i := 7) (v := ?vv3008) (by simp only [List.getElem?_toArray, List.getElem?_cons_zero, List.getElem?_cons_succ]; rfl) (by kernel_rfl) (by kernel_rfl) (by kernel_rfl) (fun _ _ _ h => h) (Or.inl ⟨by rfl, ?yy3008⟩) (by assumption) ?rr3008
          case yy3008 => (intro w hSw; (try dsimp only at hSw); go_simp; first | done | with_reducible rfl)
          simp only [Act.put, List.setIfInBounds_toArray, List.set_cons_zero, List.set_cons_succ]
          refine wpAnyH_ready (rs := [8]) (by kernel_rfl) (by simp) ?_
          refine AllReadyH.cons (by simp only [List.getElem?_toArray, List.getElem?_cons_zero, List.getElem?_cons_succ]; rfl) (fun K hK => ?_) ?_
          · skip
            go_simp
            go_at_call 141
            (with_reducible refine (CH.out _).mono ?_)
            rintro e wq2 ⟨rfl, hb⟩
            clear hHeld
            replace BD := Lib.hid (chain BD.out hb)
            clear hb
            go_wp2_with fail
            refine hK.out _ _ ⟨(BD.out.cell (p := ⟨tb, 0, none⟩) l0).trans t0, (BD.out.cell (p := ⟨tb, 1, none⟩) l1).trans t1, (BD.out.cell (p := ⟨bp, 4, none⟩) l4).trans c4, (BD.out.cell (p := ⟨bp, 5, none⟩) l5).trans c5⟩ (fun hHeld => ?_)
            clear hK K
            try simp only [Act.put, List.setIfInBounds_toArray, List.set_cons_zero, List.set_cons_succ]
            refine wpAnyH_ready (rs := [9]) (by kernel_rfl) (by simp) ?_
            refine AllReadyH.cons (by simp only [List.getElem?_toArray, List.getElem?_cons_zero, List.getElem?_cons_succ]; rfl) (fun K hK => ?_) ?_
            · skip
              go_simp
              (with_reducible refine (CF.out _ (HS.out _ _ _ _ J4.out (chain hd BD.out))).mono ?_)
              rintro e wq3 ⟨rfl, O5, j5, kp5, sub5⟩
              clear hHeld
              go_wp2_with fail
              refine hK.out _ _ ⟨(World.cell?_of_block (a := ⟨tb, 0, none⟩) (kp5.2 _ (Nat.lt_of_lt_of_le l0 BD.out.size) NT.out)).trans ((BD.out.cell (p := ⟨tb, 0, none⟩) l0).trans t0), (World.cell?_of_block (a := ⟨tb, 1, none⟩) (kp5.2 _ (Nat.lt_of_lt_of_le l1 BD.out.size) NT.out)).trans ((BD.out.cell (p := ⟨tb, 1, none⟩) l1).trans t1), (World.cell?_of_block (a := ⟨bp, 4, none⟩) (kp5.2 _ (Nat.lt_of_lt_of_le l4 BD.out.size) NB3.out)).trans ((BD.out.cell (p := ⟨bp, 4, none⟩) l4).trans c4), (World.cell?_of_block (a := ⟨bp, 5, none⟩) (kp5.2 _ (Nat.lt_of_lt_of_le l5 BD.out.size) NB3.out)).trans ((BD.out.cell (p := ⟨bp, 5, none⟩) l5).trans c5)⟩ (fun hHeld => ?_)
              have BF := chain B4.out (chain hd BD.out)
              have G5 : Hid (Goes w0.heap.size J O1 w2 (p * n2 + (r + 1)) wq3) := Goes.next (K3.out.more (Nat.le_trans SA.out (Nat.le_of_lt_succ (Nat.lt_succ_of_le K2.out.1.size))) BF) S3.out ⟨O5, j5, kp5, sub5⟩
              clear hK K kp5 j5 sub5 BF
              try simp only [Act.put, List.setIfInBounds_toArray, List.set_cons_zero, List.set_cons_succ]
              refine wpAnyH_done (by kernel_rfl) ?_ _
              refine NoPanic.normal ?_
              clear hHeld
              clear hd BD t0 t1 c4 c5
              have gn := GN.out
              go_wp2_with fail
              clear gn
              go_roundg (n2 - (r + 1))
              case measure => have := HG2.out; omega
              case rel => exact ⟨r + 1, g', by omega, rfl, HGP.out, rfl, by go_num, G5⟩
            exact AllReadyH.nil
          exact AllReadyH.nil
        · obtain rfl : r = n2 := by omega
          have dr : decide ((r : Int) < (r : Int)) = false := decide_eq_false (Int.lt_irrefl _)
          have GE : Hid (Goes w0.heap.size J O wA ((p + 1) * r) wr) := by
            show Goes _ _ _ _ _ _
            rw [Nat.succ_mul]
            exact Goes.next K2.out S1.out GR.out
          go_wp2_with fail
          go_roundg (u - (p + 1))
          case measure => have := HG.out; omega
          case rel => exact ⟨p + 1, g, by omega, rfl, by show _ = _; rw [Nat.succ_mul]; exact HGV.out, rfl, by go_num, GE⟩
    · obtain rfl : p = u := by omega
      have dp : decide ((p : Int) < (p : Int)) = false := decide_eq_false (Int.lt_irrefl _)
      have GF : Hid (Goes w0.heap.size J O w m wr) := by
        show Goes _ _ _ _ _ _
        rw [M1.out]
        obtain ⟨O1, j1, kp1, sub1⟩ := GK.out
        refine ⟨O1, j1, ⟨WA.out.trans kp1.1, fun b hb hn => (kp1.2 b (by have := HBP.out; omega) hn).trans (WK.out b (by rw [HBP.out]; exact hb))⟩, fun b q => ?_⟩
        rcases sub1 b q with q | q
        · exact Or.inl q
        · exact Or.inr (by have := HBP.out; omega)
      go_wp2_with fail
      go_end0
      exact ⟨rfl, GF.out⟩

end Go.Proofs.YtklgjhldebdegaaGreat

namespace Go.Proofs.YtklgjhldebdegaaGreat
open Go.RowKit
set_option maxHeartbeats 1000000 in
set_option maxRecDepth 100000 in
theorem ropen12 (x y : UInt64) (t : Tp) (w : World) : Calls Tryz.prog 36 #[.int .u64 (uz x), .int .u64 (uz y), tpv t] w fun e w' => e = .returned (onv (openU x y t)) ∧ Below w.heap.size w w' := by
  have e1 : IntKind.u64.wrap (uz x - uz t.a) = uz (x - t.a) := uz_sub _ _
  have e2 : IntKind.u64.wrap (uz y - uz t.b) = uz (y - t.b) := uz_sub _ _
  unfold tpv
  go_enter Tryz.func36, Tryz.ntmps36
  go_wp2_with fail
  exact bodyPost_ret (v := onv (openU x y t)) (by simp [results, Tryz.results36, go_sem, onv, openU]) rfl ⟨rfl, by first | exact chain_alloc (chain_alloc (Below.refl _ w) _) _ | exact below_set2 (chain_alloc (chain_alloc (Below.refl _ w) _) _) (by omega) _ _⟩

set_option maxHeartbeats 1000000 in
set_option maxRecDepth 100000 in
theorem rsum12 (a b : On) (w : World) : Calls Tryz.prog 42 #[onv a, onv b] w fun e w' => e = .returned (onv (sumO a b)) ∧ Below w.heap.size w w' := by
  have e1 : IntKind.u64.wrap (uz a.d + uz b.d) = uz (a.d + b.d) := uz_add _ _
  have e2 : IntKind.u64.wrap (uz a.e + uz b.e) = uz (a.e + b.e) := uz_add _ _
  unfold onv
  go_enter Tryz.func42, Tryz.ntmps42
  go_wp2_with fail
  exact bodyPost_ret (v := onv (sumO a b)) (by simp [results, Tryz.results42, go_sem, onv, sumO]) rfl ⟨rfl, by first | exact chain_alloc (chain_alloc (chain_alloc (Below.refl _ w) _) _) _ | exact below_set2 (chain_alloc (chain_alloc (chain_alloc (Below.refl _ w) _) _) _) (by omega) _ _⟩

set_option maxHeartbeats 1000000 in
set_option maxRecDepth 100000 in
theorem rclose12 (a : Int) (o : On) (t : Tp) (w : World) : Calls Tryz.prog 43 #[.int .i64 a, onv o, tpv t] w fun e w' => e = .returned (.int .u64 (uz (closeU a o t))) ∧ Below w.heap.size w w' := by
  have e1 : IntKind.u64.wrap (uz o.d * uz t.b) = uz (o.d * t.b) := uz_mul _ _
  have e2 : IntKind.u64.wrap (uz t.c + uz (o.d * t.b)) = uz (t.c + o.d * t.b) := uz_add _ _
  have e3 : IntKind.u64.wrap (uz o.e * uz t.a) = uz (o.e * t.a) := uz_mul _ _
  have e4 : IntKind.u64.wrap (uz (t.c + o.d * t.b) + uz (o.e * t.a)) = uz (t.c + o.d * t.b + o.e * t.a) := uz_add _ _
  have e5 : IntKind.u64.wrap (uz o.d * uz o.e) = uz (o.d * o.e) := uz_mul _ _
  have e6 : IntKind.u64.wrap (uz (t.c + o.d * t.b + o.e * t.a) + uz (o.d * o.e)) = uz (t.c + o.d * t.b + o.e * t.a + o.d * o.e) := uz_add _ _
  unfold tpv onv
  by_cases h0 : a = 0
  · have d : (a == 0) = true := by simp [h0]
    have E : Hid (closeU a o t = t.c + o.d * t.b + o.e * t.a + o.d * o.e) := if_pos h0
    clear h0
    go_enter Tryz.func43, Tryz.ntmps43
    go_wp2_with fail
    go_ret
    exact ⟨by rw [E.out]; rfl, chain_alloc (chain_alloc (Below.refl _ w) _) _⟩
  · have d : (a == 0) = false := by simp [h0]
    have E : Hid (closeU a o t = t.c + o.d * t.b + o.e * t.a) := if_neg h0
    clear h0
    go_enter Tryz.func43, Tryz.ntmps43
    go_wp2_with fail
    go_ret
    exact ⟨by rw [E.out]; rfl, chain_alloc (chain_alloc (Below.refl _ w) _) _⟩

end Go.Proofs.YtklgjhldebdegaaGreat

namespace Go.Proofs.YtklgjhldebdegaaGreat
open Go.RowKit

set_option maxHeartbeats 1000000 in
set_option maxRecDepth 100000 in
theorem hide12 (t : Tp) (x y : UInt64) (w : World) : Calls Tryz.prog 146 #[tpv t, .int .u64 (uz x), .int .u64 (uz y)] w fun e w' => e = .returned (onv (openU x y t)) ∧ Below w.heap.size w w' := by
  have e1 : IntKind.u64.wrap (uz x - uz t.a) = uz (x - t.a) := uz_sub _ _
  have e2 : IntKind.u64.wrap (uz y - uz t.b) = uz (y - t.b) := uz_sub _ _
  unfold tpv
  go_enter Tryz.func146, Tryz.ntmps146
  go_wp2_with fail
  exact bodyPost_ret (v := onv (openU x y t)) (by simp [results, Tryz.results146, go_sem, onv, openU]) rfl ⟨rfl, by first | exact chain_alloc (chain_alloc (Below.refl _ w) _) _ | exact below_set2 (chain_alloc (chain_alloc (Below.refl _ w) _) _) (by omega) _ _⟩

set_option maxHeartbeats 1000000 in
set_option maxRecDepth 100000 in
theorem part12 (a : Int) (o : On) (t : Tp) (w : World) : Calls Tryz.prog 145 #[.agg #[.int .u64 (uz t.a), .int .u64 (uz t.b), .int .u64 (uz t.c), .int .u64 (uz o.d), .int .u64 (uz o.e)], .int .i64 a] w fun e w' => e = .returned (.int .u64 (uz (closeU a o t))) ∧ Below w.heap.size w w' := by
  have e1 : IntKind.u64.wrap (uz o.d * uz t.b) = uz (o.d * t.b) := uz_mul _ _
  have e2 : IntKind.u64.wrap (uz t.c + uz (o.d * t.b)) = uz (t.c + o.d * t.b) := uz_add _ _
  have e3 : IntKind.u64.wrap (uz o.e * uz t.a) = uz (o.e * t.a) := uz_mul _ _
  have e4 : IntKind.u64.wrap (uz (t.c + o.d * t.b) + uz (o.e * t.a)) = uz (t.c + o.d * t.b + o.e * t.a) := uz_add _ _
  have e5 : IntKind.u64.wrap (uz o.d * uz o.e) = uz (o.d * o.e) := uz_mul _ _
  have e6 : IntKind.u64.wrap (uz (t.c + o.d * t.b + o.e * t.a) + uz (o.d * o.e)) = uz (t.c + o.d * t.b + o.e * t.a + o.d * o.e) := uz_add _ _
  by_cases h0 : a = 0
  · have d : (a == 0) = true := by simp [h0]
    have E : Hid (closeU a o t = t.c + o.d * t.b + o.e * t.a + o.d * o.e) := if_pos h0
    clear h0
    go_enter Tryz.func145, Tryz.ntmps145
    go_wp2_with fail
    go_ret
    exact ⟨by rw [E.out]; rfl, chain_alloc (Below.refl _ w) _⟩
  · have d : (a == 0) = false := by simp [h0]
    have E : Hid (closeU a o t = t.c + o.d * t.b + o.e * t.a) := if_neg h0
    clear h0
    go_enter Tryz.func145, Tryz.ntmps145
    go_wp2_with fail
    go_ret
    exact ⟨by rw [E.out]; rfl, chain_alloc (Below.refl _ w) _⟩

set_option maxHeartbeats 1000000 in
set_option maxRecDepth 100000 in
theorem open12 (x y : UInt64) (t : Tp) (w : World) : Calls Tryz.prog 143 #[.int .u64 (uz x), .int .u64 (uz y), tpv t] w fun e w' => e = .returned (onv (openU x y t)) ∧ Below w.heap.size w w' := by
  have CN : Hid (∀ w, Calls Tryz.prog 146 #[.agg #[.int .u64 (uz t.a), .int .u64 (uz t.b), .int .u64 (uz t.c)], .int .u64 (uz x), .int .u64 (uz y)] w fun e w' => e = .returned (.agg #[.int .u64 (uz (openU x y t).d), .int .u64 (uz (openU x y t).e)]) ∧ Below w.heap.size w w') := fun w => hide12 t x y w
  unfold tpv onv
  obtain ⟨o, ho⟩ : ∃ o, o = openU x y t := ⟨_, rfl⟩
  rw [← ho] at CN ⊢
  clear ho
  go_enter Tryz.func143, Tryz.ntmps143
  go_wp2_with fail
  refine (CN.out _).mono ?_
  rintro e w2 ⟨rfl, hb⟩
  obtain ⟨V, hV⟩ : ∃ V, V = w.alloc (.cells #[.int .u64 (uz t.a), .int .u64 (uz t.b), .int .u64 (uz t.c)] 74) := ⟨_, rfl⟩
  have hs : V.heap.size = w.heap.size + 1 := by rw [hV]; simp
  obtain ⟨z, hz⟩ : ∃ z, z = w.heap.size + 1 := ⟨_, rfl⟩
  have zl : w.heap.size ≤ z := by omega
  have Z : Hid (OC w2 z On.z) := by
    rw [hz, ← hs]
    refine OC.below (o := On.z) (heap_alloc_new V _) ?_
    rw [hV]
    exact hb
  have B : Hid (Below w.heap.size w w2) := (chain_alloc (chain_alloc (Below.refl _ w) _) _).trans (hb.mono (by simp; omega))
  rw [← hz]
  clear hb hV hs hz
  obtain ⟨y0, y1⟩ := Z.out.cells
  have f0 := Z.out.frozen 0
  have f1 := Z.out.frozen 1
  have lz := Z.out.lt
  go_wp2_with fail
  have Z2 := Lib.hid (Z.out.set o)
  obtain ⟨x0, x1⟩ := Z2.out.cells
  exact bodyPost_ret (v := .agg #[.int .u64 (uz o.d), .int .u64 (uz o.e)]) (by simp [results, Tryz.results143, go_sem, x0, x1]) rfl ⟨rfl, below_set2 B.out zl _ _⟩

set_option maxHeartbeats 1000000 in
set_option maxRecDepth 100000 in
theorem close12 (a : Int) (o : On) (t : Tp) (w : World) : Calls Tryz.prog 142 #[.int .i64 a, onv o, tpv t] w fun e w' => e = .returned (.int .u64 (uz (closeU a o t))) ∧ Below w.heap.size w w' := by
  have CN : Hid (∀ w, Calls Tryz.prog 145 #[.agg #[.int .u64 (uz t.a), .int .u64 (uz t.b), .int .u64 (uz t.c), .int .u64 (uz o.d), .int .u64 (uz o.e)], .int .i64 a] w fun e w' => e = .returned (.int .u64 (uz (closeU a o t))) ∧ Below w.heap.size w w') := fun w => part12 a o t w
  unfold tpv onv
  obtain ⟨c, hc⟩ : ∃ c, c = closeU a o t := ⟨_, rfl⟩
  rw [← hc] at CN ⊢
  clear hc
  go_enter Tryz.func142, Tryz.ntmps142
  go_wp2_with fail
  obtain ⟨W, hW⟩ : ∃ W, W = w := ⟨_, rfl⟩
  refine (CN.out _).mono ?_
  rintro e w2 ⟨rfl, hb⟩
  have B := Lib.hid hb
  clear hb
  go_wp2_with fail
  go_ret
  exact ⟨rfl, (chain_alloc (chain_alloc (Below.refl _ w) _) _).trans (B.out.mono (by simp; omega))⟩

/-- A row of openings that is being filled. -/
def OB (w : World) (g n k : Nat) (os : List On) : Prop :=
  ∃ cs : Array Value, w.heap[g]? = some (.cells cs 71 (0, 0)) ∧ cs.size = n * 2 ∧ (∀ j, j < n * 2 → ∃ v : Int, cs[j]? = some (.int .u64 v)) ∧ ∀ j o, j < k → os[j]? = some o → cs[j * 2]? = some (.int .u64 (uz o.d)) ∧ cs[j * 2 + 1]? = some (.int .u64 (uz o.e))
theorem OB.lt {w : World} {g n k : Nat} {os : List On} (h : OB w g n k os) : g < w.heap.size := by
  obtain ⟨cs, h1, _⟩ := h
  exact (Array.getElem?_eq_some_iff.1 h1).1
theorem OB.start (w : World) (n : Nat) (os : List On) : OB (w.alloc (.cells (madeCells #[.int .u64 0, .int .u64 0] (n * 2)) 71)) w.heap.size n 0 os := by
  refine ⟨_, heap_alloc_new w _, size_madeCells _ _, fun j hj => ⟨0, ?_⟩, fun j _ hj => absurd hj (by omega)⟩
  have h3 : j % 2 = 0 ∨ j % 2 = 1 := by omega
  rcases h3 with h3 | h3 <;> simp [madeCells, hj, h3]
theorem OB.below {w w' : World} {g n k : Nat} {os : List On} (h : OB w g n k os) (hb : Below w.heap.size w w') : OB w' g n k os := by
  have hl := h.lt
  obtain ⟨cs, h1, h2⟩ := h
  exact ⟨cs, (hb.block g hl).trans h1, h2⟩
theorem OB.facts {w : World} {g n k : Nat} {os : List On} (h : OB w g n k os) (hk : k < n) : (∃ v, w.cell? ⟨g, k * 2, none⟩ = some (.int .u64 v)) ∧ (∃ v, w.cell? ⟨g, k * 2 + 1, none⟩ = some (.int .u64 v)) ∧ w.frozen? ⟨g, k * 2, none⟩ = false ∧ w.frozen? ⟨g, k * 2 + 1, none⟩ = false := by
  obtain ⟨cs, h1, h2, h3, _⟩ := h
  exact ⟨by rw [Lib.cell_of_heap h1]; exact h3 _ (by omega), by rw [Lib.cell_of_heap h1]; exact h3 _ (by omega), Lib.frozen_of_heap h1 _, Lib.frozen_of_heap h1 _⟩
theorem OB.step {w : World} {g n k : Nat} {os : List On} {o : On} (h : OB w g n k os) (hk : k < n) (ho : os[k]? = some o) :
    OB ((w.setCell ⟨g, k * 2, none⟩ (.int .u64 (uz o.d))).setCell ⟨g, k * 2 + 1, none⟩ (.int .u64 (uz o.e))) g n (k + 1) os := by
  obtain ⟨cs, h1, h2, h3, h4⟩ := h
  refine ⟨_, Lib.heap_setCell_same (Lib.heap_setCell_same h1 _) _, by simp [h2], fun j hj => ?_, fun j y hj hy => ?_⟩
  · obtain ⟨v, hv⟩ := h3 j hj
    by_cases e1 : j = k * 2 + 1
    · subst e1; exact ⟨_, Array.getElem?_setIfInBounds_self_of_lt (by simp; omega)⟩
    · rw [Array.getElem?_setIfInBounds_ne (Ne.symm e1)]
      by_cases e0 : j = k * 2
      · subst e0; exact ⟨_, Array.getElem?_setIfInBounds_self_of_lt (by omega)⟩
      · rw [Array.getElem?_setIfInBounds_ne (Ne.symm e0)]; exact ⟨v, hv⟩
  · by_cases e : j = k
    · subst e
      rw [ho] at hy
      obtain rfl := Option.some.inj hy
      refine ⟨?_, ?_⟩
      · rw [Array.getElem?_setIfInBounds_ne (by omega), Array.getElem?_setIfInBounds_self_of_lt (by omega)]
      · rw [Array.getElem?_setIfInBounds_self_of_lt (by simp; omega)]
    · obtain ⟨q0, q1⟩ := h4 j y (by omega) hy
      refine ⟨?_, ?_⟩ <;> rw [Array.getElem?_setIfInBounds_ne (by omega), Array.getElem?_setIfInBounds_ne (by omega)] <;> assumption
theorem OB.done {w : World} {g n : Nat} {os : List On} (h : OB w g n n os) (hn : os.length = n) : Rg oncells w (some ⟨g, 0, none⟩) os := fun _ => by
  have hl := h.lt
  obtain ⟨cs, h1, h2, h3, h4⟩ := h
  refine ⟨g, 0, rfl, hl, fun j u hu => ?_⟩
  rw [Nat.zero_add, Lib.cell_of_heap h1]
  have hj : j < os.length * 2 := by
    have := (List.getElem?_eq_some_iff.1 hu).1
    rwa [flat_len oncells_len] at this
  obtain ⟨t, ht⟩ : ∃ t, os[j / 2]? = some t := ⟨_, List.getElem?_eq_getElem (by omega)⟩
  have := flat_get oncells_len os (j / 2) (j % 2) _ ht (by omega)
  rw [show j / 2 * 2 + j % 2 = j by omega, hu] at this
  obtain ⟨q0, q1⟩ := h4 (j / 2) t (by omega) ht
  have h3 : j % 2 = 0 ∨ j % 2 = 1 := by omega
  rcases h3 with e | e
  · rw [e] at this; rw [show j = j / 2 * 2 by omega]; rw [this]; exact q0
  · rw [e] at this; rw [show j = j / 2 * 2 + 1 by omega]; rw [this]; exact q1

end Go.Proofs.YtklgjhldebdegaaGreat
