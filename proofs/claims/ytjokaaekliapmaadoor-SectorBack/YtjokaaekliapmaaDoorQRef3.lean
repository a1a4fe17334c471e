/-
  What the document's own functions of layer 16 answer: Get.
-/
import Derived.Test.YtjokaaekliapmaaDoorQRef2
import Derived.Deep.RegionHeld3
import Derived.Deep.DeepCutAuto
import Derived.RegionTactic
namespace Go.Proofs.YtjokaaekliapmaaDoor
open Go.RowKit

/-- A sector of bytes, and whether there is one. -/
def QTo (l : List UInt8) (w : World) (e : Ending) (w' : World) : Prop :=
  ∃ A c n, e = .returned (.tuple #[secv (getQ l) A n c, .bool (okQ l)]) ∧ n = (getQ l).b.length ∧ Rg bcells w' A (getQ l).b ∧ Below w.heap.size w w' ∧ n ≤ c ∧ ∀ a, A = some a → w.heap.size ≤ a.block
theorem b_cut16 (b o n c l h : Nat) (h1 : l ≤ h) (h2 : h ≤ c) (h3 : l < c) (w : World) : (Instr.slice 22 (.slice (some ⟨b, o, none⟩) n c) (some (.int .i64 (l : Int))) (some (.int .i64 (h : Int))) none).run Tryd.prog w = .ok (.slice (some ⟨b, o + l, none⟩) (h - l) (c - l)) w := by
  have e1 : ¬ c = l := by omega
  have e2 : (l : Int) ≤ (h : Int) := by omega
  have e3 : (h : Int) ≤ (c : Int) := by omega
  go_simp
theorem rg_cut16 {w : World} {b o : Nat} {xs : List UInt8} (h : Rg bcells w (some ⟨b, o, none⟩) xs) (l k : Nat) : Rg bcells w (some ⟨b, o + l, none⟩) ((xs.drop l).take k) := fun h0 => by
  obtain ⟨b', o', e, lt, hc⟩ := h (by rw [List.length_take, List.length_drop] at h0; omega)
  injection e with e
  injection e with e1 e2
  subst e1 e2
  refine ⟨b, o + l, rfl, lt, fun j u hu => ?_⟩
  have hj := (List.getElem?_eq_some_iff.1 hu).1
  rw [flat_len bcells_len, Nat.mul_one] at hj
  have hl : j < k ∧ l + j < xs.length := by rw [List.length_take, List.length_drop] at hj; omega
  have g := flat_get bcells_len _ j 0 _ (List.getElem?_eq_getElem hj) (by decide)
  rw [Nat.mul_one, Nat.add_zero, hu] at g
  have g2 := flat_get bcells_len xs (l + j) 0 _ (List.getElem?_eq_getElem hl.2) (by decide)
  rw [Nat.mul_one, Nat.add_zero] at g2
  rw [Nat.add_assoc]
  refine hc (l + j) u ?_
  rw [g2, g]
  simp
theorem okq_first {l : List UInt8} {x : UInt8} (h : l[0]? = some x) (hx : x ≠ 0) : okQ l = false := okq_no (fun ⟨h1, _, _, h4⟩ => by
  have h2 := (right_q.1 h4).2.1
  have h2 : ((rdN (l.take 8) : Nat) : Int) ≤ 281474976710656 := h2
  obtain ⟨t, rfl⟩ : ∃ t, l = x :: t := by
    cases l with
    | nil => simp at h
    | cons y t => simp at h; subst h; exact ⟨t, rfl⟩
  rw [List.take_succ_cons, rd_cons, List.length_take] at h2
  have h1 : t.length + 1 = 64 := h1
  rw [show min 7 t.length = 7 by omega] at h2
  have : 1 ≤ x.toNat := by
    rcases Nat.eq_zero_or_pos x.toNat with z | z
    · exact absurd (UInt8.toNat_inj.1 (by rw [z]; rfl)) hx
    · exact z
  have := Nat.mul_le_mul_right (256 ^ 7) this
  omega)
theorem okq_long {l : List UInt8} (h : 50 < rdN ((l.drop 13).take 1)) : okQ l = false := okq_no (fun ⟨_, h2, _, _⟩ => by omega)
theorem okq_behind {l : List UInt8} {j : Nat} {x : UInt8} (h : l[j]? = some x) (hj : 14 + rdN ((l.drop 13).take 1) ≤ j) (hx : x ≠ 0) : okQ l = false := okq_no (fun ⟨_, _, h3, _⟩ => hx (h3 x (List.mem_of_getElem? (i := j - (14 + rdN ((l.drop 13).take 1))) (by rw [List.getElem?_drop, show 14 + rdN ((l.drop 13).take 1) + (j - (14 + rdN ((l.drop 13).take 1))) = j by omega]; exact h))))
theorem rd_one {l : List UInt8} {j : Nat} {x : UInt8} (h : l[j]? = some x) : rdN ((l.drop j).take 1) = x.toNat := by
  have hj := (List.getElem?_eq_some_iff.1 h).1
  have e : (l.drop j).take 1 = [x] := by
    rw [List.take_one, List.head?_drop, h]; rfl
  rw [e, rd_cons]; simp [rdN]
def QV (w : World) (z : Nat) (v : Array Value) : Prop := w.heap[z]? = some (.cells v 24 (0, 0))
theorem QV.lt {w : World} {z : Nat} {v : Array Value} (H : QV w z v) : z < w.heap.size := (Array.getElem?_eq_some_iff.1 H).1
theorem QV.below {w w' : World} {z : Nat} {v : Array Value} (H : QV w z v) (hb : Below w.heap.size w w') : QV w' z v := (hb.block z H.lt).trans H
theorem QV.cells {w : World} {z : Nat} {a b c d e : Value} (H : QV w z #[a, b, c, d, e]) : w.cell? ⟨z, 0, none⟩ = some a ∧ w.cell? ⟨z, 1, none⟩ = some b ∧ w.cell? ⟨z, 2, none⟩ = some c ∧ w.cell? ⟨z, 3, none⟩ = some d ∧ w.cell? ⟨z, 4, none⟩ = some e ∧ ∀ j, w.frozen? ⟨z, j, none⟩ = false := by
  refine ⟨?_, ?_, ?_, ?_, ?_, fun j => Lib.frozen_of_heap H j⟩ <;> (rw [Lib.cell_of_heap H]; rfl)
theorem QV.sets {w : World} {z : Nat} {a b c d e a' b' c' d' e' : Value} (H : QV w z #[a, b, c, d, e]) : QV (((((w.setCell ⟨z, 0, none⟩ a').setCell ⟨z, 1, none⟩ b').setCell ⟨z, 2, none⟩ c').setCell ⟨z, 3, none⟩ d').setCell ⟨z, 4, none⟩ e') z #[a', b', c', d', e'] :=
  Lib.heap_setCell_same (i := 4) (Lib.heap_setCell_same (i := 3) (Lib.heap_setCell_same (i := 2) (Lib.heap_setCell_same (i := 1) (Lib.heap_setCell_same (i := 0) H a') b') c') d') e'
theorem below_sets5 {B z : Nat} {w0 w : World} (h : Below B w0 w) (hz : B ≤ z) (a b c d e : Value) : Below B w0 (((((w.setCell ⟨z, 0, none⟩ a).setCell ⟨z, 1, none⟩ b).setCell ⟨z, 2, none⟩ c).setCell ⟨z, 3, none⟩ d).setCell ⟨z, 4, none⟩ e) :=
  ((((h.setCell (p := ⟨z, 0, none⟩) hz a).setCell (p := ⟨z, 1, none⟩) hz b).setCell (p := ⟨z, 2, none⟩) hz c).setCell (p := ⟨z, 3, none⟩) hz d).setCell (p := ⟨z, 4, none⟩) hz e
theorem own_void16 {w : World} {B g : Nat} (h : w.heap[g]? = some (.cells #[] 5 (0, 0))) (hB : B ≤ g) : w.ownsRow B 5 1 (.slice (some ⟨g, 0, none⟩) 0 0) 0 (([] : List UInt8).flatMap bcells) :=
  ⟨by simp, .inr ⟨g, 0, #[], rfl, hB, h, Nat.le_refl _, Nat.zero_le _, by simp, by simp⟩⟩
def OB16 (w : World) (B : Nat) (A : Option Addr) (n c : Nat) (l : List UInt8) : Prop := w.ownsRow B 5 1 (.slice A n c) n (l.flatMap bcells)
/-- A copy of bytes in a block of its own. -/
theorem copy16 {w w0 : World} {g n c bA oA : Nat} {l : List UInt8} (hg : w.heap[g]? = some (.cells #[] 5 (0, 0))) (hr : Rg bcells w (some ⟨bA, oA, none⟩) l) (hn : n = l.length) (h1 : n ≤ 100000) (hB : w0.heap.size ≤ g) (hB0 : w0.heap.size ≤ w.heap.size) :
    ∃ (A' : Option Addr) (c' : Nat) (w' : World), (Builtin.append_ #[22, 22] 22 #[.slice (some ⟨g, 0, none⟩) 0 0, .slice (some ⟨bA, oA, none⟩) n c]).run Tryd.prog w = .ok (.slice A' n c') w' ∧ OB16 w' w0.heap.size A' n c' l ∧ Below w0.heap.size w w' ∧ ∀ z v, QV w z v → QV w' z v := by
  obtain ⟨i0, hi, hz0, hz1, hz2⟩ := info_parts Tryd.infoB
  have hcs : ∀ j u, (l.flatMap bcells)[j]? = some u → w.cell? ((⟨bA, oA, none⟩ : Addr).add j) = some u := fun j u hu => by
    have hj : j < l.length := by
      have := (List.getElem?_eq_some_iff.1 hu).1
      rw [flat_len bcells_len] at this; omega
    obtain ⟨b, off, e, _, hc⟩ := hr (by omega)
    have e := Option.some.inj e
    simp only [Addr.mk.injEq] at e
    obtain ⟨rfl, rfl, _⟩ := e
    rw [show (⟨bA, oA, none⟩ : Addr).add j = ⟨bA, oA + j, none⟩ by unfold Addr.add; split <;> simp_all]
    exact hc j u hu
  obtain ⟨v', w', hrun, h2, h3, _, _⟩ := run_append_own_at (P := Tryd.prog) w w0.heap.size 22 22 5 i0 (.int .u8 0) 1 1 Tryd.underlying22 hi hz0 hz1 hz2 rfl (by decide) _ 0 (([] : List UInt8).flatMap bcells) (own_void16 (B := w0.heap.size) hg hB) ⟨bA, oA, none⟩ n c (l.flatMap bcells) (by rw [flat_len bcells_len, hn]) hcs (fun u hu => by obtain ⟨y, _, hy2⟩ := List.mem_flatMap.1 hu; exact bcells_one y u hy2) (by unfold maxLen; omega) (by omega) hB0
  rw [Nat.zero_add] at h2
  obtain ⟨A', c', rfl, _⟩ := own_rg (f := bcells) (xs := l) bcells_len (by decide) (by simpa using h2)
  refine ⟨A', c', w', hrun, by unfold OB16; simpa using h2, (Below.refl _ w).grown h3 hB0 (fun k hk => by obtain rfl := Option.some.inj hk; exact hB), fun z v hz => (h3.block z hz.lt (fun e => ?_)).trans hz⟩
  obtain rfl := Option.some.inj e
  unfold QV at hz
  rw [hg] at hz
  injection hz with hz
  injection hz with _ hz _
  exact absurd hz (by decide)

def OV16 (w : World) (B vb : Nat) : Prop := w.heap[vb]? = some (.cells #[] 5 (0, 0)) ∧ B ≤ vb
theorem OV16.below {w w' : World} {B vb : Nat} (H : OV16 w B vb) (hb : Below w.heap.size w w') : OV16 w' B vb := ⟨(hb.block vb (Array.getElem?_eq_some_iff.1 H.1).1).trans H.1, H.2⟩
theorem OB16.below {w w' : World} {B n c : Nat} {A : Option Addr} {l : List UInt8} (H : OB16 w B A n c l) (hb : Below w.heap.size w w') : OB16 w' B A n c l := own_belowE H hb
theorem sets16 {w w0 : World} {B z k c' : Nat} {A' : Option Addr} {l : List UInt8} {a b c d e : Value} (G P t K : Int) (v : Value) (H : QV w z #[a, b, c, d, e]) (O : OB16 w B A' k c' l) (hb : Below w0.heap.size w0 w) (hz : w0.heap.size ≤ z) :
    QV (((((w.setCell ⟨z, 0, none⟩ (.int .i64 G)).setCell ⟨z, 1, none⟩ (.int .i64 P)).setCell ⟨z, 2, none⟩ (.int .i64 t)).setCell ⟨z, 3, none⟩ (.int .i64 K)).setCell ⟨z, 4, none⟩ v) z #[.int .i64 G, .int .i64 P, .int .i64 t, .int .i64 K, v] ∧
    OB16 (((((w.setCell ⟨z, 0, none⟩ (.int .i64 G)).setCell ⟨z, 1, none⟩ (.int .i64 P)).setCell ⟨z, 2, none⟩ (.int .i64 t)).setCell ⟨z, 3, none⟩ (.int .i64 K)).setCell ⟨z, 4, none⟩ v) B A' k c' l ∧
    Below w0.heap.size w0 (((((w.setCell ⟨z, 0, none⟩ (.int .i64 G)).setCell ⟨z, 1, none⟩ (.int .i64 P)).setCell ⟨z, 2, none⟩ (.int .i64 t)).setCell ⟨z, 3, none⟩ (.int .i64 K)).setCell ⟨z, 4, none⟩ v) := by
  refine ⟨H.sets, ?_, below_sets5 hb hz _ _ _ _ _⟩
  have h : ∀ (j : Nat) (u : Value) (v : World), v.ownsRow B 5 1 (.slice A' k c') k (l.flatMap bcells) → (∃ cs, v.heap[z]? = some (.cells cs 24 (0, 0))) → (v.setCell ⟨z, j, none⟩ u).ownsRow B 5 1 (.slice A' k c') k (l.flatMap bcells) ∧ ∃ cs, (v.setCell ⟨z, j, none⟩ u).heap[z]? = some (.cells cs 24 (0, 0)) := fun j u v h1 ⟨cs, h2⟩ =>
    ⟨ownsRow_setCell_other h1 (fun e => own_ne_type h1 h2 (by decide) e.symm) u, _, Lib.heap_setCell_same h2 u⟩
  obtain ⟨a1, a2⟩ := h 0 (.int .i64 G) w O ⟨_, H⟩
  obtain ⟨b1, b2⟩ := h 1 (.int .i64 P) _ a1 a2
  obtain ⟨c1, c2⟩ := h 2 (.int .i64 t) _ b1 b2
  obtain ⟨d1, d2⟩ := h 3 (.int .i64 K) _ c1 c2
  exact (h 4 v _ d1 d2).1
theorem qto_none {b : List UInt8} {w V : World} (hE : okQ b = false) (hB : Below w.heap.size w V) : QTo b w (.returned (.tuple #[.agg #[.int .i64 0, .int .i64 0, .int .i64 0, .int .i64 0, .slice none 0 0], .bool false])) V :=
  ⟨none, 0, 0, by rw [getq_no hE, hE]; rfl, by rw [getq_no hE]; rfl, by rw [getq_no hE]; exact Rg.nil _ _ _, hB, Nat.le_refl _, fun a q => by cases q⟩
theorem get_end {b : List UInt8} {w V : World} {z : Nat} {tmps : Array Value} (hE : okQ b = false) (hQ : QV V z #[.int .i64 0, .int .i64 0, .int .i64 0, .int .i64 0, .slice none 0 0]) (hB : Below w.heap.size w V) (h2 : tmps.getD 2 undef = .pointer (some ⟨z, 0, none⟩) := by rfl) (h3 : tmps.getD 3 undef = .bool false := by rfl) :
    bodyPost Tryd.prog Tryd.f11 (QTo b w) .ret { tmps := tmps, defers := [] } V := by
  obtain ⟨y0, y1, y2, y3, y4, _⟩ := hQ.cells
  have h2' : tmps[2]?.getD undef = .pointer (some ⟨z, 0, none⟩) := by simpa using h2
  have h3' : tmps[3]?.getD undef = .bool false := by simpa using h3
  exact bodyPost_ret (v := .tuple #[.agg #[.int .i64 0, .int .i64 0, .int .i64 0, .int .i64 0, .slice none 0 0], .bool false]) (by simp [results, Tryd.results11, go_sem, h2', h3', y0, y1, y2, y3, y4]) rfl (qto_none hE hB)

set_option maxHeartbeats 16000000 in
set_option maxRecDepth 100000 in
theorem rget16 (A : Option Addr) (cA n : Nat) (b : List UInt8) (w : World) (hx : Rg bcells w A b) (lx : n = b.length) (hc : n ≤ cA) (_hn : n ≤ 1000000) :
    Calls Tryd.prog 11 #[.slice A n cA] w (QTo b w) := by
  have HX := Lib.hid hx; have LX := Lib.hid lx
  clear hx lx
  by_cases n64 : n = 64
  case neg =>
    have b0 : ((n : Int) != 64) = true := by simp; omega
    have E := Lib.hid (okq_len (l := b) (by rw [← LX.out]; exact n64))
    clear n64
    go_enter Tryd.func11, Tryd.ntmps11
    go_wp2_with fail
    exact get_end E.out (heap_alloc_new w _) (chain_alloc (Below.refl _ w) _)
  subst n64
  have b0 : (((64 : Nat) : Int) != 64) = false := by simp
  obtain ⟨bA, oA, rfl, lA, qA⟩ := HX.out (by rw [← LX.out]; decide)
  have gt : ∀ j, j < 64 → ∃ x, b[j]? = some x := fun j hj => ⟨_, List.getElem?_eq_getElem (by rw [← LX.out]; exact hj)⟩
  obtain ⟨x0, g0⟩ := gt 0 (by decide)
  obtain ⟨x10, g10⟩ := gt 10 (by decide)
  obtain ⟨x13, g13⟩ := gt 13 (by decide)
  have BA := chain_alloc (Below.refl _ w) (.cells #[.int .i64 0, .int .i64 0, .int .i64 0, .int .i64 0, .slice none 0 0] 24)
  have Q0 : QV (w.alloc (.cells #[.int .i64 0, .int .i64 0, .int .i64 0, .int .i64 0, .slice none 0 0] 24)) w.heap.size #[.int .i64 0, .int .i64 0, .int .i64 0, .int .i64 0, .slice none 0 0] := heap_alloc_new w _
  have c0 := (BA.cell (p := ⟨bA, oA + 0, none⟩) lA).trans (b_cell qA g0)
  have c13 := (BA.cell (p := ⟨bA, oA + 13, none⟩) lA).trans (b_cell qA g13)
  have c10 := (BA.cell (p := ⟨bA, oA + 10, none⟩) lA).trans (b_cell qA g10)
  rw [Nat.add_zero] at c0
  obtain ⟨k, hk⟩ : ∃ k, k = x13.toNat := ⟨_, rfl⟩
  obtain ⟨t, ht⟩ : ∃ t, t = x10.toNat := ⟨_, rfl⟩
  have ek : bz x13 = (k : Int) := by rw [hk]; rfl
  have et : bz x10 = (t : Int) := by rw [ht]; rfl
  rw [ek] at c13
  rw [et] at c10
  have RK : Hid (rdN ((b.drop 13).take 1) = k) := by show _ = _; rw [hk]; exact rd_one g13
  have RT : Hid (rdN ((b.drop 10).take 1) = t) := by show _ = _; rw [ht]; exact rd_one g10
  have k255 : k < 256 := by rw [hk]; exact x13.toNat_lt
  have t255 : t < 256 := by rw [ht]; exact x10.toNat_lt
  have HQ := Lib.hid Q0; have BB := Lib.hid BA; have G0 := Lib.hid g0
  clear gt g10 g13 hk ht ek et BA Q0 qA g0
  by_cases z0 : bz x0 = 0
  case neg =>
    have b1 : (bz x0 != 0) = true := by simpa using z0
    have E := Lib.hid (okq_first G0.out (fun e => z0 (by rw [e]; rfl)))
    clear z0
    go_enter Tryd.func11, Tryd.ntmps11
    go_wp2_with fail
    exact get_end E.out HQ.out BB.out
  have b1 : (bz x0 != 0) = false := by simp [z0]
  rw [z0] at c0
  have X00 := Lib.hid z0
  have y1 : ((0 : Int) != 0) = false := rfl
  clear b1 z0
  by_cases k50 : 50 < k
  case pos =>
    have d1 : decide ((k : Int) > 50) = true := decide_eq_true (by omega)
    have d2 : decide ((50 : Int) < (k : Int)) = true := decide_eq_true (by omega)
    have d3 : decide (50 < k) = true := decide_eq_true k50
    have E := Lib.hid (okq_long (l := b) (by rw [RK.out]; exact k50))
    clear k50
    go_enter Tryd.func11, Tryd.ntmps11
    go_wp2_with fail
    exact get_end E.out HQ.out BB.out
  have d1 : decide ((k : Int) > 50) = false := decide_eq_false (by omega)
  have d2 : decide ((50 : Int) < (k : Int)) = false := decide_eq_false (by omega)
  have d3 : decide (50 < k) = false := decide_eq_false k50
  obtain ⟨q, hq⟩ : ∃ q, q = 14 + k := ⟨_, rfl⟩
  have v1 : IntKind.i64.wrap (14 + (k : Int)) = (q : Int) := by rw [IntWalk.i64_in _ (by omega)]; omega
  have v2 : wrap64 (14 + (k : Int)) = (q : Int) := by rw [IntWalk.wrap64_in _ (by omega)]; omega
  have q64 : q ≤ 64 := by omega
  have wt1 : IntKind.i64.wrap (t : Int) = (t : Int) := IntWalk.i64_in _ (by omega)
  have wt2 : wrap64 (t : Int) = (t : Int) := IntWalk.wrap64_in _ (by omega)
  have QK := Lib.hid hq
  have sl1 : ∀ v, (Instr.slice 22 (.slice (some ⟨bA, oA, none⟩) 64 cA) none (some (.int .i64 8)) none).run Tryd.prog v = .ok (.slice (some ⟨bA, oA, none⟩) 8 cA) v := fun v => by
    have e3 : (8 : Int) ≤ (cA : Int) := by omega
    have e4 : 8 ≤ cA := by omega
    have e5 : ¬ cA = 0 := by omega
    go_simp
  have sl2 : ∀ v, (Instr.slice 22 (.slice (some ⟨bA, oA, none⟩) 64 cA) (some (.int .i64 8)) (some (.int .i64 10)) none).run Tryd.prog v = .ok (.slice (some ⟨bA, oA + 8, none⟩) 2 (cA - 8)) v := fun v => b_cut16 bA oA 64 cA 8 10 (by omega) (by omega) (by omega) v
  have sl3 : ∀ v, (Instr.slice 22 (.slice (some ⟨bA, oA, none⟩) 64 cA) (some (.int .i64 11)) (some (.int .i64 13)) none).run Tryd.prog v = .ok (.slice (some ⟨bA, oA + 11, none⟩) 2 (cA - 11)) v := fun v => b_cut16 bA oA 64 cA 11 13 (by omega) (by omega) (by omega) v
  have sl4 : ∀ v, (Instr.slice 22 (.slice (some ⟨bA, oA, none⟩) 64 cA) (some (.int .i64 14)) (some (.int .i64 (q : Int))) none).run Tryd.prog v = .ok (.slice (some ⟨bA, oA + 14, none⟩) k (cA - 14)) v := fun v => by
    have := b_cut16 bA oA 64 cA 14 q (by omega) (by omega) (by omega) v
    rw [show q - 14 = k by omega] at this
    exact this
  obtain ⟨G, hG⟩ : ∃ G, G = rdN (b.take 8) := ⟨_, rfl⟩
  obtain ⟨P, hP⟩ : ∃ P, P = rdN ((b.drop 8).take 2) := ⟨_, rfl⟩
  obtain ⟨Kn, hKK⟩ : ∃ Kn, Kn = rdN ((b.drop 11).take 2) := ⟨_, rfl⟩
  have X0 : Hid (b.take 8 = 0 :: (b.drop 1).take 7) := by
    have h := G0.out
    have e : x0 = 0 := UInt8.toNat_inj.1 (by have := X00.out; unfold bz at this; rw [Int.natCast_eq_zero.1 this]; rfl)
    rw [e] at h
    show _ = _
    cases hb : b with
    | nil => rw [hb] at h; simp at h
    | cons y l => rw [hb] at h; simp at h; subst h; rfl
  have CR1 : Hid (∀ v, Below (w.alloc (.cells #[.int .i64 0, .int .i64 0, .int .i64 0, .int .i64 0, .slice none 0 0] 24)).heap.size (w.alloc (.cells #[.int .i64 0, .int .i64 0, .int .i64 0, .int .i64 0, .slice none 0 0] 24)) v → Calls Tryd.prog 20 #[.slice (some ⟨bA, oA, none⟩) 8 cA] v fun e w' => e = .returned (.int .i64 (G : Int)) ∧ Below v.heap.size v w') := fun v hv => by
    rw [hG]
    refine rread16 _ cA 8 (b.take 8) v ?_ (by rw [List.length_take, ← LX.out]; rfl) ?_ (by decide)
    · have := (rg_cut16 ((HX.out.below BB.out).below hv) 0 8)
      rw [List.drop_zero] at this
      exact this
    · rw [X0.out, rd_cons]
      have := rd_lt ((b.drop 1).take 7)
      have l7 : ((b.drop 1).take 7).length = 7 := by rw [List.length_take, List.length_drop, ← LX.out]; rfl
      rw [l7] at this ⊢
      show 0 * _ + _ < _
      omega
  have CR2 : Hid (∀ v, Below (w.alloc (.cells #[.int .i64 0, .int .i64 0, .int .i64 0, .int .i64 0, .slice none 0 0] 24)).heap.size (w.alloc (.cells #[.int .i64 0, .int .i64 0, .int .i64 0, .int .i64 0, .slice none 0 0] 24)) v → Calls Tryd.prog 20 #[.slice (some ⟨bA, oA + 8, none⟩) 2 (cA - 8)] v fun e w' => e = .returned (.int .i64 (P : Int)) ∧ Below v.heap.size v w') := fun v hv => by
    rw [hP]
    have l2 : ((b.drop 8).take 2).length = 2 := by rw [List.length_take, List.length_drop, ← LX.out]; rfl
    have := rd_lt ((b.drop 8).take 2)
    rw [l2] at this
    exact rread16 _ (cA - 8) 2 ((b.drop 8).take 2) v (rg_cut16 ((HX.out.below BB.out).below hv) 8 2) l2.symm (by omega) (by decide)
  have CR3 : Hid (∀ v, Below (w.alloc (.cells #[.int .i64 0, .int .i64 0, .int .i64 0, .int .i64 0, .slice none 0 0] 24)).heap.size (w.alloc (.cells #[.int .i64 0, .int .i64 0, .int .i64 0, .int .i64 0, .slice none 0 0] 24)) v → Calls Tryd.prog 20 #[.slice (some ⟨bA, oA + 11, none⟩) 2 (cA - 11)] v fun e w' => e = .returned (.int .i64 (Kn : Int)) ∧ Below v.heap.size v w') := fun v hv => by
    rw [hKK]
    have l2 : ((b.drop 11).take 2).length = 2 := by rw [List.length_take, List.length_drop, ← LX.out]; rfl
    have := rd_lt ((b.drop 11).take 2)
    rw [l2] at this
    exact rread16 _ (cA - 11) 2 ((b.drop 11).take 2) v (rg_cut16 ((HX.out.below BB.out).below hv) 11 2) l2.symm (by omega) (by decide)
  have R14 : Hid (∀ v, Below (w.alloc (.cells #[.int .i64 0, .int .i64 0, .int .i64 0, .int .i64 0, .slice none 0 0] 24)).heap.size (w.alloc (.cells #[.int .i64 0, .int .i64 0, .int .i64 0, .int .i64 0, .slice none 0 0] 24)) v → Rg bcells v (some ⟨bA, oA + 14, none⟩) ((b.drop 14).take k)) := fun v hv => rg_cut16 ((HX.out.below BB.out).below hv) 14 k
  have L14 : Hid (k = ((b.drop 14).take k).length) := by show _ = _; rw [List.length_take, List.length_drop, ← LX.out]; omega
  have HG := Lib.hid hG; have HP := Lib.hid hP; have HKK := Lib.hid hKK
  have l10 : bA < (w.alloc (.cells #[.int .i64 0, .int .i64 0, .int .i64 0, .int .i64 0, .slice none 0 0] 24)).heap.size := Nat.lt_of_lt_of_le lA BB.out.size
  have i10 : (10 : Int) < ((64 : Nat) : Int) := by decide
  have K50 : Hid (k ≤ 50) := by show k ≤ 50; omega
  clear hG hP hKK hq k50
  go_enter Tryd.func11, Tryd.ntmps11
  go_upto_region 6 with fail
  obtain ⟨zr, hzr⟩ : ∃ zr, zr = w.heap.size := ⟨_, rfl⟩
  rw [← hzr] at HQ ⊢
  have HZR := Lib.hid hzr
  clear hzr
  generalize w.alloc (.cells #[.int .i64 0, .int .i64 0, .int .i64 0, .int .i64 0, .slice none 0 0] 24) = w1 at HQ BB c0 c13 c10 CR1 CR2 CR3 R14 l10 ⊢
  go_cut [5] (fun s5 wx => ∃ (z : Nat) (A' : Option Addr) (c' : Nat), s5 = .pointer (some ⟨z, 0, none⟩) ∧ Hid (QV wx z #[.int .i64 (G : Int), .int .i64 (P : Int), .int .i64 (t : Int), .int .i64 (Kn : Int), .slice A' k c']) ∧ Hid (OB16 wx w1.heap.size A' k c' ((b.drop 14).take k)) ∧ Hid (Below w1.heap.size w1 wx) ∧ Hid (w1.heap.size ≤ z))
  case first =>
    clear c0 c13 d1 d2 d3 y1 b0
    refine wp_region_noPanic ?_
    refine wp_region_held_drew (S := fun w' => w'.cell? ⟨bA, oA + 10, none⟩ = some (.int .u8 (t : Int))) (by kernel_rfl) c10 (fun hHeld => ?_)
    have hd := below_drew w1
    replace c10 := (hd.cell (p := ⟨bA, oA + 10, none⟩) l10).trans c10
    replace l10 := Nat.lt_of_lt_of_le l10 hd.size
    generalize w1.drew = wq1 at hHeld hd c10 l10 ⊢
    have BD : Hid (Below wq1.heap.size wq1 wq1) := Below.refl _ _
    refine wpAnyH_take (i := 0) (v := ?vv1001) (by simp only [List.getElem?_toArray, List.getElem?_cons_zero]; rfl) (by kernel_rfl) (by kernel_rfl) (by kernel_rfl) (fun _ _ _ h => h) (Or.inl ⟨by rfl, ?yy1001⟩) (by assumption) ?rr1001
    case yy1001 => (intro w hSw; (try dsimp only at hSw); go_simp; first | done | with_reducible rfl)
    simp only [Act.put, List.setIfInBounds_toArray, List.set_cons_zero, List.set_cons_succ]
    refine wpAnyH_take (i := 1) (v := ?vv1002) (by simp only [List.getElem?_toArray, List.getElem?_cons_zero, List.getElem?_cons_succ]; rfl) (by kernel_rfl) (by kernel_rfl) (by kernel_rfl) (fun _ _ _ h => h) (Or.inl ⟨by rfl, ?yy1002⟩) (by assumption) ?rr1002
    case yy1002 => (intro w hSw; (try dsimp only at hSw); go_simp; first | done | with_reducible rfl)
    simp only [Act.put, List.setIfInBounds_toArray, List.set_cons_zero, List.set_cons_succ]
    refine wpAnyH_take (i := 3) (v := ?vv1003) (by simp only [List.getElem?_toArray, List.getElem?_cons_zero, List.getElem?_cons_succ]; rfl) (by kernel_rfl) (by kernel_rfl) (by kernel_rfl) (fun _ _ _ h => h) (Or.inl ⟨by rfl, ?yy1003⟩) (by assumption) ?rr1003
    case yy1003 => (intro w hSw; (try dsimp only at hSw); go_simp; first | done | with_reducible rfl)
    simp only [Act.put, List.setIfInBounds_toArray, List.set_cons_zero, List.set_cons_succ]
    refine wpAnyH_take (i := 4) (v := ?vv1004) (by simp only [List.getElem?_toArray, List.getElem?_cons_zero, List.getElem?_cons_succ]; rfl) (by kernel_rfl) (by kernel_rfl) (by kernel_rfl) (fun _ _ _ h => h) (Or.inl ⟨by rfl, ?yy1004⟩) (by assumption) ?rr1004
    case yy1004 => (intro w hSw; (try dsimp only at hSw); go_simp; first | done | with_reducible rfl)
    simp only [Act.put, List.setIfInBounds_toArray, List.set_cons_zero, List.set_cons_succ]
    refine wpAnyH_take (i := 6) (v := ?vv1005) (by simp only [List.getElem?_toArray, List.getElem?_cons_zero, List.getElem?_cons_succ]; rfl) (by kernel_rfl) (by kernel_rfl) (by kernel_rfl) (fun _ _ _ h => h) (Or.inl ⟨by rfl, ?yy1005⟩) (by assumption) ?rr1005
    case yy1005 => (intro w hSw; (try dsimp only at hSw); go_simp; first | done | with_reducible rfl)
    simp only [Act.put, List.setIfInBounds_toArray, List.set_cons_zero, List.set_cons_succ]
    refine wpAnyH_take (i := 7) (v := ?vv1006) (by simp only [List.getElem?_toArray, List.getElem?_cons_zero, List.getElem?_cons_succ]; rfl) (by kernel_rfl) (by kernel_rfl) (by kernel_rfl) (fun _ _ _ h => h) (Or.inl ⟨by rfl, ?yy1006⟩) (by assumption) ?rr1006
    case yy1006 => (intro w hSw; (try dsimp only at hSw); go_simp; first | done | with_reducible rfl)
    simp only [Act.put, List.setIfInBounds_toArray, List.set_cons_zero, List.set_cons_succ]
    refine wpAnyH_take (i := 8) (v := ?vv1007) (by simp only [List.getElem?_toArray, List.getElem?_cons_zero, List.getElem?_cons_succ]; rfl) (by kernel_rfl) (by kernel_rfl) (by kernel_rfl) (fun _ _ _ h => h) (Or.inl ⟨by rfl, ?yy1007⟩) (by assumption) ?rr1007
    case yy1007 => (intro w hSw; (try dsimp only at hSw); go_simp; first | done | with_reducible rfl)
    simp only [Act.put, List.setIfInBounds_toArray, List.set_cons_zero, List.set_cons_succ]
    refine wpAnyH_take (i := 9) (v := ?vv1008) (by simp only [List.getElem?_toArray, List.getElem?_cons_zero, List.getElem?_cons_succ]; rfl) (by kernel_rfl) (by kernel_rfl) (by kernel_rfl) (fun _ _ _ h => h) (Or.inl ⟨by rfl, ?yy1008⟩) (by assumption) ?rr1008
    case yy1008 => (intro w hSw; (try dsimp only at hSw); go_simp; first | done | with_reducible rfl)
    simp only [Act.put, List.setIfInBounds_toArray, List.set_cons_zero, List.set_cons_succ]
    refine wpAnyH_take (i := 10) (v := ?vv1009) (by simp only [List.getElem?_toArray, List.getElem?_cons_zero, List.getElem?_cons_succ]; rfl) (by kernel_rfl) (by kernel_rfl) (by kernel_rfl) (fun _ _ _ h => h) (Or.inl ⟨by rfl, ?yy1009⟩) (by assumption) ?rr1009
    case yy1009 => (intro w hSw; (try dsimp only at hSw); go_simp; first | done | with_reducible rfl)
    simp only [Act.put, List.setIfInBounds_toArray, List.set_cons_zero, List.set_cons_succ]
    refine wpAnyH_take (i := 11) (v := ?vv1010) (by simp only [List.getElem?_toArray, List.getElem?_cons_zero, List.getElem?_cons_succ]; rfl) (by kernel_rfl) (by kernel_rfl) (by kernel_rfl) (fun _ _ _ h => h) (Or.inl ⟨by rfl, ?yy1010⟩) (by assumption) ?rr1010
    case yy1010 => (intro w hSw; (try dsimp only at hSw); go_simp; first | done | with_reducible rfl)
    simp only [Act.put, List.setIfInBounds_toArray, List.set_cons_zero, List.set_cons_succ]
    refine wpAnyH_take (i := 14) (v := ?vv1011) (by simp only [List.getElem?_toArray, List.getElem?_cons_zero, List.getElem?_cons_succ]; rfl) (by kernel_rfl) (by kernel_rfl) (by kernel_rfl) (fun _ _ _ h => h) (Or.inl ⟨by rfl, ?yy1011⟩) (by assumption) ?rr1011
    case yy1011 => (intro w hSw; (try dsimp only at hSw); go_simp; first | done | with_reducible rfl)
    simp only [Act.put, List.setIfInBounds_toArray, List.set_cons_zero, List.set_cons_succ]
    refine wpAnyH_take (i := 15) (v := ?vv1012) (by simp only [List.getElem?_toArray, List.getElem?_cons_zero, List.getElem?_cons_succ]; rfl) (by kernel_rfl) (by kernel_rfl) (by kernel_rfl) (fun _ _ _ h => h) (Or.inl ⟨by rfl, ?yy1012⟩) (by assumption) ?rr1012
    case yy1012 => (intro w hSw; (try dsimp only at hSw); go_simp; first | done | with_reducible rfl)
    simp only [Act.put, List.setIfInBounds_toArray, List.set_cons_zero, List.set_cons_succ]
    refine wpAnyH_take (i := 16) (v := ?vv1013) (by simp only [List.getElem?_toArray, List.getElem?_cons_zero, List.getElem?_cons_succ]; rfl) (by kernel_rfl) (by kernel_rfl) (by kernel_rfl) (fun _ _ _ h => h) (Or.inl ⟨by rfl, ?yy1013⟩) (by assumption) ?rr1013
    case yy1013 => (intro w hSw; (try dsimp only at hSw); go_simp; first | done | with_reducible rfl)
    simp only [Act.put, List.setIfInBounds_toArray, List.set_cons_zero, List.set_cons_succ]
    refine wpAnyH_take (i := 17) (v := ?vv1014) (by simp only [List.getElem?_toArray, List.getElem?_cons_zero, List.getElem?_cons_succ]; rfl) (by kernel_rfl) (by kernel_rfl) (by kernel_rfl) (fun _ _ _ h => h) (Or.inl ⟨by rfl, ?yy1014⟩) (by assumption) ?rr1014
    case yy1014 => (intro w hSw; (try dsimp only at hSw); go_simp; first | done | with_reducible rfl)
    simp only [Act.put, List.setIfInBounds_toArray, List.set_cons_zero, List.set_cons_succ]
    refine wpAnyH_ready (rs := [2, 13, 20]) (by kernel_rfl) (by simp) ?_
    refine AllReadyH.cons (by simp only [List.getElem?_toArray, List.getElem?_cons_zero, List.getElem?_cons_succ]; rfl) (fun K hK => ?_) ?_
    · skip
      go_simp
      go_at_call 20
      (with_reducible refine ((CR1.out _ (chain hd BD.out))).mono ?_)
      rintro e wq2 ⟨rfl, hb⟩
      clear hHeld
      replace BD := Lib.hid (chain BD.out hb)
      clear hb
      go_wp2_with fail
      refine hK.out _ _ ((BD.out.cell (p := ⟨bA, oA + 10, none⟩) l10).trans c10) (fun hHeld => ?_)
      clear hK K
      try simp only [Act.put, List.setIfInBounds_toArray, List.set_cons_zero, List.set_cons_succ]
      refine wpAnyH_ready (rs := [5, 13, 20]) (by kernel_rfl) (by simp) ?_
      refine AllReadyH.cons (by simp only [List.getElem?_toArray, List.getElem?_cons_zero, List.getElem?_cons_succ]; rfl) (fun K hK => ?_) ?_
      · skip
        go_simp
        go_at_call 20
        (with_reducible refine ((CR2.out _ (chain hd BD.out))).mono ?_)
        rintro e wq3 ⟨rfl, hb⟩
        clear hHeld
        replace BD := Lib.hid (chain BD.out hb)
        clear hb
        go_wp2_with fail
        refine hK.out _ _ ((BD.out.cell (p := ⟨bA, oA + 10, none⟩) l10).trans c10) (fun hHeld => ?_)
        clear hK K
        try simp only [Act.put, List.setIfInBounds_toArray, List.set_cons_zero, List.set_cons_succ]
        refine wpAnyH_ready (rs := [12, 13, 20]) (by kernel_rfl) (by simp) ?_
        refine AllReadyH.cons (by simp only [List.getElem?_toArray, List.getElem?_cons_zero, List.getElem?_cons_succ]; rfl) (fun K hK => ?_) ?_
        · skip
          go_simp
          go_at_call 20
          (with_reducible refine ((CR3.out _ (chain hd BD.out))).mono ?_)
          rintro e wq4 ⟨rfl, hb⟩
          clear hHeld
          replace BD := Lib.hid (chain BD.out hb)
          clear hb
          go_wp2_with fail
          refine hK.out _ _ ((BD.out.cell (p := ⟨bA, oA + 10, none⟩) l10).trans c10) (fun hHeld => ?_)
          clear hK K
          try simp only [Act.put, List.setIfInBounds_toArray, List.set_cons_zero, List.set_cons_succ]
          refine wpAnyH_ready (rs := [13, 20]) (by kernel_rfl) (by simp) ?_
          refine AllReadyH.cons (by simp only [List.getElem?_toArray, List.getElem?_cons_zero, List.getElem?_cons_succ]; rfl) (fun K hK => ?_) ?_
          · skip
            go_simp
            clear hHeld
            obtain ⟨vb, hvb⟩ : ∃ b, b = wq4.heap.size := ⟨_, rfl⟩
            have QN : Hid (OV16 (wq4.alloc (.cells #[] 5)) wq1.heap.size vb) := by rw [hvb]; exact ⟨heap_alloc_new wq4 _, BD.out.size⟩
            rw [← hvb]
            clear hvb
            replace BD := Lib.hid (chain_alloc BD.out (.cells #[] 5))
            refine hK.out _ _ ((BD.out.cell (p := ⟨bA, oA + 10, none⟩) l10).trans c10) (fun hHeld => ?_)
            clear hK K
            try simp only [Act.put, List.setIfInBounds_toArray, List.set_cons_zero, List.set_cons_succ]
            generalize wq4.alloc (.cells #[] 5) = wq5 at hHeld QN BD ⊢
            refine wpAnyH_ready (rs := [18, 20]) (by kernel_rfl) (by simp) ?_
            refine AllReadyH.cons (by simp only [List.getElem?_toArray, List.getElem?_cons_zero, List.getElem?_cons_succ]; rfl) (fun K hK => ?_) ?_
            · skip
              obtain ⟨A', c', wq6, run5, ob5, ba, qz⟩ := copy16 (c := cA - 14) QN.out.1 (R14.out _ (chain hd BD.out)) L14.out (by omega) QN.out.2 BD.out.size
              refine step_append_run (by kernel_rfl) (.tmp 37) (.tmp 41) 22 22 (by kernel_rfl) (.slice (some ⟨vb, 0, none⟩) 0 0) (.slice (some ⟨bA, oA + 14, none⟩) k (cA - 14)) (by kernel_rfl) (by kernel_rfl) (.slice A' k c') run5 ?_
              clear hHeld
              replace BD := Lib.hid (BD.out.trans ba)
              refine hK.out _ _ ((BD.out.cell (p := ⟨bA, oA + 10, none⟩) l10).trans c10) (fun hHeld => ?_)
              clear hK K
              try simp only [Act.put, List.setIfInBounds_toArray, List.set_cons_zero, List.set_cons_succ]
              have QY := Lib.hid ob5
              clear ba ob5 run5 qz QN
              refine wpAnyH_take (i := 19) (v := ?vv1015) (by simp only [List.getElem?_toArray, List.getElem?_cons_zero, List.getElem?_cons_succ]; rfl) (by kernel_rfl) (by kernel_rfl) (by kernel_rfl) (fun _ _ _ h => h) (Or.inl ⟨by rfl, ?yy1015⟩) (by assumption) ?rr1015
              case yy1015 => (intro w hSw; (try dsimp only at hSw); go_simp; first | done | with_reducible rfl)
              simp only [Act.put, List.setIfInBounds_toArray, List.set_cons_zero, List.set_cons_succ]
              refine wpAnyH_ready (rs := [20]) (by kernel_rfl) (by simp) ?_
              refine AllReadyH.cons (by simp only [List.getElem?_toArray, List.getElem?_cons_zero, List.getElem?_cons_succ]; rfl) (fun K hK => ?_) ?_
              · skip
                go_simp
                clear hHeld
                obtain ⟨z, hB⟩ : ∃ b, b = wq6.heap.size := ⟨_, rfl⟩
                have zl : wq1.heap.size ≤ z := by rw [hB]; exact BD.out.size
                have Rz : Hid (QV (wq6.alloc (.cells #[.int .i64 0, .int .i64 0, .int .i64 0, .int .i64 0, .slice none 0 0] 24)) z #[.int .i64 0, .int .i64 0, .int .i64 0, .int .i64 0, .slice none 0 0]) := by rw [hB]; exact heap_alloc_new wq6 _
                rw [← hB]
                clear hB
                replace BD := Lib.hid (chain_alloc BD.out (.cells #[.int .i64 0, .int .i64 0, .int .i64 0, .int .i64 0, .slice none 0 0] 24))
                replace QY := Lib.hid (QY.out.below (chain_alloc (Below.refl _ wq6) (.cells #[.int .i64 0, .int .i64 0, .int .i64 0, .int .i64 0, .slice none 0 0] 24)))
                refine hK.out _ _ ((BD.out.cell (p := ⟨bA, oA + 10, none⟩) l10).trans c10) (fun hHeld => ?_)
                clear hK K
                try simp only [Act.put, List.setIfInBounds_toArray, List.set_cons_zero, List.set_cons_succ]
                generalize wq6.alloc (.cells #[.int .i64 0, .int .i64 0, .int .i64 0, .int .i64 0, .slice none 0 0] 24) = wq7 at hHeld Rz BD QY ⊢
                refine wpAnyH_ready (rs := [21]) (by kernel_rfl) (by simp) ?_
                refine AllReadyH.cons (by simp only [List.getElem?_toArray, List.getElem?_cons_zero, List.getElem?_cons_succ]; rfl) (fun K hK => ?_) ?_
                · skip
                  obtain ⟨z0, z1, z2, z3, z4, fz⟩ := Rz.out.cells
                  have f0 := fz 0
                  have f1 := fz 1
                  have f2 := fz 2
                  have f3 := fz 3
                  have f4 := fz 4
                  have rz' := Lib.hid Rz.out
                  go_simp
                  clear hHeld z0 z1 z2 z3 z4 fz f0 f1 f2 f3 f4
                  have hS := Lib.hid (sets16 (G : Int) (P : Int) (t : Int) (Kn : Int) (.slice A' k c') Rz.out QY.out BD.out zl)
                  refine hK.out _ _ ((hS.out.2.2.cell (p := ⟨bA, oA + 10, none⟩) l10).trans c10) (fun hHeld => ?_)
                  clear hK K
                  try simp only [Act.put, List.setIfInBounds_toArray, List.set_cons_zero, List.set_cons_succ]
                  generalize (((((wq7.setCell ⟨z, 0, none⟩ (.int .i64 (G : Int))).setCell ⟨z, 1, none⟩ (.int .i64 (P : Int))).setCell ⟨z, 2, none⟩ (.int .i64 (t : Int))).setCell ⟨z, 3, none⟩ (.int .i64 (Kn : Int))).setCell ⟨z, 4, none⟩ (.slice A' k c')) = wq8 at hHeld hS ⊢
                  clear rz'
                  refine wpAnyH_done (by kernel_rfl) ?_ _
                  refine NoPanic.normal ?_
                  clear hHeld
                  go_wp2_with fail
                  go_meet
                  exact ⟨z, A', c', rfl, hS.out.1, own_base hS.out.2.1 hd.size, chain hd hS.out.2.2, Nat.le_trans hd.size zl⟩
                exact AllReadyH.nil
              exact AllReadyH.nil
            refine AllReadyH.cons (by simp only [List.getElem?_toArray, List.getElem?_cons_zero, List.getElem?_cons_succ]; rfl) (fun K hK => ?_) ?_
            · skip
              go_simp
              clear hHeld
              obtain ⟨z, hB⟩ : ∃ b, b = wq5.heap.size := ⟨_, rfl⟩
              have zl : wq1.heap.size ≤ z := by rw [hB]; exact BD.out.size
              have Rz : Hid (QV (wq5.alloc (.cells #[.int .i64 0, .int .i64 0, .int .i64 0, .int .i64 0, .slice none 0 0] 24)) z #[.int .i64 0, .int .i64 0, .int .i64 0, .int .i64 0, .slice none 0 0]) := by rw [hB]; exact heap_alloc_new wq5 _
              rw [← hB]
              clear hB
              replace BD := Lib.hid (chain_alloc BD.out (.cells #[.int .i64 0, .int .i64 0, .int .i64 0, .int .i64 0, .slice none 0 0] 24))
              replace QN := Lib.hid (QN.out.below (chain_alloc (Below.refl _ wq5) (.cells #[.int .i64 0, .int .i64 0, .int .i64 0, .int .i64 0, .slice none 0 0] 24)))
              refine hK.out _ _ ((BD.out.cell (p := ⟨bA, oA + 10, none⟩) l10).trans c10) (fun hHeld => ?_)
              clear hK K
              try simp only [Act.put, List.setIfInBounds_toArray, List.set_cons_zero, List.set_cons_succ]
              generalize wq5.alloc (.cells #[.int .i64 0, .int .i64 0, .int .i64 0, .int .i64 0, .slice none 0 0] 24) = wq9 at hHeld Rz BD QN ⊢
              refine wpAnyH_ready (rs := [18]) (by kernel_rfl) (by simp) ?_
              refine AllReadyH.cons (by simp only [List.getElem?_toArray, List.getElem?_cons_zero, List.getElem?_cons_succ]; rfl) (fun K hK => ?_) ?_
              · skip
                obtain ⟨A', c', wq10, run5, ob5, ba, qz⟩ := copy16 (c := cA - 14) QN.out.1 (R14.out _ (chain hd BD.out)) L14.out (by omega) QN.out.2 BD.out.size
                refine step_append_run (by kernel_rfl) (.tmp 37) (.tmp 41) 22 22 (by kernel_rfl) (.slice (some ⟨vb, 0, none⟩) 0 0) (.slice (some ⟨bA, oA + 14, none⟩) k (cA - 14)) (by kernel_rfl) (by kernel_rfl) (.slice A' k c') run5 ?_
                clear hHeld
                replace BD := Lib.hid (BD.out.trans ba)
                refine hK.out _ _ ((BD.out.cell (p := ⟨bA, oA + 10, none⟩) l10).trans c10) (fun hHeld => ?_)
                clear hK K
                try simp only [Act.put, List.setIfInBounds_toArray, List.set_cons_zero, List.set_cons_succ]
                have QY := Lib.hid ob5
                replace Rz := Lib.hid (qz _ _ Rz.out)
                clear ba ob5 run5 qz QN
                refine wpAnyH_take (i := 19) (v := ?vv1016) (by simp only [List.getElem?_toArray, List.getElem?_cons_zero, List.getElem?_cons_succ]; rfl) (by kernel_rfl) (by kernel_rfl) (by kernel_rfl) (fun _ _ _ h => h) (Or.inl ⟨by rfl, ?yy1016⟩) (by assumption) ?rr1016
                case yy1016 => (intro w hSw; (try dsimp only at hSw); go_simp; first | done | with_reducible rfl)
                simp only [Act.put, List.setIfInBounds_toArray, List.set_cons_zero, List.set_cons_succ]
                refine wpAnyH_ready (rs := [21]) (by kernel_rfl) (by simp) ?_
                refine AllReadyH.cons (by simp only [List.getElem?_toArray, List.getElem?_cons_zero, List.getElem?_cons_succ]; rfl) (fun K hK => ?_) ?_
                · skip
                  obtain ⟨z0, z1, z2, z3, z4, fz⟩ := Rz.out.cells
                  have f0 := fz 0
                  have f1 := fz 1
                  have f2 := fz 2
                  have f3 := fz 3
                  have f4 := fz 4
                  have rz' := Lib.hid Rz.out
                  go_simp
                  clear hHeld z0 z1 z2 z3 z4 fz f0 f1 f2 f3 f4
                  have hS := Lib.hid (sets16 (G : Int) (P : Int) (t : Int) (Kn : Int) (.slice A' k c') Rz.out QY.out BD.out zl)
                  refine hK.out _ _ ((hS.out.2.2.cell (p := ⟨bA, oA + 10, none⟩) l10).trans c10) (fun hHeld => ?_)
                  clear hK K
                  try simp only [Act.put, List.setIfInBounds_toArray, List.set_cons_zero, List.set_cons_succ]
                  generalize (((((wq10.setCell ⟨z, 0, none⟩ (.int .i64 (G : Int))).setCell ⟨z, 1, none⟩ (.int .i64 (P : Int))).setCell ⟨z, 2, none⟩ (.int .i64 (t : Int))).setCell ⟨z, 3, none⟩ (.int .i64 (Kn : Int))).setCell ⟨z, 4, none⟩ (.slice A' k c')) = wq11 at hHeld hS ⊢
                  clear rz'
                  refine wpAnyH_done (by kernel_rfl) ?_ _
                  refine NoPanic.normal ?_
                  clear hHeld
                  go_wp2_with fail
                  go_meet
                  exact ⟨z, A', c', rfl, hS.out.1, own_base hS.out.2.1 hd.size, chain hd hS.out.2.2, Nat.le_trans hd.size zl⟩
                exact AllReadyH.nil
              exact AllReadyH.nil
            exact AllReadyH.nil
          refine AllReadyH.cons (by simp only [List.getElem?_toArray, List.getElem?_cons_zero, List.getElem?_cons_succ]; rfl) (fun K hK => ?_) ?_
          · skip
            go_simp
            clear hHeld
            obtain ⟨z, hB⟩ : ∃ b, b = wq4.heap.size := ⟨_, rfl⟩
            have zl : wq1.heap.size ≤ z := by rw [hB]; exact BD.out.size
            have Rz : Hid (QV (wq4.alloc (.cells #[.int .i64 0, .int .i64 0, .int .i64 0, .int .i64 0, .slice none 0 0] 24)) z #[.int .i64 0, .int .i64 0, .int .i64 0, .int .i64 0, .slice none 0 0]) := by rw [hB]; exact heap_alloc_new wq4 _
            rw [← hB]
            clear hB
            replace BD := Lib.hid (chain_alloc BD.out (.cells #[.int .i64 0, .int .i64 0, .int .i64 0, .int .i64 0, .slice none 0 0] 24))
            refine hK.out _ _ ((BD.out.cell (p := ⟨bA, oA + 10, none⟩) l10).trans c10) (fun hHeld => ?_)
            clear hK K
            try simp only [Act.put, List.setIfInBounds_toArray, List.set_cons_zero, List.set_cons_succ]
            generalize wq4.alloc (.cells #[.int .i64 0, .int .i64 0, .int .i64 0, .int .i64 0, .slice none 0 0] 24) = wq12 at hHeld Rz BD ⊢
            refine wpAnyH_ready (rs := [13]) (by kernel_rfl) (by simp) ?_
            refine AllReadyH.cons (by simp only [List.getElem?_toArray, List.getElem?_cons_zero, List.getElem?_cons_succ]; rfl) (fun K hK => ?_) ?_
            · skip
              go_simp
              clear hHeld
              obtain ⟨vb, hvb⟩ : ∃ b, b = wq12.heap.size := ⟨_, rfl⟩
              have QN : Hid (OV16 (wq12.alloc (.cells #[] 5)) wq1.heap.size vb) := by rw [hvb]; exact ⟨heap_alloc_new wq12 _, BD.out.size⟩
              rw [← hvb]
              clear hvb
              replace Rz := Lib.hid (Rz.out.below (chain_alloc (Below.refl _ wq12) (.cells #[] 5)))
              replace BD := Lib.hid (chain_alloc BD.out (.cells #[] 5))
              refine hK.out _ _ ((BD.out.cell (p := ⟨bA, oA + 10, none⟩) l10).trans c10) (fun hHeld => ?_)
              clear hK K
              try simp only [Act.put, List.setIfInBounds_toArray, List.set_cons_zero, List.set_cons_succ]
              generalize wq12.alloc (.cells #[] 5) = wq13 at hHeld QN BD Rz ⊢
              refine wpAnyH_ready (rs := [18]) (by kernel_rfl) (by simp) ?_
              refine AllReadyH.cons (by simp only [List.getElem?_toArray, List.getElem?_cons_zero, List.getElem?_cons_succ]; rfl) (fun K hK => ?_) ?_
              · skip
                obtain ⟨A', c', wq14, run5, ob5, ba, qz⟩ := copy16 (c := cA - 14) QN.out.1 (R14.out _ (chain hd BD.out)) L14.out (by omega) QN.out.2 BD.out.size
                refine step_append_run (by kernel_rfl) (.tmp 37) (.tmp 41) 22 22 (by kernel_rfl) (.slice (some ⟨vb, 0, none⟩) 0 0) (.slice (some ⟨bA, oA + 14, none⟩) k (cA - 14)) (by kernel_rfl) (by kernel_rfl) (.slice A' k c') run5 ?_
                clear hHeld
                replace BD := Lib.hid (BD.out.trans ba)
                refine hK.out _ _ ((BD.out.cell (p := ⟨bA, oA + 10, none⟩) l10).trans c10) (fun hHeld => ?_)
                clear hK K
                try simp only [Act.put, List.setIfInBounds_toArray, List.set_cons_zero, List.set_cons_succ]
                have QY := Lib.hid ob5
                replace Rz := Lib.hid (qz _ _ Rz.out)
                clear ba ob5 run5 qz QN
                refine wpAnyH_take (i := 19) (v := ?vv1017) (by simp only [List.getElem?_toArray, List.getElem?_cons_zero, List.getElem?_cons_succ]; rfl) (by kernel_rfl) (by kernel_rfl) (by kernel_rfl) (fun _ _ _ h => h) (Or.inl ⟨by rfl, ?yy1017⟩) (by assumption) ?rr1017
                case yy1017 => (intro w hSw; (try dsimp only at hSw); go_simp; first | done | with_reducible rfl)
                simp only [Act.put, List.setIfInBounds_toArray, List.set_cons_zero, List.set_cons_succ]
                refine wpAnyH_ready (rs := [21]) (by kernel_rfl) (by simp) ?_
                refine AllReadyH.cons (by simp only [List.getElem?_toArray, List.getElem?_cons_zero, List.getElem?_cons_succ]; rfl) (fun K hK => ?_) ?_
                · skip
                  obtain ⟨z0, z1, z2, z3, z4, fz⟩ := Rz.out.cells
                  have f0 := fz 0
                  have f1 := fz 1
                  have f2 := fz 2
                  have f3 := fz 3
                  have f4 := fz 4
                  have rz' := Lib.hid Rz.out
                  go_simp
                  clear hHeld z0 z1 z2 z3 z4 fz f0 f1 f2 f3 f4
                  have hS := Lib.hid (sets16 (G : Int) (P : Int) (t : Int) (Kn : Int) (.slice A' k c') Rz.out QY.out BD.out zl)
                  refine hK.out _ _ ((hS.out.2.2.cell (p := ⟨bA, oA + 10, none⟩) l10).trans c10) (fun hHeld => ?_)
                  clear hK K
                  try simp only [Act.put, List.setIfInBounds_toArray, List.set_cons_zero, List.set_cons_succ]
                  generalize (((((wq14.setCell ⟨z, 0, none⟩ (.int .i64 (G : Int))).setCell ⟨z, 1, none⟩ (.int .i64 (P : Int))).setCell ⟨z, 2, none⟩ (.int .i64 (t : Int))).setCell ⟨z, 3, none⟩ (.int .i64 (Kn : Int))).setCell ⟨z, 4, none⟩ (.slice A' k c')) = wq15 at hHeld hS ⊢
                  clear rz'
                  refine wpAnyH_done (by kernel_rfl) ?_ _
                  refine NoPanic.normal ?_
                  clear hHeld
                  go_wp2_with fail
                  go_meet
                  exact ⟨z, A', c', rfl, hS.out.1, own_base hS.out.2.1 hd.size, chain hd hS.out.2.2, Nat.le_trans hd.size zl⟩
                exact AllReadyH.nil
              exact AllReadyH.nil
            exact AllReadyH.nil
          exact AllReadyH.nil
        refine AllReadyH.cons (by simp only [List.getElem?_toArray, List.getElem?_cons_zero, List.getElem?_cons_succ]; rfl) (fun K hK => ?_) ?_
        · skip
          go_simp
          clear hHeld
          obtain ⟨vb, hvb⟩ : ∃ b, b = wq3.heap.size := ⟨_, rfl⟩
          have QN : Hid (OV16 (wq3.alloc (.cells #[] 5)) wq1.heap.size vb) := by rw [hvb]; exact ⟨heap_alloc_new wq3 _, BD.out.size⟩
          rw [← hvb]
          clear hvb
          replace BD := Lib.hid (chain_alloc BD.out (.cells #[] 5))
          refine hK.out _ _ ((BD.out.cell (p := ⟨bA, oA + 10, none⟩) l10).trans c10) (fun hHeld => ?_)
          clear hK K
          try simp only [Act.put, List.setIfInBounds_toArray, List.set_cons_zero, List.set_cons_succ]
          generalize wq3.alloc (.cells #[] 5) = wq16 at hHeld QN BD ⊢
          refine wpAnyH_ready (rs := [12, 20]) (by kernel_rfl) (by simp) ?_
          refine AllReadyH.cons (by simp only [List.getElem?_toArray, List.getElem?_cons_zero, List.getElem?_cons_succ]; rfl) (fun K hK => ?_) ?_
          · skip
            go_simp
            go_at_call 20
            (with_reducible refine ((CR3.out _ (chain hd BD.out))).mono ?_)
            rintro e wq17 ⟨rfl, hb⟩
            clear hHeld
            replace BD := Lib.hid (chain BD.out hb)
            replace QN := Lib.hid (QN.out.below hb)
            clear hb
            go_wp2_with fail
            refine hK.out _ _ ((BD.out.cell (p := ⟨bA, oA + 10, none⟩) l10).trans c10) (fun hHeld => ?_)
            clear hK K
            try simp only [Act.put, List.setIfInBounds_toArray, List.set_cons_zero, List.set_cons_succ]
            refine wpAnyH_ready (rs := [18, 20]) (by kernel_rfl) (by simp) ?_
            refine AllReadyH.cons (by simp only [List.getElem?_toArray, List.getElem?_cons_zero, List.getElem?_cons_succ]; rfl) (fun K hK => ?_) ?_
            · skip
              obtain ⟨A', c', wq18, run5, ob5, ba, qz⟩ := copy16 (c := cA - 14) QN.out.1 (R14.out _ (chain hd BD.out)) L14.out (by omega) QN.out.2 BD.out.size
              refine step_append_run (by kernel_rfl) (.tmp 37) (.tmp 41) 22 22 (by kernel_rfl) (.slice (some ⟨vb, 0, none⟩) 0 0) (.slice (some ⟨bA, oA + 14, none⟩) k (cA - 14)) (by kernel_rfl) (by kernel_rfl) (.slice A' k c') run5 ?_
              clear hHeld
              replace BD := Lib.hid (BD.out.trans ba)
              refine hK.out _ _ ((BD.out.cell (p := ⟨bA, oA + 10, none⟩) l10).trans c10) (fun hHeld => ?_)
              clear hK K
              try simp only [Act.put, List.setIfInBounds_toArray, List.set_cons_zero, List.set_cons_succ]
              have QY := Lib.hid ob5
              clear ba ob5 run5 qz QN
              refine wpAnyH_take (i := 19) (v := ?vv1018) (by simp only [List.getElem?_toArray, List.getElem?_cons_zero, List.getElem?_cons_succ]; rfl) (by kernel_rfl) (by kernel_rfl) (by kernel_rfl) (fun _ _ _ h => h) (Or.inl ⟨by rfl, ?yy1018⟩) (by assumption) ?rr1018
              case yy1018 => (intro w hSw; (try dsimp only at hSw); go_simp; first | done | with_reducible rfl)
              simp only [Act.put, List.setIfInBounds_toArray, List.set_cons_zero, List.set_cons_succ]
              refine wpAnyH_ready (rs := [20]) (by kernel_rfl) (by simp) ?_
              refine AllReadyH.cons (by simp only [List.getElem?_toArray, List.getElem?_cons_zero, List.getElem?_cons_succ]; rfl) (fun K hK => ?_) ?_
              · skip
                go_simp
                clear hHeld
                obtain ⟨z, hB⟩ : ∃ b, b = wq18.heap.size := ⟨_, rfl⟩
                have zl : wq1.heap.size ≤ z := by rw [hB]; exact BD.out.size
                have Rz : Hid (QV (wq18.alloc (.cells #[.int .i64 0, .int .i64 0, .int .i64 0, .int .i64 0, .slice none 0 0] 24)) z #[.int .i64 0, .int .i64 0, .int .i64 0, .int .i64 0, .slice none 0 0]) := by rw [hB]; exact heap_alloc_new wq18 _
                rw [← hB]
                clear hB
                replace BD := Lib.hid (chain_alloc BD.out (.cells #[.int .i64 0, .int .i64 0, .int .i64 0, .int .i64 0, .slice none 0 0] 24))
                replace QY := Lib.hid (QY.out.below (chain_alloc (Below.refl _ wq18) (.cells #[.int .i64 0, .int .i64 0, .int .i64 0, .int .i64 0, .slice none 0 0] 24)))
                refine hK.out _ _ ((BD.out.cell (p := ⟨bA, oA + 10, none⟩) l10).trans c10) (fun hHeld => ?_)
                clear hK K
                try simp only [Act.put, List.setIfInBounds_toArray, List.set_cons_zero, List.set_cons_succ]
                generalize wq18.alloc (.cells #[.int .i64 0, .int .i64 0, .int .i64 0, .int .i64 0, .slice none 0 0] 24) = wq19 at hHeld Rz BD QY ⊢
                refine wpAnyH_ready (rs := [21]) (by kernel_rfl) (by simp) ?_
                refine AllReadyH.cons (by simp only [List.getElem?_toArray, List.getElem?_cons_zero, List.getElem?_cons_succ]; rfl) (fun K hK => ?_) ?_
                · skip
                  obtain ⟨z0, z1, z2, z3, z4, fz⟩ := Rz.out.cells
                  have f0 := fz 0
                  have f1 := fz 1
                  have f2 := fz 2
                  have f3 := fz 3
                  have f4 := fz 4
                  have rz' := Lib.hid Rz.out
                  go_simp
                  clear hHeld z0 z1 z2 z3 z4 fz f0 f1 f2 f3 f4
                  have hS := Lib.hid (sets16 (G : Int) (P : Int) (t : Int) (Kn : Int) (.slice A' k c') Rz.out QY.out BD.out zl)
                  refine hK.out _ _ ((hS.out.2.2.cell (p := ⟨bA, oA + 10, none⟩) l10).trans c10) (fun hHeld => ?_)
                  clear hK K
                  try simp only [Act.put, List.setIfInBounds_toArray, List.set_cons_zero, List.set_cons_succ]
                  generalize (((((wq19.setCell ⟨z, 0, none⟩ (.int .i64 (G : Int))).setCell ⟨z, 1, none⟩ (.int .i64 (P : Int))).setCell ⟨z, 2, none⟩ (.int .i64 (t : Int))).setCell ⟨z, 3, none⟩ (.int .i64 (Kn : Int))).setCell ⟨z, 4, none⟩ (.slice A' k c')) = wq20 at hHeld hS ⊢
                  clear rz'
                  refine wpAnyH_done (by kernel_rfl) ?_ _
                  refine NoPanic.normal ?_
                  clear hHeld
                  go_wp2_with fail
                  go_meet
                  exact ⟨z, A', c', rfl, hS.out.1, own_base hS.out.2.1 hd.size, chain hd hS.out.2.2, Nat.le_trans hd.size zl⟩
                exact AllReadyH.nil
              exact AllReadyH.nil
            refine AllReadyH.cons (by simp only [List.getElem?_toArray, List.getElem?_cons_zero, List.getElem?_cons_succ]; rfl) (fun K hK => ?_) ?_
            · skip
              go_simp
              clear hHeld
              obtain ⟨z, hB⟩ : ∃ b, b = wq17.heap.size := ⟨_, rfl⟩
              have zl : wq1.heap.size ≤ z := by rw [hB]; exact BD.out.size
              have Rz : Hid (QV (wq17.alloc (.cells #[.int .i64 0, .int .i64 0, .int .i64 0, .int .i64 0, .slice none 0 0] 24)) z #[.int .i64 0, .int .i64 0, .int .i64 0, .int .i64 0, .slice none 0 0]) := by rw [hB]; exact heap_alloc_new wq17 _
              rw [← hB]
              clear hB
              replace BD := Lib.hid (chain_alloc BD.out (.cells #[.int .i64 0, .int .i64 0, .int .i64 0, .int .i64 0, .slice none 0 0] 24))
              replace QN := Lib.hid (QN.out.below (chain_alloc (Below.refl _ wq17) (.cells #[.int .i64 0, .int .i64 0, .int .i64 0, .int .i64 0, .slice none 0 0] 24)))
              refine hK.out _ _ ((BD.out.cell (p := ⟨bA, oA + 10, none⟩) l10).trans c10) (fun hHeld => ?_)
              clear hK K
              try simp only [Act.put, List.setIfInBounds_toArray, List.set_cons_zero, List.set_cons_succ]
              generalize wq17.alloc (.cells #[.int .i64 0, .int .i64 0, .int .i64 0, .int .i64 0, .slice none 0 0] 24) = wq21 at hHeld Rz BD QN ⊢
              refine wpAnyH_ready (rs := [18]) (by kernel_rfl) (by simp) ?_
              refine AllReadyH.cons (by simp only [List.getElem?_toArray, List.getElem?_cons_zero, List.getElem?_cons_succ]; rfl) (fun K hK => ?_) ?_
              · skip
                obtain ⟨A', c', wq22, run5, ob5, ba, qz⟩ := copy16 (c := cA - 14) QN.out.1 (R14.out _ (chain hd BD.out)) L14.out (by omega) QN.out.2 BD.out.size
                refine step_append_run (by kernel_rfl) (.tmp 37) (.tmp 41) 22 22 (by kernel_rfl) (.slice (some ⟨vb, 0, none⟩) 0 0) (.slice (some ⟨bA, oA + 14, none⟩) k (cA - 14)) (by kernel_rfl) (by kernel_rfl) (.slice A' k c') run5 ?_
                clear hHeld
                replace BD := Lib.hid (BD.out.trans ba)
                refine hK.out _ _ ((BD.out.cell (p := ⟨bA, oA + 10, none⟩) l10).trans c10) (fun hHeld => ?_)
                clear hK K
                try simp only [Act.put, List.setIfInBounds_toArray, List.set_cons_zero, List.set_cons_succ]
                have QY := Lib.hid ob5
                replace Rz := Lib.hid (qz _ _ Rz.out)
                clear ba ob5 run5 qz QN
                refine wpAnyH_take (i := 19) (v := ?vv1019) (by simp only [List.getElem?_toArray, List.getElem?_cons_zero, List.getElem?_cons_succ]; rfl) (by kernel_rfl) (by kernel_rfl) (by kernel_rfl) (fun _ _ _ h => h) (Or.inl ⟨by rfl, ?yy1019⟩) (by assumption) ?rr1019
                case yy1019 => (intro w hSw; (try dsimp only at hSw); go_simp; first | done | with_reducible rfl)
                simp only [Act.put, List.setIfInBounds_toArray, List.set_cons_zero, List.set_cons_succ]
                refine wpAnyH_ready (rs := [21]) (by kernel_rfl) (by simp) ?_
                refine AllReadyH.cons (by simp only [List.getElem?_toArray, List.getElem?_cons_zero, List.getElem?_cons_succ]; rfl) (fun K hK => ?_) ?_
                · skip
                  obtain ⟨z0, z1, z2, z3, z4, fz⟩ := Rz.out.cells
                  have f0 := fz 0
                  have f1 := fz 1
                  have f2 := fz 2
                  have f3 := fz 3
                  have f4 := fz 4
                  have rz' := Lib.hid Rz.out
                  go_simp
                  clear hHeld z0 z1 z2 z3 z4 fz f0 f1 f2 f3 f4
                  have hS := Lib.hid (sets16 (G : Int) (P : Int) (t : Int) (Kn : Int) (.slice A' k c') Rz.out QY.out BD.out zl)
                  refine hK.out _ _ ((hS.out.2.2.cell (p := ⟨bA, oA + 10, none⟩) l10).trans c10) (fun hHeld => ?_)
                  clear hK K
                  try simp only [Act.put, List.setIfInBounds_toArray, List.set_cons_zero, List.set_cons_succ]
                  generalize (((((wq22.setCell ⟨z, 0, none⟩ (.int .i64 (G : Int))).setCell ⟨z, 1, none⟩ (.int .i64 (P : Int))).setCell ⟨z, 2, none⟩ (.int .i64 (t : Int))).setCell ⟨z, 3, none⟩ (.int .i64 (Kn : Int))).setCell ⟨z, 4, none⟩ (.slice A' k c')) = wq23 at hHeld hS ⊢
                  clear rz'
                  refine wpAnyH_done (by kernel_rfl) ?_ _
                  refine NoPanic.normal ?_
                  clear hHeld
                  go_wp2_with fail
                  go_meet
                  exact ⟨z, A', c', rfl, hS.out.1, own_base hS.out.2.1 hd.size, chain hd hS.out.2.2, Nat.le_trans hd.size zl⟩
                exact AllReadyH.nil
              exact AllReadyH.nil
            exact AllReadyH.nil
          refine AllReadyH.cons (by simp only [List.getElem?_toArray, List.getElem?_cons_zero, List.getElem?_cons_succ]; rfl) (fun K hK => ?_) ?_
          · skip
            go_simp
            clear hHeld
            obtain ⟨z, hB⟩ : ∃ b, b = wq16.heap.size := ⟨_, rfl⟩
            have zl : wq1.heap.size ≤ z := by rw [hB]; exact BD.out.size
            have Rz : Hid (QV (wq16.alloc (.cells #[.int .i64 0, .int .i64 0, .int .i64 0, .int .i64 0, .slice none 0 0] 24)) z #[.int .i64 0, .int .i64 0, .int .i64 0, .int .i64 0, .slice none 0 0]) := by rw [hB]; exact heap_alloc_new wq16 _
            rw [← hB]
            clear hB
            replace BD := Lib.hid (chain_alloc BD.out (.cells #[.int .i64 0, .int .i64 0, .int .i64 0, .int .i64 0, .slice none 0 0] 24))
            replace QN := Lib.hid (QN.out.below (chain_alloc (Below.refl _ wq16) (.cells #[.int .i64 0, .int .i64 0, .int .i64 0, .int .i64 0, .slice none 0 0] 24)))
            refine hK.out _ _ ((BD.out.cell (p := ⟨bA, oA + 10, none⟩) l10).trans c10) (fun hHeld => ?_)
            clear hK K
            try simp only [Act.put, List.setIfInBounds_toArray, List.set_cons_zero, List.set_cons_succ]
            generalize wq16.alloc (.cells #[.int .i64 0, .int .i64 0, .int .i64 0, .int .i64 0, .slice none 0 0] 24) = wq24 at hHeld Rz BD QN ⊢
            refine wpAnyH_ready (rs := [12]) (by kernel_rfl) (by simp) ?_
            refine AllReadyH.cons (by simp only [List.getElem?_toArray, List.getElem?_cons_zero, List.getElem?_cons_succ]; rfl) (fun K hK => ?_) ?_
            · skip
              go_simp
              go_at_call 20
              (with_reducible refine ((CR3.out _ (chain hd BD.out))).mono ?_)
              rintro e wq25 ⟨rfl, hb⟩
              clear hHeld
              replace BD := Lib.hid (chain BD.out hb)
              replace QN := Lib.hid (QN.out.below hb)
              replace Rz := Lib.hid (Rz.out.below hb)
              clear hb
              go_wp2_with fail
              refine hK.out _ _ ((BD.out.cell (p := ⟨bA, oA + 10, none⟩) l10).trans c10) (fun hHeld => ?_)
              clear hK K
              try simp only [Act.put, List.setIfInBounds_toArray, List.set_cons_zero, List.set_cons_succ]
              refine wpAnyH_ready (rs := [18]) (by kernel_rfl) (by simp) ?_
              refine AllReadyH.cons (by simp only [List.getElem?_toArray, List.getElem?_cons_zero, List.getElem?_cons_succ]; rfl) (fun K hK => ?_) ?_
              · skip
                obtain ⟨A', c', wq26, run5, ob5, ba, qz⟩ := copy16 (c := cA - 14) QN.out.1 (R14.out _ (chain hd BD.out)) L14.out (by omega) QN.out.2 BD.out.size
                refine step_append_run (by kernel_rfl) (.tmp 37) (.tmp 41) 22 22 (by kernel_rfl) (.slice (some ⟨vb, 0, none⟩) 0 0) (.slice (some ⟨bA, oA + 14, none⟩) k (cA - 14)) (by kernel_rfl) (by kernel_rfl) (.slice A' k c') run5 ?_
                clear hHeld
                replace BD := Lib.hid (BD.out.trans ba)
                refine hK.out _ _ ((BD.out.cell (p := ⟨bA, oA + 10, none⟩) l10).trans c10) (fun hHeld => ?_)
                clear hK K
                try simp only [Act.put, List.setIfInBounds_toArray, List.set_cons_zero, List.set_cons_succ]
                have QY := Lib.hid ob5
                replace Rz := Lib.hid (qz _ _ Rz.out)
                clear ba ob5 run5 qz QN
                refine wpAnyH_take (i := 19) (v := ?vv1020) (by simp only [List.getElem?_toArray, List.getElem?_cons_zero, List.getElem?_cons_succ]; rfl) (by kernel_rfl) (by kernel_rfl) (by kernel_rfl) (fun _ _ _ h => h) (Or.inl ⟨by rfl, ?yy1020⟩) (by assumption) ?rr1020
                case yy1020 => (intro w hSw; (try dsimp only at hSw); go_simp; first | done | with_reducible rfl)
                simp only [Act.put, List.setIfInBounds_toArray, List.set_cons_zero, List.set_cons_succ]
                refine wpAnyH_ready (rs := [21]) (by kernel_rfl) (by simp) ?_
                refine AllReadyH.cons (by simp only [List.getElem?_toArray, List.getElem?_cons_zero, List.getElem?_cons_succ]; rfl) (fun K hK => ?_) ?_
                · skip
                  obtain ⟨z0, z1, z2, z3, z4, fz⟩ := Rz.out.cells
                  have f0 := fz 0
                  have f1 := fz 1
                  have f2 := fz 2
                  have f3 := fz 3
                  have f4 := fz 4
                  have rz' := Lib.hid Rz.out
                  go_simp
                  clear hHeld z0 z1 z2 z3 z4 fz f0 f1 f2 f3 f4
                  have hS := Lib.hid (sets16 (G : Int) (P : Int) (t : Int) (Kn : Int) (.slice A' k c') Rz.out QY.out BD.out zl)
                  refine hK.out _ _ ((hS.out.2.2.cell (p := ⟨bA, oA + 10, none⟩) l10).trans c10) (fun hHeld => ?_)
                  clear hK K
                  try simp only [Act.put, List.setIfInBounds_toArray, List.set_cons_zero, List.set_cons_succ]
                  generalize (((((wq26.setCell ⟨z, 0, none⟩ (.int .i64 (G : Int))).setCell ⟨z, 1, none⟩ (.int .i64 (P : Int))).setCell ⟨z, 2, none⟩ (.int .i64 (t : Int))).setCell ⟨z, 3, none⟩ (.int .i64 (Kn : Int))).setCell ⟨z, 4, none⟩ (.slice A' k c')) = wq27 at hHeld hS ⊢
                  clear rz'
                  refine wpAnyH_done (by kernel_rfl) ?_ _
                  refine NoPanic.normal ?_
                  clear hHeld
                  go_wp2_with fail
                  go_meet
                  exact ⟨z, A', c', rfl, hS.out.1, own_base hS.out.2.1 hd.size, chain hd hS.out.2.2, Nat.le_trans hd.size zl⟩
                exact AllReadyH.nil
              exact AllReadyH.nil
            exact AllReadyH.nil
          exact AllReadyH.nil
        refine AllReadyH.cons (by simp only [List.getElem?_toArray, List.getElem?_cons_zero, List.getElem?_cons_succ]; rfl) (fun K hK => ?_) ?_
        · skip
          go_simp
          clear hHeld
          obtain ⟨z, hB⟩ : ∃ b, b = wq3.heap.size := ⟨_, rfl⟩
          have zl : wq1.heap.size ≤ z := by rw [hB]; exact BD.out.size
          have Rz : Hid (QV (wq3.alloc (.cells #[.int .i64 0, .int .i64 0, .int .i64 0, .int .i64 0, .slice none 0 0] 24)) z #[.int .i64 0, .int .i64 0, .int .i64 0, .int .i64 0, .slice none 0 0]) := by rw [hB]; exact heap_alloc_new wq3 _
          rw [← hB]
          clear hB
          replace BD := Lib.hid (chain_alloc BD.out (.cells #[.int .i64 0, .int .i64 0, .int .i64 0, .int .i64 0, .slice none 0 0] 24))
          refine hK.out _ _ ((BD.out.cell (p := ⟨bA, oA + 10, none⟩) l10).trans c10) (fun hHeld => ?_)
          clear hK K
          try simp only [Act.put, List.setIfInBounds_toArray, List.set_cons_zero, List.set_cons_succ]
          generalize wq3.alloc (.cells #[.int .i64 0, .int .i64 0, .int .i64 0, .int .i64 0, .slice none 0 0] 24) = wq28 at hHeld Rz BD ⊢
          refine wpAnyH_ready (rs := [12, 13]) (by kernel_rfl) (by simp) ?_
          refine AllReadyH.cons (by simp only [List.getElem?_toArray, List.getElem?_cons_zero, List.getElem?_cons_succ]; rfl) (fun K hK => ?_) ?_
          · skip
            go_simp
            go_at_call 20
            (with_reducible refine ((CR3.out _ (chain hd BD.out))).mono ?_)
            rintro e wq29 ⟨rfl, hb⟩
            clear hHeld
            replace BD := Lib.hid (chain BD.out hb)
            replace Rz := Lib.hid (Rz.out.below hb)
            clear hb
            go_wp2_with fail
            refine hK.out _ _ ((BD.out.cell (p := ⟨bA, oA + 10, none⟩) l10).trans c10) (fun hHeld => ?_)
            clear hK K
            try simp only [Act.put, List.setIfInBounds_toArray, List.set_cons_zero, List.set_cons_succ]
            refine wpAnyH_ready (rs := [13]) (by kernel_rfl) (by simp) ?_
            refine AllReadyH.cons (by simp only [List.getElem?_toArray, List.getElem?_cons_zero, List.getElem?_cons_succ]; rfl) (fun K hK => ?_) ?_
            · skip
              go_simp
              clear hHeld
              obtain ⟨vb, hvb⟩ : ∃ b, b = wq29.heap.size := ⟨_, rfl⟩
              have QN : Hid (OV16 (wq29.alloc (.cells #[] 5)) wq1.heap.size vb) := by rw [hvb]; exact ⟨heap_alloc_new wq29 _, BD.out.size⟩
              rw [← hvb]
              clear hvb
              replace Rz := Lib.hid (Rz.out.below (chain_alloc (Below.refl _ wq29) (.cells #[] 5)))
              replace BD := Lib.hid (chain_alloc BD.out (.cells #[] 5))
              refine hK.out _ _ ((BD.out.cell (p := ⟨bA, oA + 10, none⟩) l10).trans c10) (fun hHeld => ?_)
              clear hK K
              try simp only [Act.put, List.setIfInBounds_toArray, List.set_cons_zero, List.set_cons_succ]
              generalize wq29.alloc (.cells #[] 5) = wq30 at hHeld QN BD Rz ⊢
              refine wpAnyH_ready (rs := [18]) (by kernel_rfl) (by simp) ?_
              refine AllReadyH.cons (by simp only [List.getElem?_toArray, List.getElem?_cons_zero, List.getElem?_cons_succ]; rfl) (fun K hK => ?_) ?_
              · skip
                obtain ⟨A', c', wq31, run5, ob5, ba, qz⟩ := copy16 (c := cA - 14) QN.out.1 (R14.out _ (chain hd BD.out)) L14.out (by omega) QN.out.2 BD.out.size
                refine step_append_run (by kernel_rfl) (.tmp 37) (.tmp 41) 22 22 (by kernel_rfl) (.slice (some ⟨vb, 0, none⟩) 0 0) (.slice (some ⟨bA, oA + 14, none⟩) k (cA - 14)) (by kernel_rfl) (by kernel_rfl) (.slice A' k c') run5 ?_
                clear hHeld
                replace BD := Lib.hid (BD.out.trans ba)
                refine hK.out _ _ ((BD.out.cell (p := ⟨bA, oA + 10, none⟩) l10).trans c10) (fun hHeld => ?_)
                clear hK K
                try simp only [Act.put, List.setIfInBounds_toArray, List.set_cons_zero, List.set_cons_succ]
                have QY := Lib.hid ob5
                replace Rz := Lib.hid (qz _ _ Rz.out)
                clear ba ob5 run5 qz QN
                refine wpAnyH_take (i := 19) (v := ?vv1021) (by simp only [List.getElem?_toArray, List.getElem?_cons_zero, List.getElem?_cons_succ]; rfl) (by kernel_rfl) (by kernel_rfl) (by kernel_rfl) (fun _ _ _ h => h) (Or.inl ⟨by rfl, ?yy1021⟩) (by assumption) ?rr1021
                case yy1021 => (intro w hSw; (try dsimp only at hSw); go_simp; first | done | with_reducible rfl)
                simp only [Act.put, List.setIfInBounds_toArray, List.set_cons_zero, List.set_cons_succ]
                refine wpAnyH_ready (rs := [21]) (by kernel_rfl) (by simp) ?_
                refine AllReadyH.cons (by simp only [List.getElem?_toArray, List.getElem?_cons_zero, List.getElem?_cons_succ]; rfl) (fun K hK => ?_) ?_
                · skip
                  obtain ⟨z0, z1, z2, z3, z4, fz⟩ := Rz.out.cells
                  have f0 := fz 0
                  have f1 := fz 1
                  have f2 := fz 2
                  have f3 := fz 3
                  have f4 := fz 4
                  have rz' := Lib.hid Rz.out
                  go_simp
                  clear hHeld z0 z1 z2 z3 z4 fz f0 f1 f2 f3 f4
                  have hS := Lib.hid (sets16 (G : Int) (P : Int) (t : Int) (Kn : Int) (.slice A' k c') Rz.out QY.out BD.out zl)
                  refine hK.out _ _ ((hS.out.2.2.cell (p := ⟨bA, oA + 10, none⟩) l10).trans c10) (fun hHeld => ?_)
                  clear hK K
                  try simp only [Act.put, List.setIfInBounds_toArray, List.set_cons_zero, List.set_cons_succ]
                  generalize (((((wq31.setCell ⟨z, 0, none⟩ (.int .i64 (G : Int))).setCell ⟨z, 1, none⟩ (.int .i64 (P : Int))).setCell ⟨z, 2, none⟩ (.int .i64 (t : Int))).setCell ⟨z, 3, none⟩ (.int .i64 (Kn : Int))).setCell ⟨z, 4, none⟩ (.slice A' k c')) = wq32 at hHeld hS ⊢
                  clear rz'
                  refine wpAnyH_done (by kernel_rfl) ?_ _
                  refine NoPanic.normal ?_
                  clear hHeld
                  go_wp2_with fail
                  go_meet
                  exact ⟨z, A', c', rfl, hS.out.1, own_base hS.out.2.1 hd.size, chain hd hS.out.2.2, Nat.le_trans hd.size zl⟩
                exact AllReadyH.nil
              exact AllReadyH.nil
            exact AllReadyH.nil
          refine AllReadyH.cons (by simp only [List.getElem?_toArray, List.getElem?_cons_zero, List.getElem?_cons_succ]; rfl) (fun K hK => ?_) ?_
          · skip
            go_simp
            clear hHeld
            obtain ⟨vb, hvb⟩ : ∃ b, b = wq28.heap.size := ⟨_, rfl⟩
            have QN : Hid (OV16 (wq28.alloc (.cells #[] 5)) wq1.heap.size vb) := by rw [hvb]; exact ⟨heap_alloc_new wq28 _, BD.out.size⟩
            rw [← hvb]
            clear hvb
            replace Rz := Lib.hid (Rz.out.below (chain_alloc (Below.refl _ wq28) (.cells #[] 5)))
            replace BD := Lib.hid (chain_alloc BD.out (.cells #[] 5))
            refine hK.out _ _ ((BD.out.cell (p := ⟨bA, oA + 10, none⟩) l10).trans c10) (fun hHeld => ?_)
            clear hK K
            try simp only [Act.put, List.setIfInBounds_toArray, List.set_cons_zero, List.set_cons_succ]
            generalize wq28.alloc (.cells #[] 5) = wq33 at hHeld QN BD Rz ⊢
            refine wpAnyH_ready (rs := [12]) (by kernel_rfl) (by simp) ?_
            refine AllReadyH.cons (by simp only [List.getElem?_toArray, List.getElem?_cons_zero, List.getElem?_cons_succ]; rfl) (fun K hK => ?_) ?_
            · skip
              go_simp
              go_at_call 20
              (with_reducible refine ((CR3.out _ (chain hd BD.out))).mono ?_)
              rintro e wq34 ⟨rfl, hb⟩
              clear hHeld
              replace BD := Lib.hid (chain BD.out hb)
              replace QN := Lib.hid (QN.out.below hb)
              replace Rz := Lib.hid (Rz.out.below hb)
              clear hb
              go_wp2_with fail
              refine hK.out _ _ ((BD.out.cell (p := ⟨bA, oA + 10, none⟩) l10).trans c10) (fun hHeld => ?_)
              clear hK K
              try simp only [Act.put, List.setIfInBounds_toArray, List.set_cons_zero, List.set_cons_succ]
              refine wpAnyH_ready (rs := [18]) (by kernel_rfl) (by simp) ?_
              refine AllReadyH.cons (by simp only [List.getElem?_toArray, List.getElem?_cons_zero, List.getElem?_cons_succ]; rfl) (fun K hK => ?_) ?_
              · skip
                obtain ⟨A', c', wq35, run5, ob5, ba, qz⟩ := copy16 (c := cA - 14) QN.out.1 (R14.out _ (chain hd BD.out)) L14.out (by omega) QN.out.2 BD.out.size
                refine step_append_run (by kernel_rfl) (.tmp 37) (.tmp 41) 22 22 (by kernel_rfl) (.slice (some ⟨vb, 0, none⟩) 0 0) (.slice (some ⟨bA, oA + 14, none⟩) k (cA - 14)) (by kernel_rfl) (by kernel_rfl) (.slice A' k c') run5 ?_
                clear hHeld
                replace BD := Lib.hid (BD.out.trans ba)
                refine hK.out _ _ ((BD.out.cell (p := ⟨bA, oA + 10, none⟩) l10).trans c10) (fun hHeld => ?_)
                clear hK K
                try simp only [Act.put, List.setIfInBounds_toArray, List.set_cons_zero, List.set_cons_succ]
                have QY := Lib.hid ob5
                replace Rz := Lib.hid (qz _ _ Rz.out)
                clear ba ob5 run5 qz QN
                refine wpAnyH_take (i := 19) (v := ?vv1022) (by simp only [List.getElem?_toArray, List.getElem?_cons_zero, List.getElem?_cons_succ]; rfl) (by kernel_rfl) (by kernel_rfl) (by kernel_rfl) (fun _ _ _ h => h) (Or.inl ⟨by rfl, ?yy1022⟩) (by assumption) ?rr1022
                case yy1022 => (intro w hSw; (try dsimp only at hSw); go_simp; first | done | with_reducible rfl)
                simp only [Act.put, List.setIfInBounds_toArray, List.set_cons_zero, List.set_cons_succ]
                refine wpAnyH_ready (rs := [21]) (by kernel_rfl) (by simp) ?_
                refine AllReadyH.cons (by simp only [List.getElem?_toArray, List.getElem?_cons_zero, List.getElem?_cons_succ]; rfl) (fun K hK => ?_) ?_
                · skip
                  obtain ⟨z0, z1, z2, z3, z4, fz⟩ := Rz.out.cells
                  have f0 := fz 0
                  have f1 := fz 1
                  have f2 := fz 2
                  have f3 := fz 3
                  have f4 := fz 4
                  have rz' := Lib.hid Rz.out
                  go_simp
                  clear hHeld z0 z1 z2 z3 z4 fz f0 f1 f2 f3 f4
                  have hS := Lib.hid (sets16 (G : Int) (P : Int) (t : Int) (Kn : Int) (.slice A' k c') Rz.out QY.out BD.out zl)
                  refine hK.out _ _ ((hS.out.2.2.cell (p := ⟨bA, oA + 10, none⟩) l10).trans c10) (fun hHeld => ?_)
                  clear hK K
                  try simp only [Act.put, List.setIfInBounds_toArray, List.set_cons_zero, List.set_cons_succ]
                  generalize (((((wq35.setCell ⟨z, 0, none⟩ (.int .i64 (G : Int))).setCell ⟨z, 1, none⟩ (.int .i64 (P : Int))).setCell ⟨z, 2, none⟩ (.int .i64 (t : Int))).setCell ⟨z, 3, none⟩ (.int .i64 (Kn : Int))).setCell ⟨z, 4, none⟩ (.slice A' k c')) = wq36 at hHeld hS ⊢
                  clear rz'
                  refine wpAnyH_done (by kernel_rfl) ?_ _
                  refine NoPanic.normal ?_
                  clear hHeld
                  go_wp2_with fail
                  go_meet
                  exact ⟨z, A', c', rfl, hS.out.1, own_base hS.out.2.1 hd.size, chain hd hS.out.2.2, Nat.le_trans hd.size zl⟩
                exact AllReadyH.nil
              exact AllReadyH.nil
            exact AllReadyH.nil
          exact AllReadyH.nil
        exact AllReadyH.nil
      refine AllReadyH.cons (by simp only [List.getElem?_toArray, List.getElem?_cons_zero, List.getElem?_cons_succ]; rfl) (fun K hK => ?_) ?_
      · skip
        go_simp
        clear hHeld
        obtain ⟨vb, hvb⟩ : ∃ b, b = wq2.heap.size := ⟨_, rfl⟩
        have QN : Hid (OV16 (wq2.alloc (.cells #[] 5)) wq1.heap.size vb) := by rw [hvb]; exact ⟨heap_alloc_new wq2 _, BD.out.size⟩
        rw [← hvb]
        clear hvb
        replace BD := Lib.hid (chain_alloc BD.out (.cells #[] 5))
        refine hK.out _ _ ((BD.out.cell (p := ⟨bA, oA + 10, none⟩) l10).trans c10) (fun hHeld => ?_)
        clear hK K
        try simp only [Act.put, List.setIfInBounds_toArray, List.set_cons_zero, List.set_cons_succ]
        generalize wq2.alloc (.cells #[] 5) = wq37 at hHeld QN BD ⊢
        refine wpAnyH_ready (rs := [5, 20]) (by kernel_rfl) (by simp) ?_
        refine AllReadyH.cons (by simp only [List.getElem?_toArray, List.getElem?_cons_zero, List.getElem?_cons_succ]; rfl) (fun K hK => ?_) ?_
        · skip
          go_simp
          go_at_call 20
          (with_reducible refine ((CR2.out _ (chain hd BD.out))).mono ?_)
          rintro e wq38 ⟨rfl, hb⟩
          clear hHeld
          replace BD := Lib.hid (chain BD.out hb)
          replace QN := Lib.hid (QN.out.below hb)
          clear hb
          go_wp2_with fail
          refine hK.out _ _ ((BD.out.cell (p := ⟨bA, oA + 10, none⟩) l10).trans c10) (fun hHeld => ?_)
          clear hK K
          try simp only [Act.put, List.setIfInBounds_toArray, List.set_cons_zero, List.set_cons_succ]
          refine wpAnyH_ready (rs := [12, 20]) (by kernel_rfl) (by simp) ?_
          refine AllReadyH.cons (by simp only [List.getElem?_toArray, List.getElem?_cons_zero, List.getElem?_cons_succ]; rfl) (fun K hK => ?_) ?_
          · skip
            go_simp
            go_at_call 20
            (with_reducible refine ((CR3.out _ (chain hd BD.out))).mono ?_)
            rintro e wq39 ⟨rfl, hb⟩
            clear hHeld
            replace BD := Lib.hid (chain BD.out hb)
            replace QN := Lib.hid (QN.out.below hb)
            clear hb
            go_wp2_with fail
            refine hK.out _ _ ((BD.out.cell (p := ⟨bA, oA + 10, none⟩) l10).trans c10) (fun hHeld => ?_)
            clear hK K
            try simp only [Act.put, List.setIfInBounds_toArray, List.set_cons_zero, List.set_cons_succ]
            refine wpAnyH_ready (rs := [18, 20]) (by kernel_rfl) (by simp) ?_
            refine AllReadyH.cons (by simp only [List.getElem?_toArray, List.getElem?_cons_zero, List.getElem?_cons_succ]; rfl) (fun K hK => ?_) ?_
            · skip
              obtain ⟨A', c', wq40, run5, ob5, ba, qz⟩ := copy16 (c := cA - 14) QN.out.1 (R14.out _ (chain hd BD.out)) L14.out (by omega) QN.out.2 BD.out.size
              refine step_append_run (by kernel_rfl) (.tmp 37) (.tmp 41) 22 22 (by kernel_rfl) (.slice (some ⟨vb, 0, none⟩) 0 0) (.slice (some ⟨bA, oA + 14, none⟩) k (cA - 14)) (by kernel_rfl) (by kernel_rfl) (.slice A' k c') run5 ?_
              clear hHeld
              replace BD := Lib.hid (BD.out.trans ba)
              refine hK.out _ _ ((BD.out.cell (p := ⟨bA, oA + 10, none⟩) l10).trans c10) (fun hHeld => ?_)
              clear hK K
              try simp only [Act.put, List.setIfInBounds_toArray, List.set_cons_zero, List.set_cons_succ]
              have QY := Lib.hid ob5
              clear ba ob5 run5 qz QN
              refine wpAnyH_take (i := 19) (v := ?vv1023) (by simp only [List.getElem?_toArray, List.getElem?_cons_zero, List.getElem?_cons_succ]; rfl) (by kernel_rfl) (by kernel_rfl) (by kernel_rfl) (fun _ _ _ h => h) (Or.inl ⟨by rfl, ?yy1023⟩) (by assumption) ?rr1023
              case yy1023 => (intro w hSw; (try dsimp only at hSw); go_simp; first | done | with_reducible rfl)
              simp only [Act.put, List.setIfInBounds_toArray, List.set_cons_zero, List.set_cons_succ]
              refine wpAnyH_ready (rs := [20]) (by kernel_rfl) (by simp) ?_
              refine AllReadyH.cons (by simp only [List.getElem?_toArray, List.getElem?_cons_zero, List.getElem?_cons_succ]; rfl) (fun K hK => ?_) ?_
              · skip
                go_simp
                clear hHeld
                obtain ⟨z, hB⟩ : ∃ b, b = wq40.heap.size := ⟨_, rfl⟩
                have zl : wq1.heap.size ≤ z := by rw [hB]; exact BD.out.size
                have Rz : Hid (QV (wq40.alloc (.cells #[.int .i64 0, .int .i64 0, .int .i64 0, .int .i64 0, .slice none 0 0] 24)) z #[.int .i64 0, .int .i64 0, .int .i64 0, .int .i64 0, .slice none 0 0]) := by rw [hB]; exact heap_alloc_new wq40 _
                rw [← hB]
                clear hB
                replace BD := Lib.hid (chain_alloc BD.out (.cells #[.int .i64 0, .int .i64 0, .int .i64 0, .int .i64 0, .slice none 0 0] 24))
                replace QY := Lib.hid (QY.out.below (chain_alloc (Below.refl _ wq40) (.cells #[.int .i64 0, .int .i64 0, .int .i64 0, .int .i64 0, .slice none 0 0] 24)))
                refine hK.out _ _ ((BD.out.cell (p := ⟨bA, oA + 10, none⟩) l10).trans c10) (fun hHeld => ?_)
                clear hK K
                try simp only [Act.put, List.setIfInBounds_toArray, List.set_cons_zero, List.set_cons_succ]
                generalize wq40.alloc (.cells #[.int .i64 0, .int .i64 0, .int .i64 0, .int .i64 0, .slice none 0 0] 24) = wq41 at hHeld Rz BD QY ⊢
                refine wpAnyH_ready (rs := [21]) (by kernel_rfl) (by simp) ?_
                refine AllReadyH.cons (by simp only [List.getElem?_toArray, List.getElem?_cons_zero, List.getElem?_cons_succ]; rfl) (fun K hK => ?_) ?_
                · skip
                  obtain ⟨z0, z1, z2, z3, z4, fz⟩ := Rz.out.cells
                  have f0 := fz 0
                  have f1 := fz 1
                  have f2 := fz 2
                  have f3 := fz 3
                  have f4 := fz 4
                  have rz' := Lib.hid Rz.out
                  go_simp
                  clear hHeld z0 z1 z2 z3 z4 fz f0 f1 f2 f3 f4
                  have hS := Lib.hid (sets16 (G : Int) (P : Int) (t : Int) (Kn : Int) (.slice A' k c') Rz.out QY.out BD.out zl)
                  refine hK.out _ _ ((hS.out.2.2.cell (p := ⟨bA, oA + 10, none⟩) l10).trans c10) (fun hHeld => ?_)
                  clear hK K
                  try simp only [Act.put, List.setIfInBounds_toArray, List.set_cons_zero, List.set_cons_succ]
                  generalize (((((wq41.setCell ⟨z, 0, none⟩ (.int .i64 (G : Int))).setCell ⟨z, 1, none⟩ (.int .i64 (P : Int))).setCell ⟨z, 2, none⟩ (.int .i64 (t : Int))).setCell ⟨z, 3, none⟩ (.int .i64 (Kn : Int))).setCell ⟨z, 4, none⟩ (.slice A' k c')) = wq42 at hHeld hS ⊢
                  clear rz'
                  refine wpAnyH_done (by kernel_rfl) ?_ _
                  refine NoPanic.normal ?_
                  clear hHeld
                  go_wp2_with fail
                  go_meet
                  exact ⟨z, A', c', rfl, hS.out.1, own_base hS.out.2.1 hd.size, chain hd hS.out.2.2, Nat.le_trans hd.size zl⟩
                exact AllReadyH.nil
              exact AllReadyH.nil
            refine AllReadyH.cons (by simp only [List.getElem?_toArray, List.getElem?_cons_zero, List.getElem?_cons_succ]; rfl) (fun K hK => ?_) ?_
            · skip
              go_simp
              clear hHeld
              obtain ⟨z, hB⟩ : ∃ b, b = wq39.heap.size := ⟨_, rfl⟩
              have zl : wq1.heap.size ≤ z := by rw [hB]; exact BD.out.size
              have Rz : Hid (QV (wq39.alloc (.cells #[.int .i64 0, .int .i64 0, .int .i64 0, .int .i64 0, .slice none 0 0] 24)) z #[.int .i64 0, .int .i64 0, .int .i64 0, .int .i64 0, .slice none 0 0]) := by rw [hB]; exact heap_alloc_new wq39 _
              rw [← hB]
              clear hB
              replace BD := Lib.hid (chain_alloc BD.out (.cells #[.int .i64 0, .int .i64 0, .int .i64 0, .int .i64 0, .slice none 0 0] 24))
              replace QN := Lib.hid (QN.out.below (chain_alloc (Below.refl _ wq39) (.cells #[.int .i64 0, .int .i64 0, .int .i64 0, .int .i64 0, .slice none 0 0] 24)))
              refine hK.out _ _ ((BD.out.cell (p := ⟨bA, oA + 10, none⟩) l10).trans c10) (fun hHeld => ?_)
              clear hK K
              try simp only [Act.put, List.setIfInBounds_toArray, List.set_cons_zero, List.set_cons_succ]
              generalize wq39.alloc (.cells #[.int .i64 0, .int .i64 0, .int .i64 0, .int .i64 0, .slice none 0 0] 24) = wq43 at hHeld Rz BD QN ⊢
              refine wpAnyH_ready (rs := [18]) (by kernel_rfl) (by simp) ?_
              refine AllReadyH.cons (by simp only [List.getElem?_toArray, List.getElem?_cons_zero, List.getElem?_cons_succ]; rfl) (fun K hK => ?_) ?_
              · skip
                obtain ⟨A', c', wq44, run5, ob5, ba, qz⟩ := copy16 (c := cA - 14) QN.out.1 (R14.out _ (chain hd BD.out)) L14.out (by omega) QN.out.2 BD.out.size
                refine step_append_run (by kernel_rfl) (.tmp 37) (.tmp 41) 22 22 (by kernel_rfl) (.slice (some ⟨vb, 0, none⟩) 0 0) (.slice (some ⟨bA, oA + 14, none⟩) k (cA - 14)) (by kernel_rfl) (by kernel_rfl) (.slice A' k c') run5 ?_
                clear hHeld
                replace BD := Lib.hid (BD.out.trans ba)
                refine hK.out _ _ ((BD.out.cell (p := ⟨bA, oA + 10, none⟩) l10).trans c10) (fun hHeld => ?_)
                clear hK K
                try simp only [Act.put, List.setIfInBounds_toArray, List.set_cons_zero, List.set_cons_succ]
                have QY := Lib.hid ob5
                replace Rz := Lib.hid (qz _ _ Rz.out)
                clear ba ob5 run5 qz QN
                refine wpAnyH_take (i := 19) (v := ?vv1024) (by simp only [List.getElem?_toArray, List.getElem?_cons_zero, List.getElem?_cons_succ]; rfl) (by kernel_rfl) (by kernel_rfl) (by kernel_rfl) (fun _ _ _ h => h) (Or.inl ⟨by rfl, ?yy1024⟩) (by assumption) ?rr1024
                case yy1024 => (intro w hSw; (try dsimp only at hSw); go_simp; first | done | with_reducible rfl)
                simp only [Act.put, List.setIfInBounds_toArray, List.set_cons_zero, List.set_cons_succ]
                refine wpAnyH_ready (rs := [21]) (by kernel_rfl) (by simp) ?_
                refine AllReadyH.cons (by simp only [List.getElem?_toArray, List.getElem?_cons_zero, List.getElem?_cons_succ]; rfl) (fun K hK => ?_) ?_
                · skip
                  obtain ⟨z0, z1, z2, z3, z4, fz⟩ := Rz.out.cells
                  have f0 := fz 0
                  have f1 := fz 1
                  have f2 := fz 2
                  have f3 := fz 3
                  have f4 := fz 4
                  have rz' := Lib.hid Rz.out
                  go_simp
                  clear hHeld z0 z1 z2 z3 z4 fz f0 f1 f2 f3 f4
                  have hS := Lib.hid (sets16 (G : Int) (P : Int) (t : Int) (Kn : Int) (.slice A' k c') Rz.out QY.out BD.out zl)
                  refine hK.out _ _ ((hS.out.2.2.cell (p := ⟨bA, oA + 10, none⟩) l10).trans c10) (fun hHeld => ?_)
                  clear hK K
                  try simp only [Act.put, List.setIfInBounds_toArray, List.set_cons_zero, List.set_cons_succ]
                  generalize (((((wq44.setCell ⟨z, 0, none⟩ (.int .i64 (G : Int))).setCell ⟨z, 1, none⟩ (.int .i64 (P : Int))).setCell ⟨z, 2, none⟩ (.int .i64 (t : Int))).setCell ⟨z, 3, none⟩ (.int .i64 (Kn : Int))).setCell ⟨z, 4, none⟩ (.slice A' k c')) = wq45 at hHeld hS ⊢
                  clear rz'
                  refine wpAnyH_done (by kernel_rfl) ?_ _
                  refine NoPanic.normal ?_
                  clear hHeld
                  go_wp2_with fail
                  go_meet
                  exact ⟨z, A', c', rfl, hS.out.1, own_base hS.out.2.1 hd.size, chain hd hS.out.2.2, Nat.le_trans hd.size zl⟩
                exact AllReadyH.nil
              exact AllReadyH.nil
            exact AllReadyH.nil
          refine AllReadyH.cons (by simp only [List.getElem?_toArray, List.getElem?_cons_zero, List.getElem?_cons_succ]; rfl) (fun K hK => ?_) ?_
          · skip
            go_simp
            clear hHeld
            obtain ⟨z, hB⟩ : ∃ b, b = wq38.heap.size := ⟨_, rfl⟩
            have zl : wq1.heap.size ≤ z := by rw [hB]; exact BD.out.size
            have Rz : Hid (QV (wq38.alloc (.cells #[.int .i64 0, .int .i64 0, .int .i64 0, .int .i64 0, .slice none 0 0] 24)) z #[.int .i64 0, .int .i64 0, .int .i64 0, .int .i64 0, .slice none 0 0]) := by rw [hB]; exact heap_alloc_new wq38 _
            rw [← hB]
            clear hB
            replace BD := Lib.hid (chain_alloc BD.out (.cells #[.int .i64 0, .int .i64 0, .int .i64 0, .int .i64 0, .slice none 0 0] 24))
            replace QN := Lib.hid (QN.out.below (chain_alloc (Below.refl _ wq38) (.cells #[.int .i64 0, .int .i64 0, .int .i64 0, .int .i64 0, .slice none 0 0] 24)))
            refine hK.out _ _ ((BD.out.cell (p := ⟨bA, oA + 10, none⟩) l10).trans c10) (fun hHeld => ?_)
            clear hK K
            try simp only [Act.put, List.setIfInBounds_toArray, List.set_cons_zero, List.set_cons_succ]
            generalize wq38.alloc (.cells #[.int .i64 0, .int .i64 0, .int .i64 0, .int .i64 0, .slice none 0 0] 24) = wq46 at hHeld Rz BD QN ⊢
            refine wpAnyH_ready (rs := [12]) (by kernel_rfl) (by simp) ?_
            refine AllReadyH.cons (by simp only [List.getElem?_toArray, List.getElem?_cons_zero, List.getElem?_cons_succ]; rfl) (fun K hK => ?_) ?_
            · skip
              go_simp
              go_at_call 20
              (with_reducible refine ((CR3.out _ (chain hd BD.out))).mono ?_)
              rintro e wq47 ⟨rfl, hb⟩
              clear hHeld
              replace BD := Lib.hid (chain BD.out hb)
              replace QN := Lib.hid (QN.out.below hb)
              replace Rz := Lib.hid (Rz.out.below hb)
              clear hb
              go_wp2_with fail
              refine hK.out _ _ ((BD.out.cell (p := ⟨bA, oA + 10, none⟩) l10).trans c10) (fun hHeld => ?_)
              clear hK K
              try simp only [Act.put, List.setIfInBounds_toArray, List.set_cons_zero, List.set_cons_succ]
              refine wpAnyH_ready (rs := [18]) (by kernel_rfl) (by simp) ?_
              refine AllReadyH.cons (by simp only [List.getElem?_toArray, List.getElem?_cons_zero, List.getElem?_cons_succ]; rfl) (fun K hK => ?_) ?_
              · skip
                obtain ⟨A', c', wq48, run5, ob5, ba, qz⟩ := copy16 (c := cA - 14) QN.out.1 (R14.out _ (chain hd BD.out)) L14.out (by omega) QN.out.2 BD.out.size
                refine step_append_run (by kernel_rfl) (.tmp 37) (.tmp 41) 22 22 (by kernel_rfl) (.slice (some ⟨vb, 0, none⟩) 0 0) (.slice (some ⟨bA, oA + 14, none⟩) k (cA - 14)) (by kernel_rfl) (by kernel_rfl) (.slice A' k c') run5 ?_
                clear hHeld
                replace BD := Lib.hid (BD.out.trans ba)
                refine hK.out _ _ ((BD.out.cell (p := ⟨bA, oA + 10, none⟩) l10).trans c10) (fun hHeld => ?_)
                clear hK K
                try simp only [Act.put, List.setIfInBounds_toArray, List.set_cons_zero, List.set_cons_succ]
                have QY := Lib.hid ob5
                replace Rz := Lib.hid (qz _ _ Rz.out)
                clear ba ob5 run5 qz QN
                refine wpAnyH_take (i := 19) (v := ?vv1025) (by simp only [List.getElem?_toArray, List.getElem?_cons_zero, List.getElem?_cons_succ]; rfl) (by kernel_rfl) (by kernel_rfl) (by kernel_rfl) (fun _ _ _ h => h) (Or.inl ⟨by rfl, ?yy1025⟩) (by assumption) ?rr1025
                case yy1025 => (intro w hSw; (try dsimp only at hSw); go_simp; first | done | with_reducible rfl)
                simp only [Act.put, List.setIfInBounds_toArray, List.set_cons_zero, List.set_cons_succ]
                refine wpAnyH_ready (rs := [21]) (by kernel_rfl) (by simp) ?_
                refine AllReadyH.cons (by simp only [List.getElem?_toArray, List.getElem?_cons_zero, List.getElem?_cons_succ]; rfl) (fun K hK => ?_) ?_
                · skip
                  obtain ⟨z0, z1, z2, z3, z4, fz⟩ := Rz.out.cells
                  have f0 := fz 0
                  have f1 := fz 1
                  have f2 := fz 2
                  have f3 := fz 3
                  have f4 := fz 4
                  have rz' := Lib.hid Rz.out
                  go_simp
                  clear hHeld z0 z1 z2 z3 z4 fz f0 f1 f2 f3 f4
                  have hS := Lib.hid (sets16 (G : Int) (P : Int) (t : Int) (Kn : Int) (.slice A' k c') Rz.out QY.out BD.out zl)
                  refine hK.out _ _ ((hS.out.2.2.cell (p := ⟨bA, oA + 10, none⟩) l10).trans c10) (fun hHeld => ?_)
                  clear hK K
                  try simp only [Act.put, List.setIfInBounds_toArray, List.set_cons_zero, List.set_cons_succ]
                  generalize (((((wq48.setCell ⟨z, 0, none⟩ (.int .i64 (G : Int))).setCell ⟨z, 1, none⟩ (.int .i64 (P : Int))).setCell ⟨z, 2, none⟩ (.int .i64 (t : Int))).setCell ⟨z, 3, none⟩ (.int .i64 (Kn : Int))).setCell ⟨z, 4, none⟩ (.slice A' k c')) = wq49 at hHeld hS ⊢
                  clear rz'
                  refine wpAnyH_done (by kernel_rfl) ?_ _
                  refine NoPanic.normal ?_
                  clear hHeld
                  go_wp2_with fail
                  go_meet
                  exact ⟨z, A', c', rfl, hS.out.1, own_base hS.out.2.1 hd.size, chain hd hS.out.2.2, Nat.le_trans hd.size zl⟩
                exact AllReadyH.nil
              exact AllReadyH.nil
            exact AllReadyH.nil
          exact AllReadyH.nil
        refine AllReadyH.cons (by simp only [List.getElem?_toArray, List.getElem?_cons_zero, List.getElem?_cons_succ]; rfl) (fun K hK => ?_) ?_
        · skip
          go_simp
          clear hHeld
          obtain ⟨z, hB⟩ : ∃ b, b = wq37.heap.size := ⟨_, rfl⟩
          have zl : wq1.heap.size ≤ z := by rw [hB]; exact BD.out.size
          have Rz : Hid (QV (wq37.alloc (.cells #[.int .i64 0, .int .i64 0, .int .i64 0, .int .i64 0, .slice none 0 0] 24)) z #[.int .i64 0, .int .i64 0, .int .i64 0, .int .i64 0, .slice none 0 0]) := by rw [hB]; exact heap_alloc_new wq37 _
          rw [← hB]
          clear hB
          replace BD := Lib.hid (chain_alloc BD.out (.cells #[.int .i64 0, .int .i64 0, .int .i64 0, .int .i64 0, .slice none 0 0] 24))
          replace QN := Lib.hid (QN.out.below (chain_alloc (Below.refl _ wq37) (.cells #[.int .i64 0, .int .i64 0, .int .i64 0, .int .i64 0, .slice none 0 0] 24)))
          refine hK.out _ _ ((BD.out.cell (p := ⟨bA, oA + 10, none⟩) l10).trans c10) (fun hHeld => ?_)
          clear hK K
          try simp only [Act.put, List.setIfInBounds_toArray, List.set_cons_zero, List.set_cons_succ]
          generalize wq37.alloc (.cells #[.int .i64 0, .int .i64 0, .int .i64 0, .int .i64 0, .slice none 0 0] 24) = wq50 at hHeld Rz BD QN ⊢
          refine wpAnyH_ready (rs := [5]) (by kernel_rfl) (by simp) ?_
          refine AllReadyH.cons (by simp only [List.getElem?_toArray, List.getElem?_cons_zero, List.getElem?_cons_succ]; rfl) (fun K hK => ?_) ?_
          · skip
            go_simp
            go_at_call 20
            (with_reducible refine ((CR2.out _ (chain hd BD.out))).mono ?_)
            rintro e wq51 ⟨rfl, hb⟩
            clear hHeld
            replace BD := Lib.hid (chain BD.out hb)
            replace QN := Lib.hid (QN.out.below hb)
            replace Rz := Lib.hid (Rz.out.below hb)
            clear hb
            go_wp2_with fail
            refine hK.out _ _ ((BD.out.cell (p := ⟨bA, oA + 10, none⟩) l10).trans c10) (fun hHeld => ?_)
            clear hK K
            try simp only [Act.put, List.setIfInBounds_toArray, List.set_cons_zero, List.set_cons_succ]
            refine wpAnyH_ready (rs := [12]) (by kernel_rfl) (by simp) ?_
            refine AllReadyH.cons (by simp only [List.getElem?_toArray, List.getElem?_cons_zero, List.getElem?_cons_succ]; rfl) (fun K hK => ?_) ?_
            · skip
              go_simp
              go_at_call 20
              (with_reducible refine ((CR3.out _ (chain hd BD.out))).mono ?_)
              rintro e wq52 ⟨rfl, hb⟩
              clear hHeld
              replace BD := Lib.hid (chain BD.out hb)
              replace QN := Lib.hid (QN.out.below hb)
              replace Rz := Lib.hid (Rz.out.below hb)
              clear hb
              go_wp2_with fail
              refine hK.out _ _ ((BD.out.cell (p := ⟨bA, oA + 10, none⟩) l10).trans c10) (fun hHeld => ?_)
              clear hK K
              try simp only [Act.put, List.setIfInBounds_toArray, List.set_cons_zero, List.set_cons_succ]
              refine wpAnyH_ready (rs := [18]) (by kernel_rfl) (by simp) ?_
              refine AllReadyH.cons (by simp only [List.getElem?_toArray, List.getElem?_cons_zero, List.getElem?_cons_succ]; rfl) (fun K hK => ?_) ?_
              · skip
                obtain ⟨A', c', wq53, run5, ob5, ba, qz⟩ := copy16 (c := cA - 14) QN.out.1 (R14.out _ (chain hd BD.out)) L14.out (by omega) QN.out.2 BD.out.size
                refine step_append_run (by kernel_rfl) (.tmp 37) (.tmp 41) 22 22 (by kernel_rfl) (.slice (some ⟨vb, 0, none⟩) 0 0) (.slice (some ⟨bA, oA + 14, none⟩) k (cA - 14)) (by kernel_rfl) (by kernel_rfl) (.slice A' k c') run5 ?_
                clear hHeld
                replace BD := Lib.hid (BD.out.trans ba)
                refine hK.out _ _ ((BD.out.cell (p := ⟨bA, oA + 10, none⟩) l10).trans c10) (fun hHeld => ?_)
                clear hK K
                try simp only [Act.put, List.setIfInBounds_toArray, List.set_cons_zero, List.set_cons_succ]
                have QY := Lib.hid ob5
                replace Rz := Lib.hid (qz _ _ Rz.out)
                clear ba ob5 run5 qz QN
                refine wpAnyH_take (i := 19) (v := ?vv1026) (by simp only [List.getElem?_toArray, List.getElem?_cons_zero, List.getElem?_cons_succ]; rfl) (by kernel_rfl) (by kernel_rfl) (by kernel_rfl) (fun _ _ _ h => h) (Or.inl ⟨by rfl, ?yy1026⟩) (by assumption) ?rr1026
                case yy1026 => (intro w hSw; (try dsimp only at hSw); go_simp; first | done | with_reducible rfl)
                simp only [Act.put, List.setIfInBounds_toArray, List.set_cons_zero, List.set_cons_succ]
                refine wpAnyH_ready (rs := [21]) (by kernel_rfl) (by simp) ?_
                refine AllReadyH.cons (by simp only [List.getElem?_toArray, List.getElem?_cons_zero, List.getElem?_cons_succ]; rfl) (fun K hK => ?_) ?_
                · skip
                  obtain ⟨z0, z1, z2, z3, z4, fz⟩ := Rz.out.cells
                  have f0 := fz 0
                  have f1 := fz 1
                  have f2 := fz 2
                  have f3 := fz 3
                  have f4 := fz 4
                  have rz' := Lib.hid Rz.out
                  go_simp
                  clear hHeld z0 z1 z2 z3 z4 fz f0 f1 f2 f3 f4
                  have hS := Lib.hid (sets16 (G : Int) (P : Int) (t : Int) (Kn : Int) (.slice A' k c') Rz.out QY.out BD.out zl)
                  refine hK.out _ _ ((hS.out.2.2.cell (p := ⟨bA, oA + 10, none⟩) l10).trans c10) (fun hHeld => ?_)
                  clear hK K
                  try simp only [Act.put, List.setIfInBounds_toArray, List.set_cons_zero, List.set_cons_succ]
                  generalize (((((wq53.setCell ⟨z, 0, none⟩ (.int .i64 (G : Int))).setCell ⟨z, 1, none⟩ (.int .i64 (P : Int))).setCell ⟨z, 2, none⟩ (.int .i64 (t : Int))).setCell ⟨z, 3, none⟩ (.int .i64 (Kn : Int))).setCell ⟨z, 4, none⟩ (.slice A' k c')) = wq54 at hHeld hS ⊢
                  clear rz'
                  refine wpAnyH_done (by kernel_rfl) ?_ _
                  refine NoPanic.normal ?_
                  clear hHeld
                  go_wp2_with fail
                  go_meet
                  exact ⟨z, A', c', rfl, hS.out.1, own_base hS.out.2.1 hd.size, chain hd hS.out.2.2, Nat.le_trans hd.size zl⟩
                exact AllReadyH.nil
              exact AllReadyH.nil
            exact AllReadyH.nil
          exact AllReadyH.nil
        exact AllReadyH.nil
      refine AllReadyH.cons (by simp only [List.getElem?_toArray, List.getElem?_cons_zero, List.getElem?_cons_succ]; rfl) (fun K hK => ?_) ?_
      · skip
        go_simp
        clear hHeld
        obtain ⟨z, hB⟩ : ∃ b, b = wq2.heap.size := ⟨_, rfl⟩
        have zl : wq1.heap.size ≤ z := by rw [hB]; exact BD.out.size
        have Rz : Hid (QV (wq2.alloc (.cells #[.int .i64 0, .int .i64 0, .int .i64 0, .int .i64 0, .slice none 0 0] 24)) z #[.int .i64 0, .int .i64 0, .int .i64 0, .int .i64 0, .slice none 0 0]) := by rw [hB]; exact heap_alloc_new wq2 _
        rw [← hB]
        clear hB
        replace BD := Lib.hid (chain_alloc BD.out (.cells #[.int .i64 0, .int .i64 0, .int .i64 0, .int .i64 0, .slice none 0 0] 24))
        refine hK.out _ _ ((BD.out.cell (p := ⟨bA, oA + 10, none⟩) l10).trans c10) (fun hHeld => ?_)
        clear hK K
        try simp only [Act.put, List.setIfInBounds_toArray, List.set_cons_zero, List.set_cons_succ]
        generalize wq2.alloc (.cells #[.int .i64 0, .int .i64 0, .int .i64 0, .int .i64 0, .slice none 0 0] 24) = wq55 at hHeld Rz BD ⊢
        refine wpAnyH_ready (rs := [5, 13]) (by kernel_rfl) (by simp) ?_
        refine AllReadyH.cons (by simp only [List.getElem?_toArray, List.getElem?_cons_zero, List.getElem?_cons_succ]; rfl) (fun K hK => ?_) ?_
        · skip
          go_simp
          go_at_call 20
          (with_reducible refine ((CR2.out _ (chain hd BD.out))).mono ?_)
          rintro e wq56 ⟨rfl, hb⟩
          clear hHeld
          replace BD := Lib.hid (chain BD.out hb)
          replace Rz := Lib.hid (Rz.out.below hb)
          clear hb
          go_wp2_with fail
          refine hK.out _ _ ((BD.out.cell (p := ⟨bA, oA + 10, none⟩) l10).trans c10) (fun hHeld => ?_)
          clear hK K
          try simp only [Act.put, List.setIfInBounds_toArray, List.set_cons_zero, List.set_cons_succ]
          refine wpAnyH_ready (rs := [12, 13]) (by kernel_rfl) (by simp) ?_
          refine AllReadyH.cons (by simp only [List.getElem?_toArray, List.getElem?_cons_zero, List.getElem?_cons_succ]; rfl) (fun K hK => ?_) ?_
          · skip
            go_simp
            go_at_call 20
            (with_reducible refine ((CR3.out _ (chain hd BD.out))).mono ?_)
            rintro e wq57 ⟨rfl, hb⟩
            clear hHeld
            replace BD := Lib.hid (chain BD.out hb)
            replace Rz := Lib.hid (Rz.out.below hb)
            clear hb
            go_wp2_with fail
            refine hK.out _ _ ((BD.out.cell (p := ⟨bA, oA + 10, none⟩) l10).trans c10) (fun hHeld => ?_)
            clear hK K
            try simp only [Act.put, List.setIfInBounds_toArray, List.set_cons_zero, List.set_cons_succ]
            refine wpAnyH_ready (rs := [13]) (by kernel_rfl) (by simp) ?_
            refine AllReadyH.cons (by simp only [List.getElem?_toArray, List.getElem?_cons_zero, List.getElem?_cons_succ]; rfl) (fun K hK => ?_) ?_
            · skip
              go_simp
              clear hHeld
              obtain ⟨vb, hvb⟩ : ∃ b, b = wq57.heap.size := ⟨_, rfl⟩
              have QN : Hid (OV16 (wq57.alloc (.cells #[] 5)) wq1.heap.size vb) := by rw [hvb]; exact ⟨heap_alloc_new wq57 _, BD.out.size⟩
              rw [← hvb]
              clear hvb
              replace Rz := Lib.hid (Rz.out.below (chain_alloc (Below.refl _ wq57) (.cells #[] 5)))
              replace BD := Lib.hid (chain_alloc BD.out (.cells #[] 5))
              refine hK.out _ _ ((BD.out.cell (p := ⟨bA, oA + 10, none⟩) l10).trans c10) (fun hHeld => ?_)
              clear hK K
              try simp only [Act.put, List.setIfInBounds_toArray, List.set_cons_zero, List.set_cons_succ]
              generalize wq57.alloc (.cells #[] 5) = wq58 at hHeld QN BD Rz ⊢
              refine wpAnyH_ready (rs := [18]) (by kernel_rfl) (by simp) ?_
              refine AllReadyH.cons (by simp only [List.getElem?_toArray, List.getElem?_cons_zero, List.getElem?_cons_succ]; rfl) (fun K hK => ?_) ?_
              · skip
                obtain ⟨A', c', wq59, run5, ob5, ba, qz⟩ := copy16 (c := cA - 14) QN.out.1 (R14.out _ (chain hd BD.out)) L14.out (by omega) QN.out.2 BD.out.size
                refine step_append_run (by kernel_rfl) (.tmp 37) (.tmp 41) 22 22 (by kernel_rfl) (.slice (some ⟨vb, 0, none⟩) 0 0) (.slice (some ⟨bA, oA + 14, none⟩) k (cA - 14)) (by kernel_rfl) (by kernel_rfl) (.slice A' k c') run5 ?_
                clear hHeld
                replace BD := Lib.hid (BD.out.trans ba)
                refine hK.out _ _ ((BD.out.cell (p := ⟨bA, oA + 10, none⟩) l10).trans c10) (fun hHeld => ?_)
                clear hK K
                try simp only [Act.put, List.setIfInBounds_toArray, List.set_cons_zero, List.set_cons_succ]
                have QY := Lib.hid ob5
                replace Rz := Lib.hid (qz _ _ Rz.out)
                clear ba ob5 run5 qz QN
                refine wpAnyH_take (i := 19) (v := ?vv1027) (by simp only [List.getElem?_toArray, List.getElem?_cons_zero, List.getElem?_cons_succ]; rfl) (by kernel_rfl) (by kernel_rfl) (by kernel_rfl) (fun _ _ _ h => h) (Or.inl ⟨by rfl, ?yy1027⟩) (by assumption) ?rr1027
                case yy1027 => (intro w hSw; (try dsimp only at hSw); go_simp; first | done | with_reducible rfl)
                simp only [Act.put, List.setIfInBounds_toArray, List.set_cons_zero, List.set_cons_succ]
                refine wpAnyH_ready (rs := [21]) (by kernel_rfl) (by simp) ?_
                refine AllReadyH.cons (by simp only [List.getElem?_toArray, List.getElem?_cons_zero, List.getElem?_cons_succ]; rfl) (fun K hK => ?_) ?_
                · skip
                  obtain ⟨z0, z1, z2, z3, z4, fz⟩ := Rz.out.cells
                  have f0 := fz 0
                  have f1 := fz 1
                  have f2 := fz 2
                  have f3 := fz 3
                  have f4 := fz 4
                  have rz' := Lib.hid Rz.out
                  go_simp
                  clear hHeld z0 z1 z2 z3 z4 fz f0 f1 f2 f3 f4
                  have hS := Lib.hid (sets16 (G : Int) (P : Int) (t : Int) (Kn : Int) (.slice A' k c') Rz.out QY.out BD.out zl)
                  refine hK.out _ _ ((hS.out.2.2.cell (p := ⟨bA, oA + 10, none⟩) l10).trans c10) (fun hHeld => ?_)
                  clear hK K
                  try simp only [Act.put, List.setIfInBounds_toArray, List.set_cons_zero, List.set_cons_succ]
                  generalize (((((wq59.setCell ⟨z, 0, none⟩ (.int .i64 (G : Int))).setCell ⟨z, 1, none⟩ (.int .i64 (P : Int))).setCell ⟨z, 2, none⟩ (.int .i64 (t : Int))).setCell ⟨z, 3, none⟩ (.int .i64 (Kn : Int))).setCell ⟨z, 4, none⟩ (.slice A' k c')) = wq60 at hHeld hS ⊢
                  clear rz'
                  refine wpAnyH_done (by kernel_rfl) ?_ _
                  refine NoPanic.normal ?_
                  clear hHeld
                  go_wp2_with fail
                  go_meet
                  exact ⟨z, A', c', rfl, hS.out.1, own_base hS.out.2.1 hd.size, chain hd hS.out.2.2, Nat.le_trans hd.size zl⟩
                exact AllReadyH.nil
              exact AllReadyH.nil
            exact AllReadyH.nil
          refine AllReadyH.cons (by simp only [List.getElem?_toArray, List.getElem?_cons_zero, List.getElem?_cons_succ]; rfl) (fun K hK => ?_) ?_
          · skip
            go_simp
            clear hHeld
            obtain ⟨vb, hvb⟩ : ∃ b, b = wq56.heap.size := ⟨_, rfl⟩
            have QN : Hid (OV16 (wq56.alloc (.cells #[] 5)) wq1.heap.size vb) := by rw [hvb]; exact ⟨heap_alloc_new wq56 _, BD.out.size⟩
            rw [← hvb]
            clear hvb
            replace Rz := Lib.hid (Rz.out.below (chain_alloc (Below.refl _ wq56) (.cells #[] 5)))
            replace BD := Lib.hid (chain_alloc BD.out (.cells #[] 5))
            refine hK.out _ _ ((BD.out.cell (p := ⟨bA, oA + 10, none⟩) l10).trans c10) (fun hHeld => ?_)
            clear hK K
            try simp only [Act.put, List.setIfInBounds_toArray, List.set_cons_zero, List.set_cons_succ]
            generalize wq56.alloc (.cells #[] 5) = wq61 at hHeld QN BD Rz ⊢
            refine wpAnyH_ready (rs := [12]) (by kernel_rfl) (by simp) ?_
            refine AllReadyH.cons (by simp only [List.getElem?_toArray, List.getElem?_cons_zero, List.getElem?_cons_succ]; rfl) (fun K hK => ?_) ?_
            · skip
              go_simp
              go_at_call 20
              (with_reducible refine ((CR3.out _ (chain hd BD.out))).mono ?_)
              rintro e wq62 ⟨rfl, hb⟩
              clear hHeld
              replace BD := Lib.hid (chain BD.out hb)
              replace QN := Lib.hid (QN.out.below hb)
              replace Rz := Lib.hid (Rz.out.below hb)
              clear hb
              go_wp2_with fail
              refine hK.out _ _ ((BD.out.cell (p := ⟨bA, oA + 10, none⟩) l10).trans c10) (fun hHeld => ?_)
              clear hK K
              try simp only [Act.put, List.setIfInBounds_toArray, List.set_cons_zero, List.set_cons_succ]
              refine wpAnyH_ready (rs := [18]) (by kernel_rfl) (by simp) ?_
              refine AllReadyH.cons (by simp only [List.getElem?_toArray, List.getElem?_cons_zero, List.getElem?_cons_succ]; rfl) (fun K hK => ?_) ?_
              · skip
                obtain ⟨A', c', wq63, run5, ob5, ba, qz⟩ := copy16 (c := cA - 14) QN.out.1 (R14.out _ (chain hd BD.out)) L14.out (by omega) QN.out.2 BD.out.size
                refine step_append_run (by kernel_rfl) (.tmp 37) (.tmp 41) 22 22 (by kernel_rfl) (.slice (some ⟨vb, 0, none⟩) 0 0) (.slice (some ⟨bA, oA + 14, none⟩) k (cA - 14)) (by kernel_rfl) (by kernel_rfl) (.slice A' k c') run5 ?_
                clear hHeld
                replace BD := Lib.hid (BD.out.trans ba)
                refine hK.out _ _ ((BD.out.cell (p := ⟨bA, oA + 10, none⟩) l10).trans c10) (fun hHeld => ?_)
                clear hK K
                try simp only [Act.put, List.setIfInBounds_toArray, List.set_cons_zero, List.set_cons_succ]
                have QY := Lib.hid ob5
                replace Rz := Lib.hid (qz _ _ Rz.out)
                clear ba ob5 run5 qz QN
                refine wpAnyH_take (i := 19) (v := ?vv1028) (by simp only [List.getElem?_toArray, List.getElem?_cons_zero, List.getElem?_cons_succ]; rfl) (by kernel_rfl) (by kernel_rfl) (by kernel_rfl) (fun _ _ _ h => h) (Or.inl ⟨by rfl, ?yy1028⟩) (by assumption) ?rr1028
                case yy1028 => (intro w hSw; (try dsimp only at hSw); go_simp; first | done | with_reducible rfl)
                simp only [Act.put, List.setIfInBounds_toArray, List.set_cons_zero, List.set_cons_succ]
                refine wpAnyH_ready (rs := [21]) (by kernel_rfl) (by simp) ?_
                refine AllReadyH.cons (by simp only [List.getElem?_toArray, List.getElem?_cons_zero, List.getElem?_cons_succ]; rfl) (fun K hK => ?_) ?_
                · skip
                  obtain ⟨z0, z1, z2, z3, z4, fz⟩ := Rz.out.cells
                  have f0 := fz 0
                  have f1 := fz 1
                  have f2 := fz 2
                  have f3 := fz 3
                  have f4 := fz 4
                  have rz' := Lib.hid Rz.out
                  go_simp
                  clear hHeld z0 z1 z2 z3 z4 fz f0 f1 f2 f3 f4
                  have hS := Lib.hid (sets16 (G : Int) (P : Int) (t : Int) (Kn : Int) (.slice A' k c') Rz.out QY.out BD.out zl)
                  refine hK.out _ _ ((hS.out.2.2.cell (p := ⟨bA, oA + 10, none⟩) l10).trans c10) (fun hHeld => ?_)
                  clear hK K
                  try simp only [Act.put, List.setIfInBounds_toArray, List.set_cons_zero, List.set_cons_succ]
                  generalize (((((wq63.setCell ⟨z, 0, none⟩ (.int .i64 (G : Int))).setCell ⟨z, 1, none⟩ (.int .i64 (P : Int))).setCell ⟨z, 2, none⟩ (.int .i64 (t : Int))).setCell ⟨z, 3, none⟩ (.int .i64 (Kn : Int))).setCell ⟨z, 4, none⟩ (.slice A' k c')) = wq64 at hHeld hS ⊢
                  clear rz'
                  refine wpAnyH_done (by kernel_rfl) ?_ _
                  refine NoPanic.normal ?_
                  clear hHeld
                  go_wp2_with fail
                  go_meet
                  exact ⟨z, A', c', rfl, hS.out.1, own_base hS.out.2.1 hd.size, chain hd hS.out.2.2, Nat.le_trans hd.size zl⟩
                exact AllReadyH.nil
              exact AllReadyH.nil
            exact AllReadyH.nil
          exact AllReadyH.nil
        refine AllReadyH.cons (by simp only [List.getElem?_toArray, List.getElem?_cons_zero, List.getElem?_cons_succ]; rfl) (fun K hK => ?_) ?_
        · skip
          go_simp
          clear hHeld
          obtain ⟨vb, hvb⟩ : ∃ b, b = wq55.heap.size := ⟨_, rfl⟩
          have QN : Hid (OV16 (wq55.alloc (.cells #[] 5)) wq1.heap.size vb) := by rw [hvb]; exact ⟨heap_alloc_new wq55 _, BD.out.size⟩
          rw [← hvb]
          clear hvb
          replace Rz := Lib.hid (Rz.out.below (chain_alloc (Below.refl _ wq55) (.cells #[] 5)))
          replace BD := Lib.hid (chain_alloc BD.out (.cells #[] 5))
          refine hK.out _ _ ((BD.out.cell (p := ⟨bA, oA + 10, none⟩) l10).trans c10) (fun hHeld => ?_)
          clear hK K
          try simp only [Act.put, List.setIfInBounds_toArray, List.set_cons_zero, List.set_cons_succ]
          generalize wq55.alloc (.cells #[] 5) = wq65 at hHeld QN BD Rz ⊢
          refine wpAnyH_ready (rs := [5]) (by kernel_rfl) (by simp) ?_
          refine AllReadyH.cons (by simp only [List.getElem?_toArray, List.getElem?_cons_zero, List.getElem?_cons_succ]; rfl) (fun K hK => ?_) ?_
          · skip
            go_simp
            go_at_call 20
            (with_reducible refine ((CR2.out _ (chain hd BD.out))).mono ?_)
            rintro e wq66 ⟨rfl, hb⟩
            clear hHeld
            replace BD := Lib.hid (chain BD.out hb)
            replace QN := Lib.hid (QN.out.below hb)
            replace Rz := Lib.hid (Rz.out.below hb)
            clear hb
            go_wp2_with fail
            refine hK.out _ _ ((BD.out.cell (p := ⟨bA, oA + 10, none⟩) l10).trans c10) (fun hHeld => ?_)
            clear hK K
            try simp only [Act.put, List.setIfInBounds_toArray, List.set_cons_zero, List.set_cons_succ]
            refine wpAnyH_ready (rs := [12]) (by kernel_rfl) (by simp) ?_
            refine AllReadyH.cons (by simp only [List.getElem?_toArray, List.getElem?_cons_zero, List.getElem?_cons_succ]; rfl) (fun K hK => ?_) ?_
            · skip
              go_simp
              go_at_call 20
              (with_reducible refine ((CR3.out _ (chain hd BD.out))).mono ?_)
              rintro e wq67 ⟨rfl, hb⟩
              clear hHeld
              replace BD := Lib.hid (chain BD.out hb)
              replace QN := Lib.hid (QN.out.below hb)
              replace Rz := Lib.hid (Rz.out.below hb)
              clear hb
              go_wp2_with fail
              refine hK.out _ _ ((BD.out.cell (p := ⟨bA, oA + 10, none⟩) l10).trans c10) (fun hHeld => ?_)
              clear hK K
              try simp only [Act.put, List.setIfInBounds_toArray, List.set_cons_zero, List.set_cons_succ]
              refine wpAnyH_ready (rs := [18]) (by kernel_rfl) (by simp) ?_
              refine AllReadyH.cons (by simp only [List.getElem?_toArray, List.getElem?_cons_zero, List.getElem?_cons_succ]; rfl) (fun K hK => ?_) ?_
              · skip
                obtain ⟨A', c', wq68, run5, ob5, ba, qz⟩ := copy16 (c := cA - 14) QN.out.1 (R14.out _ (chain hd BD.out)) L14.out (by omega) QN.out.2 BD.out.size
                refine step_append_run (by kernel_rfl) (.tmp 37) (.tmp 41) 22 22 (by kernel_rfl) (.slice (some ⟨vb, 0, none⟩) 0 0) (.slice (some ⟨bA, oA + 14, none⟩) k (cA - 14)) (by kernel_rfl) (by kernel_rfl) (.slice A' k c') run5 ?_
                clear hHeld
                replace BD := Lib.hid (BD.out.trans ba)
                refine hK.out _ _ ((BD.out.cell (p := ⟨bA, oA + 10, none⟩) l10).trans c10) (fun hHeld => ?_)
                clear hK K
                try simp only [Act.put, List.setIfInBounds_toArray, List.set_cons_zero, List.set_cons_succ]
                have QY := Lib.hid ob5
                replace Rz := Lib.hid (qz _ _ Rz.out)
                clear ba ob5 run5 qz QN
                refine wpAnyH_take (i := 19) (v := ?vv1029) (by simp only [List.getElem?_toArray, List.getElem?_cons_zero, List.getElem?_cons_succ]; rfl) (by kernel_rfl) (by kernel_rfl) (by kernel_rfl) (fun _ _ _ h => h) (Or.inl ⟨by rfl, ?yy1029⟩) (by assumption) ?rr1029
                case yy1029 => (intro w hSw; (try dsimp only at hSw); go_simp; first | done | with_reducible rfl)
                simp only [Act.put, List.setIfInBounds_toArray, List.set_cons_zero, List.set_cons_succ]
                refine wpAnyH_ready (rs := [21]) (by kernel_rfl) (by simp) ?_
                refine AllReadyH.cons (by simp only [List.getElem?_toArray, List.getElem?_cons_zero, List.getElem?_cons_succ]; rfl) (fun K hK => ?_) ?_
                · skip
                  obtain ⟨z0, z1, z2, z3, z4, fz⟩ := Rz.out.cells
                  have f0 := fz 0
                  have f1 := fz 1
                  have f2 := fz 2
                  have f3 := fz 3
                  have f4 := fz 4
                  have rz' := Lib.hid Rz.out
                  go_simp
                  clear hHeld z0 z1 z2 z3 z4 fz f0 f1 f2 f3 f4
                  have hS := Lib.hid (sets16 (G : Int) (P : Int) (t : Int) (Kn : Int) (.slice A' k c') Rz.out QY.out BD.out zl)
                  refine hK.out _ _ ((hS.out.2.2.cell (p := ⟨bA, oA + 10, none⟩) l10).trans c10) (fun hHeld => ?_)
                  clear hK K
                  try simp only [Act.put, List.setIfInBounds_toArray, List.set_cons_zero, List.set_cons_succ]
                  generalize (((((wq68.setCell ⟨z, 0, none⟩ (.int .i64 (G : Int))).setCell ⟨z, 1, none⟩ (.int .i64 (P : Int))).setCell ⟨z, 2, none⟩ (.int .i64 (t : Int))).setCell ⟨z, 3, none⟩ (.int .i64 (Kn : Int))).setCell ⟨z, 4, none⟩ (.slice A' k c')) = wq69 at hHeld hS ⊢
                  clear rz'
                  refine wpAnyH_done (by kernel_rfl) ?_ _
                  refine NoPanic.normal ?_
                  clear hHeld
                  go_wp2_with fail
                  go_meet
                  exact ⟨z, A', c', rfl, hS.out.1, own_base hS.out.2.1 hd.size, chain hd hS.out.2.2, Nat.le_trans hd.size zl⟩
                exact AllReadyH.nil
              exact AllReadyH.nil
            exact AllReadyH.nil
          exact AllReadyH.nil
        exact AllReadyH.nil
      exact AllReadyH.nil
    refine AllReadyH.cons (by simp only [List.getElem?_toArray, List.getElem?_cons_zero, List.getElem?_cons_succ]; rfl) (fun K hK => ?_) ?_
    · skip
      go_simp
      clear hHeld
      obtain ⟨vb, hvb⟩ : ∃ b, b = wq1.heap.size := ⟨_, rfl⟩
      have QN : Hid (OV16 (wq1.alloc (.cells #[] 5)) wq1.heap.size vb) := by rw [hvb]; exact ⟨heap_alloc_new wq1 _, BD.out.size⟩
      rw [← hvb]
      clear hvb
      replace BD := Lib.hid (chain_alloc BD.out (.cells #[] 5))
      refine hK.out _ _ ((BD.out.cell (p := ⟨bA, oA + 10, none⟩) l10).trans c10) (fun hHeld => ?_)
      clear hK K
      try simp only [Act.put, List.setIfInBounds_toArray, List.set_cons_zero, List.set_cons_succ]
      generalize wq1.alloc (.cells #[] 5) = wq70 at hHeld QN BD ⊢
      refine wpAnyH_ready (rs := [2, 20]) (by kernel_rfl) (by simp) ?_
      refine AllReadyH.cons (by simp only [List.getElem?_toArray, List.getElem?_cons_zero, List.getElem?_cons_succ]; rfl) (fun K hK => ?_) ?_
      · skip
        go_simp
        go_at_call 20
        (with_reducible refine ((CR1.out _ (chain hd BD.out))).mono ?_)
        rintro e wq71 ⟨rfl, hb⟩
        clear hHeld
        replace BD := Lib.hid (chain BD.out hb)
        replace QN := Lib.hid (QN.out.below hb)
        clear hb
        go_wp2_with fail
        refine hK.out _ _ ((BD.out.cell (p := ⟨bA, oA + 10, none⟩) l10).trans c10) (fun hHeld => ?_)
        clear hK K
        try simp only [Act.put, List.setIfInBounds_toArray, List.set_cons_zero, List.set_cons_succ]
        refine wpAnyH_ready (rs := [5, 20]) (by kernel_rfl) (by simp) ?_
        refine AllReadyH.cons (by simp only [List.getElem?_toArray, List.getElem?_cons_zero, List.getElem?_cons_succ]; rfl) (fun K hK => ?_) ?_
        · skip
          go_simp
          go_at_call 20
          (with_reducible refine ((CR2.out _ (chain hd BD.out))).mono ?_)
          rintro e wq72 ⟨rfl, hb⟩
          clear hHeld
          replace BD := Lib.hid (chain BD.out hb)
          replace QN := Lib.hid (QN.out.below hb)
          clear hb
          go_wp2_with fail
          refine hK.out _ _ ((BD.out.cell (p := ⟨bA, oA + 10, none⟩) l10).trans c10) (fun hHeld => ?_)
          clear hK K
          try simp only [Act.put, List.setIfInBounds_toArray, List.set_cons_zero, List.set_cons_succ]
          refine wpAnyH_ready (rs := [12, 20]) (by kernel_rfl) (by simp) ?_
          refine AllReadyH.cons (by simp only [List.getElem?_toArray, List.getElem?_cons_zero, List.getElem?_cons_succ]; rfl) (fun K hK => ?_) ?_
          · skip
            go_simp
            go_at_call 20
            (with_reducible refine ((CR3.out _ (chain hd BD.out))).mono ?_)
            rintro e wq73 ⟨rfl, hb⟩
            clear hHeld
            replace BD := Lib.hid (chain BD.out hb)
            replace QN := Lib.hid (QN.out.below hb)
            clear hb
            go_wp2_with fail
            refine hK.out _ _ ((BD.out.cell (p := ⟨bA, oA + 10, none⟩) l10).trans c10) (fun hHeld => ?_)
            clear hK K
            try simp only [Act.put, List.setIfInBounds_toArray, List.set_cons_zero, List.set_cons_succ]
            refine wpAnyH_ready (rs := [18, 20]) (by kernel_rfl) (by simp) ?_
            refine AllReadyH.cons (by simp only [List.getElem?_toArray, List.getElem?_cons_zero, List.getElem?_cons_succ]; rfl) (fun K hK => ?_) ?_
            · skip
              obtain ⟨A', c', wq74, run5, ob5, ba, qz⟩ := copy16 (c := cA - 14) QN.out.1 (R14.out _ (chain hd BD.out)) L14.out (by omega) QN.out.2 BD.out.size
              refine step_append_run (by kernel_rfl) (.tmp 37) (.tmp 41) 22 22 (by kernel_rfl) (.slice (some ⟨vb, 0, none⟩) 0 0) (.slice (some ⟨bA, oA + 14, none⟩) k (cA - 14)) (by kernel_rfl) (by kernel_rfl) (.slice A' k c') run5 ?_
              clear hHeld
              replace BD := Lib.hid (BD.out.trans ba)
              refine hK.out _ _ ((BD.out.cell (p := ⟨bA, oA + 10, none⟩) l10).trans c10) (fun hHeld => ?_)
              clear hK K
              try simp only [Act.put, List.setIfInBounds_toArray, List.set_cons_zero, List.set_cons_succ]
              have QY := Lib.hid ob5
              clear ba ob5 run5 qz QN
              refine wpAnyH_take (i := 19) (v := ?vv1030) (by simp only [List.getElem?_toArray, List.getElem?_cons_zero, List.getElem?_cons_succ]; rfl) (by kernel_rfl) (by kernel_rfl) (by kernel_rfl) (fun _ _ _ h => h) (Or.inl ⟨by rfl, ?yy1030⟩) (by assumption) ?rr1030
              case yy1030 => (intro w hSw; (try dsimp only at hSw); go_simp; first | done | with_reducible rfl)
              simp only [Act.put, List.setIfInBounds_toArray, List.set_cons_zero, List.set_cons_succ]
              refine wpAnyH_ready (rs := [20]) (by kernel_rfl) (by simp) ?_
              refine AllReadyH.cons (by simp only [List.getElem?_toArray, List.getElem?_cons_zero, List.getElem?_cons_succ]; rfl) (fun K hK => ?_) ?_
              · skip
                go_simp
                clear hHeld
                obtain ⟨z, hB⟩ : ∃ b, b = wq74.heap.size := ⟨_, rfl⟩
                have zl : wq1.heap.size ≤ z := by rw [hB]; exact BD.out.size
                have Rz : Hid (QV (wq74.alloc (.cells #[.int .i64 0, .int .i64 0, .int .i64 0, .int .i64 0, .slice none 0 0] 24)) z #[.int .i64 0, .int .i64 0, .int .i64 0, .int .i64 0, .slice none 0 0]) := by rw [hB]; exact heap_alloc_new wq74 _
                rw [← hB]
                clear hB
                replace BD := Lib.hid (chain_alloc BD.out (.cells #[.int .i64 0, .int .i64 0, .int .i64 0, .int .i64 0, .slice none 0 0] 24))
                replace QY := Lib.hid (QY.out.below (chain_alloc (Below.refl _ wq74) (.cells #[.int .i64 0, .int .i64 0, .int .i64 0, .int .i64 0, .slice none 0 0] 24)))
                refine hK.out _ _ ((BD.out.cell (p := ⟨bA, oA + 10, none⟩) l10).trans c10) (fun hHeld => ?_)
                clear hK K
                try simp only [Act.put, List.setIfInBounds_toArray, List.set_cons_zero, List.set_cons_succ]
                generalize wq74.alloc (.cells #[.int .i64 0, .int .i64 0, .int .i64 0, .int .i64 0, .slice none 0 0] 24) = wq75 at hHeld Rz BD QY ⊢
                refine wpAnyH_ready (rs := [21]) (by kernel_rfl) (by simp) ?_
                refine AllReadyH.cons (by simp only [List.getElem?_toArray, List.getElem?_cons_zero, List.getElem?_cons_succ]; rfl) (fun K hK => ?_) ?_
                · skip
                  obtain ⟨z0, z1, z2, z3, z4, fz⟩ := Rz.out.cells
                  have f0 := fz 0
                  have f1 := fz 1
                  have f2 := fz 2
                  have f3 := fz 3
                  have f4 := fz 4
                  have rz' := Lib.hid Rz.out
                  go_simp
                  clear hHeld z0 z1 z2 z3 z4 fz f0 f1 f2 f3 f4
                  have hS := Lib.hid (sets16 (G : Int) (P : Int) (t : Int) (Kn : Int) (.slice A' k c') Rz.out QY.out BD.out zl)
                  refine hK.out _ _ ((hS.out.2.2.cell (p := ⟨bA, oA + 10, none⟩) l10).trans c10) (fun hHeld => ?_)
                  clear hK K
                  try simp only [Act.put, List.setIfInBounds_toArray, List.set_cons_zero, List.set_cons_succ]
                  generalize (((((wq75.setCell ⟨z, 0, none⟩ (.int .i64 (G : Int))).setCell ⟨z, 1, none⟩ (.int .i64 (P : Int))).setCell ⟨z, 2, none⟩ (.int .i64 (t : Int))).setCell ⟨z, 3, none⟩ (.int .i64 (Kn : Int))).setCell ⟨z, 4, none⟩ (.slice A' k c')) = wq76 at hHeld hS ⊢
                  clear rz'
                  refine wpAnyH_done (by kernel_rfl) ?_ _
                  refine NoPanic.normal ?_
                  clear hHeld
                  go_wp2_with fail
                  go_meet
                  exact ⟨z, A', c', rfl, hS.out.1, own_base hS.out.2.1 hd.size, chain hd hS.out.2.2, Nat.le_trans hd.size zl⟩
                exact AllReadyH.nil
              exact AllReadyH.nil
            refine AllReadyH.cons (by simp only [List.getElem?_toArray, List.getElem?_cons_zero, List.getElem?_cons_succ]; rfl) (fun K hK => ?_) ?_
            · skip
              go_simp
              clear hHeld
              obtain ⟨z, hB⟩ : ∃ b, b = wq73.heap.size := ⟨_, rfl⟩
              have zl : wq1.heap.size ≤ z := by rw [hB]; exact BD.out.size
              have Rz : Hid (QV (wq73.alloc (.cells #[.int .i64 0, .int .i64 0, .int .i64 0, .int .i64 0, .slice none 0 0] 24)) z #[.int .i64 0, .int .i64 0, .int .i64 0, .int .i64 0, .slice none 0 0]) := by rw [hB]; exact heap_alloc_new wq73 _
              rw [← hB]
              clear hB
              replace BD := Lib.hid (chain_alloc BD.out (.cells #[.int .i64 0, .int .i64 0, .int .i64 0, .int .i64 0, .slice none 0 0] 24))
              replace QN := Lib.hid (QN.out.below (chain_alloc (Below.refl _ wq73) (.cells #[.int .i64 0, .int .i64 0, .int .i64 0, .int .i64 0, .slice none 0 0] 24)))
              refine hK.out _ _ ((BD.out.cell (p := ⟨bA, oA + 10, none⟩) l10).trans c10) (fun hHeld => ?_)
              clear hK K
              try simp only [Act.put, List.setIfInBounds_toArray, List.set_cons_zero, List.set_cons_succ]
              generalize wq73.alloc (.cells #[.int .i64 0, .int .i64 0, .int .i64 0, .int .i64 0, .slice none 0 0] 24) = wq77 at hHeld Rz BD QN ⊢
              refine wpAnyH_ready (rs := [18]) (by kernel_rfl) (by simp) ?_
              refine AllReadyH.cons (by simp only [List.getElem?_toArray, List.getElem?_cons_zero, List.getElem?_cons_succ]; rfl) (fun K hK => ?_) ?_
              · skip
                obtain ⟨A', c', wq78, run5, ob5, ba, qz⟩ := copy16 (c := cA - 14) QN.out.1 (R14.out _ (chain hd BD.out)) L14.out (by omega) QN.out.2 BD.out.size
                refine step_append_run (by kernel_rfl) (.tmp 37) (.tmp 41) 22 22 (by kernel_rfl) (.slice (some ⟨vb, 0, none⟩) 0 0) (.slice (some ⟨bA, oA + 14, none⟩) k (cA - 14)) (by kernel_rfl) (by kernel_rfl) (.slice A' k c') run5 ?_
                clear hHeld
                replace BD := Lib.hid (BD.out.trans ba)
                refine hK.out _ _ ((BD.out.cell (p := ⟨bA, oA + 10, none⟩) l10).trans c10) (fun hHeld => ?_)
                clear hK K
                try simp only [Act.put, List.setIfInBounds_toArray, List.set_cons_zero, List.set_cons_succ]
                have QY := Lib.hid ob5
                replace Rz := Lib.hid (qz _ _ Rz.out)
                clear ba ob5 run5 qz QN
                refine wpAnyH_take (i := 19) (v := ?vv1031) (by simp only [List.getElem?_toArray, List.getElem?_cons_zero, List.getElem?_cons_succ]; rfl) (by kernel_rfl) (by kernel_rfl) (by kernel_rfl) (fun _ _ _ h => h) (Or.inl ⟨by rfl, ?yy1031⟩) (by assumption) ?rr1031
                case yy1031 => (intro w hSw; (try dsimp only at hSw); go_simp; first | done | with_reducible rfl)
                simp only [Act.put, List.setIfInBounds_toArray, List.set_cons_zero, List.set_cons_succ]
                refine wpAnyH_ready (rs := [21]) (by kernel_rfl) (by simp) ?_
                refine AllReadyH.cons (by simp only [List.getElem?_toArray, List.getElem?_cons_zero, List.getElem?_cons_succ]; rfl) (fun K hK => ?_) ?_
                · skip
                  obtain ⟨z0, z1, z2, z3, z4, fz⟩ := Rz.out.cells
                  have f0 := fz 0
                  have f1 := fz 1
                  have f2 := fz 2
                  have f3 := fz 3
                  have f4 := fz 4
                  have rz' := Lib.hid Rz.out
                  go_simp
                  clear hHeld z0 z1 z2 z3 z4 fz f0 f1 f2 f3 f4
                  have hS := Lib.hid (sets16 (G : Int) (P : Int) (t : Int) (Kn : Int) (.slice A' k c') Rz.out QY.out BD.out zl)
                  refine hK.out _ _ ((hS.out.2.2.cell (p := ⟨bA, oA + 10, none⟩) l10).trans c10) (fun hHeld => ?_)
                  clear hK K
                  try simp only [Act.put, List.setIfInBounds_toArray, List.set_cons_zero, List.set_cons_succ]
                  generalize (((((wq78.setCell ⟨z, 0, none⟩ (.int .i64 (G : Int))).setCell ⟨z, 1, none⟩ (.int .i64 (P : Int))).setCell ⟨z, 2, none⟩ (.int .i64 (t : Int))).setCell ⟨z, 3, none⟩ (.int .i64 (Kn : Int))).setCell ⟨z, 4, none⟩ (.slice A' k c')) = wq79 at hHeld hS ⊢
                  clear rz'
                  refine wpAnyH_done (by kernel_rfl) ?_ _
                  refine NoPanic.normal ?_
                  clear hHeld
                  go_wp2_with fail
                  go_meet
                  exact ⟨z, A', c', rfl, hS.out.1, own_base hS.out.2.1 hd.size, chain hd hS.out.2.2, Nat.le_trans hd.size zl⟩
                exact AllReadyH.nil
              exact AllReadyH.nil
            exact AllReadyH.nil
          refine AllReadyH.cons (by simp only [List.getElem?_toArray, List.getElem?_cons_zero, List.getElem?_cons_succ]; rfl) (fun K hK => ?_) ?_
          · skip
            go_simp
            clear hHeld
            obtain ⟨z, hB⟩ : ∃ b, b = wq72.heap.size := ⟨_, rfl⟩
            have zl : wq1.heap.size ≤ z := by rw [hB]; exact BD.out.size
            have Rz : Hid (QV (wq72.alloc (.cells #[.int .i64 0, .int .i64 0, .int .i64 0, .int .i64 0, .slice none 0 0] 24)) z #[.int .i64 0, .int .i64 0, .int .i64 0, .int .i64 0, .slice none 0 0]) := by rw [hB]; exact heap_alloc_new wq72 _
            rw [← hB]
            clear hB
            replace BD := Lib.hid (chain_alloc BD.out (.cells #[.int .i64 0, .int .i64 0, .int .i64 0, .int .i64 0, .slice none 0 0] 24))
            replace QN := Lib.hid (QN.out.below (chain_alloc (Below.refl _ wq72) (.cells #[.int .i64 0, .int .i64 0, .int .i64 0, .int .i64 0, .slice none 0 0] 24)))
            refine hK.out _ _ ((BD.out.cell (p := ⟨bA, oA + 10, none⟩) l10).trans c10) (fun hHeld => ?_)
            clear hK K
            try simp only [Act.put, List.setIfInBounds_toArray, List.set_cons_zero, List.set_cons_succ]
            generalize wq72.alloc (.cells #[.int .i64 0, .int .i64 0, .int .i64 0, .int .i64 0, .slice none 0 0] 24) = wq80 at hHeld Rz BD QN ⊢
            refine wpAnyH_ready (rs := [12]) (by kernel_rfl) (by simp) ?_
            refine AllReadyH.cons (by simp only [List.getElem?_toArray, List.getElem?_cons_zero, List.getElem?_cons_succ]; rfl) (fun K hK => ?_) ?_
            · skip
              go_simp
              go_at_call 20
              (with_reducible refine ((CR3.out _ (chain hd BD.out))).mono ?_)
              rintro e wq81 ⟨rfl, hb⟩
              clear hHeld
              replace BD := Lib.hid (chain BD.out hb)
              replace QN := Lib.hid (QN.out.below hb)
              replace Rz := Lib.hid (Rz.out.below hb)
              clear hb
              go_wp2_with fail
              refine hK.out _ _ ((BD.out.cell (p := ⟨bA, oA + 10, none⟩) l10).trans c10) (fun hHeld => ?_)
              clear hK K
              try simp only [Act.put, List.setIfInBounds_toArray, List.set_cons_zero, List.set_cons_succ]
              refine wpAnyH_ready (rs := [18]) (by kernel_rfl) (by simp) ?_
              refine AllReadyH.cons (by simp only [List.getElem?_toArray, List.getElem?_cons_zero, List.getElem?_cons_succ]; rfl) (fun K hK => ?_) ?_
              · skip
                obtain ⟨A', c', wq82, run5, ob5, ba, qz⟩ := copy16 (c := cA - 14) QN.out.1 (R14.out _ (chain hd BD.out)) L14.out (by omega) QN.out.2 BD.out.size
                refine step_append_run (by kernel_rfl) (.tmp 37) (.tmp 41) 22 22 (by kernel_rfl) (.slice (some ⟨vb, 0, none⟩) 0 0) (.slice (some ⟨bA, oA + 14, none⟩) k (cA - 14)) (by kernel_rfl) (by kernel_rfl) (.slice A' k c') run5 ?_
                clear hHeld
                replace BD := Lib.hid (BD.out.trans ba)
                refine hK.out _ _ ((BD.out.cell (p := ⟨bA, oA + 10, none⟩) l10).trans c10) (fun hHeld => ?_)
                clear hK K
                try simp only [Act.put, List.setIfInBounds_toArray, List.set_cons_zero, List.set_cons_succ]
                have QY := Lib.hid ob5
                replace Rz := Lib.hid (qz _ _ Rz.out)
                clear ba ob5 run5 qz QN
                refine wpAnyH_take (i := 19) (v := ?vv1032) (by simp only [List.getElem?_toArray, List.getElem?_cons_zero, List.getElem?_cons_succ]; rfl) (by kernel_rfl) (by kernel_rfl) (by kernel_rfl) (fun _ _ _ h => h) (Or.inl ⟨by rfl, ?yy1032⟩) (by assumption) ?rr1032
                case yy1032 => (intro w hSw; (try dsimp only at hSw); go_simp; first | done | with_reducible rfl)
                simp only [Act.put, List.setIfInBounds_toArray, List.set_cons_zero, List.set_cons_succ]
                refine wpAnyH_ready (rs := [21]) (by kernel_rfl) (by simp) ?_
                refine AllReadyH.cons (by simp only [List.getElem?_toArray, List.getElem?_cons_zero, List.getElem?_cons_succ]; rfl) (fun K hK => ?_) ?_
                · skip
                  obtain ⟨z0, z1, z2, z3, z4, fz⟩ := Rz.out.cells
                  have f0 := fz 0
                  have f1 := fz 1
                  have f2 := fz 2
                  have f3 := fz 3
                  have f4 := fz 4
                  have rz' := Lib.hid Rz.out
                  go_simp
                  clear hHeld z0 z1 z2 z3 z4 fz f0 f1 f2 f3 f4
                  have hS := Lib.hid (sets16 (G : Int) (P : Int) (t : Int) (Kn : Int) (.slice A' k c') Rz.out QY.out BD.out zl)
                  refine hK.out _ _ ((hS.out.2.2.cell (p := ⟨bA, oA + 10, none⟩) l10).trans c10) (fun hHeld => ?_)
                  clear hK K
                  try simp only [Act.put, List.setIfInBounds_toArray, List.set_cons_zero, List.set_cons_succ]
                  generalize (((((wq82.setCell ⟨z, 0, none⟩ (.int .i64 (G : Int))).setCell ⟨z, 1, none⟩ (.int .i64 (P : Int))).setCell ⟨z, 2, none⟩ (.int .i64 (t : Int))).setCell ⟨z, 3, none⟩ (.int .i64 (Kn : Int))).setCell ⟨z, 4, none⟩ (.slice A' k c')) = wq83 at hHeld hS ⊢
                  clear rz'
                  refine wpAnyH_done (by kernel_rfl) ?_ _
                  refine NoPanic.normal ?_
                  clear hHeld
                  go_wp2_with fail
                  go_meet
                  exact ⟨z, A', c', rfl, hS.out.1, own_base hS.out.2.1 hd.size, chain hd hS.out.2.2, Nat.le_trans hd.size zl⟩
                exact AllReadyH.nil
              exact AllReadyH.nil
            exact AllReadyH.nil
          exact AllReadyH.nil
        refine AllReadyH.cons (by simp only [List.getElem?_toArray, List.getElem?_cons_zero, List.getElem?_cons_succ]; rfl) (fun K hK => ?_) ?_
        · skip
          go_simp
          clear hHeld
          obtain ⟨z, hB⟩ : ∃ b, b = wq71.heap.size := ⟨_, rfl⟩
          have zl : wq1.heap.size ≤ z := by rw [hB]; exact BD.out.size
          have Rz : Hid (QV (wq71.alloc (.cells #[.int .i64 0, .int .i64 0, .int .i64 0, .int .i64 0, .slice none 0 0] 24)) z #[.int .i64 0, .int .i64 0, .int .i64 0, .int .i64 0, .slice none 0 0]) := by rw [hB]; exact heap_alloc_new wq71 _
          rw [← hB]
          clear hB
          replace BD := Lib.hid (chain_alloc BD.out (.cells #[.int .i64 0, .int .i64 0, .int .i64 0, .int .i64 0, .slice none 0 0] 24))
          replace QN := Lib.hid (QN.out.below (chain_alloc (Below.refl _ wq71) (.cells #[.int .i64 0, .int .i64 0, .int .i64 0, .int .i64 0, .slice none 0 0] 24)))
          refine hK.out _ _ ((BD.out.cell (p := ⟨bA, oA + 10, none⟩) l10).trans c10) (fun hHeld => ?_)
          clear hK K
          try simp only [Act.put, List.setIfInBounds_toArray, List.set_cons_zero, List.set_cons_succ]
          generalize wq71.alloc (.cells #[.int .i64 0, .int .i64 0, .int .i64 0, .int .i64 0, .slice none 0 0] 24) = wq84 at hHeld Rz BD QN ⊢
          refine wpAnyH_ready (rs := [5]) (by kernel_rfl) (by simp) ?_
          refine AllReadyH.cons (by simp only [List.getElem?_toArray, List.getElem?_cons_zero, List.getElem?_cons_succ]; rfl) (fun K hK => ?_) ?_
          · skip
            go_simp
            go_at_call 20
            (with_reducible refine ((CR2.out _ (chain hd BD.out))).mono ?_)
            rintro e wq85 ⟨rfl, hb⟩
            clear hHeld
            replace BD := Lib.hid (chain BD.out hb)
            replace QN := Lib.hid (QN.out.below hb)
            replace Rz := Lib.hid (Rz.out.below hb)
            clear hb
            go_wp2_with fail
            refine hK.out _ _ ((BD.out.cell (p := ⟨bA, oA + 10, none⟩) l10).trans c10) (fun hHeld => ?_)
            clear hK K
            try simp only [Act.put, List.setIfInBounds_toArray, List.set_cons_zero, List.set_cons_succ]
            refine wpAnyH_ready (rs := [12]) (by kernel_rfl) (by simp) ?_
            refine AllReadyH.cons (by simp only [List.getElem?_toArray, List.getElem?_cons_zero, List.getElem?_cons_succ]; rfl) (fun K hK => ?_) ?_
            · skip
              go_simp
              go_at_call 20
              (with_reducible refine ((CR3.out _ (chain hd BD.out))).mono ?_)
              rintro e wq86 ⟨rfl, hb⟩
              clear hHeld
              replace BD := Lib.hid (chain BD.out hb)
              replace QN := Lib.hid (QN.out.below hb)
              replace Rz := Lib.hid (Rz.out.below hb)
              clear hb
              go_wp2_with fail
              refine hK.out _ _ ((BD.out.cell (p := ⟨bA, oA + 10, none⟩) l10).trans c10) (fun hHeld => ?_)
              clear hK K
              try simp only [Act.put, List.setIfInBounds_toArray, List.set_cons_zero, List.set_cons_succ]
              refine wpAnyH_ready (rs := [18]) (by kernel_rfl) (by simp) ?_
              refine AllReadyH.cons (by simp only [List.getElem?_toArray, List.getElem?_cons_zero, List.getElem?_cons_succ]; rfl) (fun K hK => ?_) ?_
              · skip
                obtain ⟨A', c', wq87, run5, ob5, ba, qz⟩ := copy16 (c := cA - 14) QN.out.1 (R14.out _ (chain hd BD.out)) L14.out (by omega) QN.out.2 BD.out.size
                refine step_append_run (by kernel_rfl) (.tmp 37) (.tmp 41) 22 22 (by kernel_rfl) (.slice (some ⟨vb, 0, none⟩) 0 0) (.slice (some ⟨bA, oA + 14, none⟩) k (cA - 14)) (by kernel_rfl) (by kernel_rfl) (.slice A' k c') run5 ?_
                clear hHeld
                replace BD := Lib.hid (BD.out.trans ba)
                refine hK.out _ _ ((BD.out.cell (p := ⟨bA, oA + 10, none⟩) l10).trans c10) (fun hHeld => ?_)
                clear hK K
                try simp only [Act.put, List.setIfInBounds_toArray, List.set_cons_zero, List.set_cons_succ]
                have QY := Lib.hid ob5
                replace Rz := Lib.hid (qz _ _ Rz.out)
                clear ba ob5 run5 qz QN
                refine wpAnyH_take (i := 19) (v := ?vv1033) (by simp only [List.getElem?_toArray, List.getElem?_cons_zero, List.getElem?_cons_succ]; rfl) (by kernel_rfl) (by kernel_rfl) (by kernel_rfl) (fun _ _ _ h => h) (Or.inl ⟨by rfl, ?yy1033⟩) (by assumption) ?rr1033
                case yy1033 => (intro w hSw; (try dsimp only at hSw); go_simp; first | done | with_reducible rfl)
                simp only [Act.put, List.setIfInBounds_toArray, List.set_cons_zero, List.set_cons_succ]
                refine wpAnyH_ready (rs := [21]) (by kernel_rfl) (by simp) ?_
                refine AllReadyH.cons (by simp only [List.getElem?_toArray, List.getElem?_cons_zero, List.getElem?_cons_succ]; rfl) (fun K hK => ?_) ?_
                · skip
                  obtain ⟨z0, z1, z2, z3, z4, fz⟩ := Rz.out.cells
                  have f0 := fz 0
                  have f1 := fz 1
                  have f2 := fz 2
                  have f3 := fz 3
                  have f4 := fz 4
                  have rz' := Lib.hid Rz.out
                  go_simp
                  clear hHeld z0 z1 z2 z3 z4 fz f0 f1 f2 f3 f4
                  have hS := Lib.hid (sets16 (G : Int) (P : Int) (t : Int) (Kn : Int) (.slice A' k c') Rz.out QY.out BD.out zl)
                  refine hK.out _ _ ((hS.out.2.2.cell (p := ⟨bA, oA + 10, none⟩) l10).trans c10) (fun hHeld => ?_)
                  clear hK K
                  try simp only [Act.put, List.setIfInBounds_toArray, List.set_cons_zero, List.set_cons_succ]
                  generalize (((((wq87.setCell ⟨z, 0, none⟩ (.int .i64 (G : Int))).setCell ⟨z, 1, none⟩ (.int .i64 (P : Int))).setCell ⟨z, 2, none⟩ (.int .i64 (t : Int))).setCell ⟨z, 3, none⟩ (.int .i64 (Kn : Int))).setCell ⟨z, 4, none⟩ (.slice A' k c')) = wq88 at hHeld hS ⊢
                  clear rz'
                  refine wpAnyH_done (by kernel_rfl) ?_ _
                  refine NoPanic.normal ?_
                  clear hHeld
                  go_wp2_with fail
                  go_meet
                  exact ⟨z, A', c', rfl, hS.out.1, own_base hS.out.2.1 hd.size, chain hd hS.out.2.2, Nat.le_trans hd.size zl⟩
                exact AllReadyH.nil
              exact AllReadyH.nil
            exact AllReadyH.nil
          exact AllReadyH.nil
        exact AllReadyH.nil
      refine AllReadyH.cons (by simp only [List.getElem?_toArray, List.getElem?_cons_zero, List.getElem?_cons_succ]; rfl) (fun K hK => ?_) ?_
      · skip
        go_simp
        clear hHeld
        obtain ⟨z, hB⟩ : ∃ b, b = wq70.heap.size := ⟨_, rfl⟩
        have zl : wq1.heap.size ≤ z := by rw [hB]; exact BD.out.size
        have Rz : Hid (QV (wq70.alloc (.cells #[.int .i64 0, .int .i64 0, .int .i64 0, .int .i64 0, .slice none 0 0] 24)) z #[.int .i64 0, .int .i64 0, .int .i64 0, .int .i64 0, .slice none 0 0]) := by rw [hB]; exact heap_alloc_new wq70 _
        rw [← hB]
        clear hB
        replace BD := Lib.hid (chain_alloc BD.out (.cells #[.int .i64 0, .int .i64 0, .int .i64 0, .int .i64 0, .slice none 0 0] 24))
        replace QN := Lib.hid (QN.out.below (chain_alloc (Below.refl _ wq70) (.cells #[.int .i64 0, .int .i64 0, .int .i64 0, .int .i64 0, .slice none 0 0] 24)))
        refine hK.out _ _ ((BD.out.cell (p := ⟨bA, oA + 10, none⟩) l10).trans c10) (fun hHeld => ?_)
        clear hK K
        try simp only [Act.put, List.setIfInBounds_toArray, List.set_cons_zero, List.set_cons_succ]
        generalize wq70.alloc (.cells #[.int .i64 0, .int .i64 0, .int .i64 0, .int .i64 0, .slice none 0 0] 24) = wq89 at hHeld Rz BD QN ⊢
        refine wpAnyH_ready (rs := [2]) (by kernel_rfl) (by simp) ?_
        refine AllReadyH.cons (by simp only [List.getElem?_toArray, List.getElem?_cons_zero, List.getElem?_cons_succ]; rfl) (fun K hK => ?_) ?_
        · skip
          go_simp
          go_at_call 20
          (with_reducible refine ((CR1.out _ (chain hd BD.out))).mono ?_)
          rintro e wq90 ⟨rfl, hb⟩
          clear hHeld
          replace BD := Lib.hid (chain BD.out hb)
          replace QN := Lib.hid (QN.out.below hb)
          replace Rz := Lib.hid (Rz.out.below hb)
          clear hb
          go_wp2_with fail
          refine hK.out _ _ ((BD.out.cell (p := ⟨bA, oA + 10, none⟩) l10).trans c10) (fun hHeld => ?_)
          clear hK K
          try simp only [Act.put, List.setIfInBounds_toArray, List.set_cons_zero, List.set_cons_succ]
          refine wpAnyH_ready (rs := [5]) (by kernel_rfl) (by simp) ?_
          refine AllReadyH.cons (by simp only [List.getElem?_toArray, List.getElem?_cons_zero, List.getElem?_cons_succ]; rfl) (fun K hK => ?_) ?_
          · skip
            go_simp
            go_at_call 20
            (with_reducible refine ((CR2.out _ (chain hd BD.out))).mono ?_)
            rintro e wq91 ⟨rfl, hb⟩
            clear hHeld
            replace BD := Lib.hid (chain BD.out hb)
            replace QN := Lib.hid (QN.out.below hb)
            replace Rz := Lib.hid (Rz.out.below hb)
            clear hb
            go_wp2_with fail
            refine hK.out _ _ ((BD.out.cell (p := ⟨bA, oA + 10, none⟩) l10).trans c10) (fun hHeld => ?_)
            clear hK K
            try simp only [Act.put, List.setIfInBounds_toArray, List.set_cons_zero, List.set_cons_succ]
            refine wpAnyH_ready (rs := [12]) (by kernel_rfl) (by simp) ?_
            refine AllReadyH.cons (by simp only [List.getElem?_toArray, List.getElem?_cons_zero, List.getElem?_cons_succ]; rfl) (fun K hK => ?_) ?_
            · skip
              go_simp
              go_at_call 20
              (with_reducible refine ((CR3.out _ (chain hd BD.out))).mono ?_)
              rintro e wq92 ⟨rfl, hb⟩
              clear hHeld
              replace BD := Lib.hid (chain BD.out hb)
              replace QN := Lib.hid (QN.out.below hb)
              replace Rz := Lib.hid (Rz.out.below hb)
              clear hb
              go_wp2_with fail
              refine hK.out _ _ ((BD.out.cell (p := ⟨bA, oA + 10, none⟩) l10).trans c10) (fun hHeld => ?_)
              clear hK K
              try simp only [Act.put, List.setIfInBounds_toArray, List.set_cons_zero, List.set_cons_succ]
              refine wpAnyH_ready (rs := [18]) (by kernel_rfl) (by simp) ?_
              refine AllReadyH.cons (by simp only [List.getElem?_toArray, List.getElem?_cons_zero, List.getElem?_cons_succ]; rfl) (fun K hK => ?_) ?_
              · skip
                obtain ⟨A', c', wq93, run5, ob5, ba, qz⟩ := copy16 (c := cA - 14) QN.out.1 (R14.out _ (chain hd BD.out)) L14.out (by omega) QN.out.2 BD.out.size
                refine step_append_run (by kernel_rfl) (.tmp 37) (.tmp 41) 22 22 (by kernel_rfl) (.slice (some ⟨vb, 0, none⟩) 0 0) (.slice (some ⟨bA, oA + 14, none⟩) k (cA - 14)) (by kernel_rfl) (by kernel_rfl) (.slice A' k c') run5 ?_
                clear hHeld
                replace BD := Lib.hid (BD.out.trans ba)
                refine hK.out _ _ ((BD.out.cell (p := ⟨bA, oA + 10, none⟩) l10).trans c10) (fun hHeld => ?_)
                clear hK K
                try simp only [Act.put, List.setIfInBounds_toArray, List.set_cons_zero, List.set_cons_succ]
                have QY := Lib.hid ob5
                replace Rz := Lib.hid (qz _ _ Rz.out)
                clear ba ob5 run5 qz QN
                refine wpAnyH_take (i := 19) (v := ?vv1034) (by simp only [List.getElem?_toArray, List.getElem?_cons_zero, List.getElem?_cons_succ]; rfl) (by kernel_rfl) (by kernel_rfl) (by kernel_rfl) (fun _ _ _ h => h) (Or.inl ⟨by rfl, ?yy1034⟩) (by assumption) ?rr1034
                case yy1034 => (intro w hSw; (try dsimp only at hSw); go_simp; first | done | with_reducible rfl)
                simp only [Act.put, List.setIfInBounds_toArray, List.set_cons_zero, List.set_cons_succ]
                refine wpAnyH_ready (rs := [21]) (by kernel_rfl) (by simp) ?_
                refine AllReadyH.cons (by simp only [List.getElem?_toArray, List.getElem?_cons_zero, List.getElem?_cons_succ]; rfl) (fun K hK => ?_) ?_
                · skip
                  obtain ⟨z0, z1, z2, z3, z4, fz⟩ := Rz.out.cells
                  have f0 := fz 0
                  have f1 := fz 1
                  have f2 := fz 2
                  have f3 := fz 3
                  have f4 := fz 4
                  have rz' := Lib.hid Rz.out
                  go_simp
                  clear hHeld z0 z1 z2 z3 z4 fz f0 f1 f2 f3 f4
                  have hS := Lib.hid (sets16 (G : Int) (P : Int) (t : Int) (Kn : Int) (.slice A' k c') Rz.out QY.out BD.out zl)
                  refine hK.out _ _ ((hS.out.2.2.cell (p := ⟨bA, oA + 10, none⟩) l10).trans c10) (fun hHeld => ?_)
                  clear hK K
                  try simp only [Act.put, List.setIfInBounds_toArray, List.set_cons_zero, List.set_cons_succ]
                  generalize (((((wq93.setCell ⟨z, 0, none⟩ (.int .i64 (G : Int))).setCell ⟨z, 1, none⟩ (.int .i64 (P : Int))).setCell ⟨z, 2, none⟩ (.int .i64 (t : Int))).setCell ⟨z, 3, none⟩ (.int .i64 (Kn : Int))).setCell ⟨z, 4, none⟩ (.slice A' k c')) = wq94 at hHeld hS ⊢
                  clear rz'
                  refine wpAnyH_done (by kernel_rfl) ?_ _
                  refine NoPanic.normal ?_
                  clear hHeld
                  go_wp2_with fail
                  go_meet
                  exact ⟨z, A', c', rfl, hS.out.1, own_base hS.out.2.1 hd.size, chain hd hS.out.2.2, Nat.le_trans hd.size zl⟩
                exact AllReadyH.nil
              exact AllReadyH.nil
            exact AllReadyH.nil
          exact AllReadyH.nil
        exact AllReadyH.nil
      exact AllReadyH.nil
    refine AllReadyH.cons (by simp only [List.getElem?_toArray, List.getElem?_cons_zero, List.getElem?_cons_succ]; rfl) (fun K hK => ?_) ?_
    · skip
      go_simp
      clear hHeld
      obtain ⟨z, hB⟩ : ∃ b, b = wq1.heap.size := ⟨_, rfl⟩
      have zl : wq1.heap.size ≤ z := by rw [hB]; exact BD.out.size
      have Rz : Hid (QV (wq1.alloc (.cells #[.int .i64 0, .int .i64 0, .int .i64 0, .int .i64 0, .slice none 0 0] 24)) z #[.int .i64 0, .int .i64 0, .int .i64 0, .int .i64 0, .slice none 0 0]) := by rw [hB]; exact heap_alloc_new wq1 _
      rw [← hB]
      clear hB
      replace BD := Lib.hid (chain_alloc BD.out (.cells #[.int .i64 0, .int .i64 0, .int .i64 0, .int .i64 0, .slice none 0 0] 24))
      refine hK.out _ _ ((BD.out.cell (p := ⟨bA, oA + 10, none⟩) l10).trans c10) (fun hHeld => ?_)
      clear hK K
      try simp only [Act.put, List.setIfInBounds_toArray, List.set_cons_zero, List.set_cons_succ]
      generalize wq1.alloc (.cells #[.int .i64 0, .int .i64 0, .int .i64 0, .int .i64 0, .slice none 0 0] 24) = wq95 at hHeld Rz BD ⊢
      refine wpAnyH_ready (rs := [2, 13]) (by kernel_rfl) (by simp) ?_
      refine AllReadyH.cons (by simp only [List.getElem?_toArray, List.getElem?_cons_zero, List.getElem?_cons_succ]; rfl) (fun K hK => ?_) ?_
      · skip
        go_simp
        go_at_call 20
        (with_reducible refine ((CR1.out _ (chain hd BD.out))).mono ?_)
        rintro e wq96 ⟨rfl, hb⟩
        clear hHeld
        replace BD := Lib.hid (chain BD.out hb)
        replace Rz := Lib.hid (Rz.out.below hb)
        clear hb
        go_wp2_with fail
        refine hK.out _ _ ((BD.out.cell (p := ⟨bA, oA + 10, none⟩) l10).trans c10) (fun hHeld => ?_)
        clear hK K
        try simp only [Act.put, List.setIfInBounds_toArray, List.set_cons_zero, List.set_cons_succ]
        refine wpAnyH_ready (rs := [5, 13]) (by kernel_rfl) (by simp) ?_
        refine AllReadyH.cons (by simp only [List.getElem?_toArray, List.getElem?_cons_zero, List.getElem?_cons_succ]; rfl) (fun K hK => ?_) ?_
        · skip
          go_simp
          go_at_call 20
          (with_reducible refine ((CR2.out _ (chain hd BD.out))).mono ?_)
          rintro e wq97 ⟨rfl, hb⟩
          clear hHeld
          replace BD := Lib.hid (chain BD.out hb)
          replace Rz := Lib.hid (Rz.out.below hb)
          clear hb
          go_wp2_with fail
          refine hK.out _ _ ((BD.out.cell (p := ⟨bA, oA + 10, none⟩) l10).trans c10) (fun hHeld => ?_)
          clear hK K
          try simp only [Act.put, List.setIfInBounds_toArray, List.set_cons_zero, List.set_cons_succ]
          refine wpAnyH_ready (rs := [12, 13]) (by kernel_rfl) (by simp) ?_
          refine AllReadyH.cons (by simp only [List.getElem?_toArray, List.getElem?_cons_zero, List.getElem?_cons_succ]; rfl) (fun K hK => ?_) ?_
          · skip
            go_simp
            go_at_call 20
            (with_reducible refine ((CR3.out _ (chain hd BD.out))).mono ?_)
            rintro e wq98 ⟨rfl, hb⟩
            clear hHeld
            replace BD := Lib.hid (chain BD.out hb)
            replace Rz := Lib.hid (Rz.out.below hb)
            clear hb
            go_wp2_with fail
            refine hK.out _ _ ((BD.out.cell (p := ⟨bA, oA + 10, none⟩) l10).trans c10) (fun hHeld => ?_)
            clear hK K
            try simp only [Act.put, List.setIfInBounds_toArray, List.set_cons_zero, List.set_cons_succ]
            refine wpAnyH_ready (rs := [13]) (by kernel_rfl) (by simp) ?_
            refine AllReadyH.cons (by simp only [List.getElem?_toArray, List.getElem?_cons_zero, List.getElem?_cons_succ]; rfl) (fun K hK => ?_) ?_
            · skip
              go_simp
              clear hHeld
              obtain ⟨vb, hvb⟩ : ∃ b, b = wq98.heap.size := ⟨_, rfl⟩
              have QN : Hid (OV16 (wq98.alloc (.cells #[] 5)) wq1.heap.size vb) := by rw [hvb]; exact ⟨heap_alloc_new wq98 _, BD.out.size⟩
              rw [← hvb]
              clear hvb
              replace Rz := Lib.hid (Rz.out.below (chain_alloc (Below.refl _ wq98) (.cells #[] 5)))
              replace BD := Lib.hid (chain_alloc BD.out (.cells #[] 5))
              refine hK.out _ _ ((BD.out.cell (p := ⟨bA, oA + 10, none⟩) l10).trans c10) (fun hHeld => ?_)
              clear hK K
              try simp only [Act.put, List.setIfInBounds_toArray, List.set_cons_zero, List.set_cons_succ]
              generalize wq98.alloc (.cells #[] 5) = wq99 at hHeld QN BD Rz ⊢
              refine wpAnyH_ready (rs := [18]) (by kernel_rfl) (by simp) ?_
              refine AllReadyH.cons (by simp only [List.getElem?_toArray, List.getElem?_cons_zero, List.getElem?_cons_succ]; rfl) (fun K hK => ?_) ?_
              · skip
                obtain ⟨A', c', wq100, run5, ob5, ba, qz⟩ := copy16 (c := cA - 14) QN.out.1 (R14.out _ (chain hd BD.out)) L14.out (by omega) QN.out.2 BD.out.size
                refine step_append_run (by kernel_rfl) (.tmp 37) (.tmp 41) 22 22 (by kernel_rfl) (.slice (some ⟨vb, 0, none⟩) 0 0) (.slice (some ⟨bA, oA + 14, none⟩) k (cA - 14)) (by kernel_rfl) (by kernel_rfl) (.slice A' k c') run5 ?_
                clear hHeld
                replace BD := Lib.hid (BD.out.trans ba)
                refine hK.out _ _ ((BD.out.cell (p := ⟨bA, oA + 10, none⟩) l10).trans c10) (fun hHeld => ?_)
                clear hK K
                try simp only [Act.put, List.setIfInBounds_toArray, List.set_cons_zero, List.set_cons_succ]
                have QY := Lib.hid ob5
                replace Rz := Lib.hid (qz _ _ Rz.out)
                clear ba ob5 run5 qz QN
                refine wpAnyH_take (i := 19) (v := ?vv1035) (by simp only [List.getElem?_toArray, List.getElem?_cons_zero, List.getElem?_cons_succ]; rfl) (by kernel_rfl) (by kernel_rfl) (by kernel_rfl) (fun _ _ _ h => h) (Or.inl ⟨by rfl, ?yy1035⟩) (by assumption) ?rr1035
                case yy1035 => (intro w hSw; (try dsimp only at hSw); go_simp; first | done | with_reducible rfl)
                simp only [Act.put, List.setIfInBounds_toArray, List.set_cons_zero, List.set_cons_succ]
                refine wpAnyH_ready (rs := [21]) (by kernel_rfl) (by simp) ?_
                refine AllReadyH.cons (by simp only [List.getElem?_toArray, List.getElem?_cons_zero, List.getElem?_cons_succ]; rfl) (fun K hK => ?_) ?_
                · skip
                  obtain ⟨z0, z1, z2, z3, z4, fz⟩ := Rz.out.cells
                  have f0 := fz 0
                  have f1 := fz 1
                  have f2 := fz 2
                  have f3 := fz 3
                  have f4 := fz 4
                  have rz' := Lib.hid Rz.out
                  go_simp
                  clear hHeld z0 z1 z2 z3 z4 fz f0 f1 f2 f3 f4
                  have hS := Lib.hid (sets16 (G : Int) (P : Int) (t : Int) (Kn : Int) (.slice A' k c') Rz.out QY.out BD.out zl)
                  refine hK.out _ _ ((hS.out.2.2.cell (p := ⟨bA, oA + 10, none⟩) l10).trans c10) (fun hHeld => ?_)
                  clear hK K
                  try simp only [Act.put, List.setIfInBounds_toArray, List.set_cons_zero, List.set_cons_succ]
                  generalize (((((wq100.setCell ⟨z, 0, none⟩ (.int .i64 (G : Int))).setCell ⟨z, 1, none⟩ (.int .i64 (P : Int))).setCell ⟨z, 2, none⟩ (.int .i64 (t : Int))).setCell ⟨z, 3, none⟩ (.int .i64 (Kn : Int))).setCell ⟨z, 4, none⟩ (.slice A' k c')) = wq101 at hHeld hS ⊢
                  clear rz'
                  refine wpAnyH_done (by kernel_rfl) ?_ _
                  refine NoPanic.normal ?_
                  clear hHeld
                  go_wp2_with fail
                  go_meet
                  exact ⟨z, A', c', rfl, hS.out.1, own_base hS.out.2.1 hd.size, chain hd hS.out.2.2, Nat.le_trans hd.size zl⟩
                exact AllReadyH.nil
              exact AllReadyH.nil
            exact AllReadyH.nil
          refine AllReadyH.cons (by simp only [List.getElem?_toArray, List.getElem?_cons_zero, List.getElem?_cons_succ]; rfl) (fun K hK => ?_) ?_
          · skip
            go_simp
            clear hHeld
            obtain ⟨vb, hvb⟩ : ∃ b, b = wq97.heap.size := ⟨_, rfl⟩
            have QN : Hid (OV16 (wq97.alloc (.cells #[] 5)) wq1.heap.size vb) := by rw [hvb]; exact ⟨heap_alloc_new wq97 _, BD.out.size⟩
            rw [← hvb]
            clear hvb
            replace Rz := Lib.hid (Rz.out.below (chain_alloc (Below.refl _ wq97) (.cells #[] 5)))
            replace BD := Lib.hid (chain_alloc BD.out (.cells #[] 5))
            refine hK.out _ _ ((BD.out.cell (p := ⟨bA, oA + 10, none⟩) l10).trans c10) (fun hHeld => ?_)
            clear hK K
            try simp only [Act.put, List.setIfInBounds_toArray, List.set_cons_zero, List.set_cons_succ]
            generalize wq97.alloc (.cells #[] 5) = wq102 at hHeld QN BD Rz ⊢
            refine wpAnyH_ready (rs := [12]) (by kernel_rfl) (by simp) ?_
            refine AllReadyH.cons (by simp only [List.getElem?_toArray, List.getElem?_cons_zero, List.getElem?_cons_succ]; rfl) (fun K hK => ?_) ?_
            · skip
              go_simp
              go_at_call 20
              (with_reducible refine ((CR3.out _ (chain hd BD.out))).mono ?_)
              rintro e wq103 ⟨rfl, hb⟩
              clear hHeld
              replace BD := Lib.hid (chain BD.out hb)
              replace QN := Lib.hid (QN.out.below hb)
              replace Rz := Lib.hid (Rz.out.below hb)
              clear hb
              go_wp2_with fail
              refine hK.out _ _ ((BD.out.cell (p := ⟨bA, oA + 10, none⟩) l10).trans c10) (fun hHeld => ?_)
              clear hK K
              try simp only [Act.put, List.setIfInBounds_toArray, List.set_cons_zero, List.set_cons_succ]
              refine wpAnyH_ready (rs := [18]) (by kernel_rfl) (by simp) ?_
              refine AllReadyH.cons (by simp only [List.getElem?_toArray, List.getElem?_cons_zero, List.getElem?_cons_succ]; rfl) (fun K hK => ?_) ?_
              · skip
                obtain ⟨A', c', wq104, run5, ob5, ba, qz⟩ := copy16 (c := cA - 14) QN.out.1 (R14.out _ (chain hd BD.out)) L14.out (by omega) QN.out.2 BD.out.size
                refine step_append_run (by kernel_rfl) (.tmp 37) (.tmp 41) 22 22 (by kernel_rfl) (.slice (some ⟨vb, 0, none⟩) 0 0) (.slice (some ⟨bA, oA + 14, none⟩) k (cA - 14)) (by kernel_rfl) (by kernel_rfl) (.slice A' k c') run5 ?_
                clear hHeld
                replace BD := Lib.hid (BD.out.trans ba)
                refine hK.out _ _ ((BD.out.cell (p := ⟨bA, oA + 10, none⟩) l10).trans c10) (fun hHeld => ?_)
                clear hK K
                try simp only [Act.put, List.setIfInBounds_toArray, List.set_cons_zero, List.set_cons_succ]
                have QY := Lib.hid ob5
                replace Rz := Lib.hid (qz _ _ Rz.out)
                clear ba ob5 run5 qz QN
                refine wpAnyH_take (i := 19) (v := ?vv1036) (by simp only [List.getElem?_toArray, List.getElem?_cons_zero, List.getElem?_cons_succ]; rfl) (by kernel_rfl) (by kernel_rfl) (by kernel_rfl) (fun _ _ _ h => h) (Or.inl ⟨by rfl, ?yy1036⟩) (by assumption) ?rr1036
                case yy1036 => (intro w hSw; (try dsimp only at hSw); go_simp; first | done | with_reducible rfl)
                simp only [Act.put, List.setIfInBounds_toArray, List.set_cons_zero, List.set_cons_succ]
                refine wpAnyH_ready (rs := [21]) (by kernel_rfl) (by simp) ?_
                refine AllReadyH.cons (by simp only [List.getElem?_toArray, List.getElem?_cons_zero, List.getElem?_cons_succ]; rfl) (fun K hK => ?_) ?_
                · skip
                  obtain ⟨z0, z1, z2, z3, z4, fz⟩ := Rz.out.cells
                  have f0 := fz 0
                  have f1 := fz 1
                  have f2 := fz 2
                  have f3 := fz 3
                  have f4 := fz 4
                  have rz' := Lib.hid Rz.out
                  go_simp
                  clear hHeld z0 z1 z2 z3 z4 fz f0 f1 f2 f3 f4
                  have hS := Lib.hid (sets16 (G : Int) (P : Int) (t : Int) (Kn : Int) (.slice A' k c') Rz.out QY.out BD.out zl)
                  refine hK.out _ _ ((hS.out.2.2.cell (p := ⟨bA, oA + 10, none⟩) l10).trans c10) (fun hHeld => ?_)
                  clear hK K
                  try simp only [Act.put, List.setIfInBounds_toArray, List.set_cons_zero, List.set_cons_succ]
                  generalize (((((wq104.setCell ⟨z, 0, none⟩ (.int .i64 (G : Int))).setCell ⟨z, 1, none⟩ (.int .i64 (P : Int))).setCell ⟨z, 2, none⟩ (.int .i64 (t : Int))).setCell ⟨z, 3, none⟩ (.int .i64 (Kn : Int))).setCell ⟨z, 4, none⟩ (.slice A' k c')) = wq105 at hHeld hS ⊢
                  clear rz'
                  refine wpAnyH_done (by kernel_rfl) ?_ _
                  refine NoPanic.normal ?_
                  clear hHeld
                  go_wp2_with fail
                  go_meet
                  exact ⟨z, A', c', rfl, hS.out.1, own_base hS.out.2.1 hd.size, chain hd hS.out.2.2, Nat.le_trans hd.size zl⟩
                exact AllReadyH.nil
              exact AllReadyH.nil
            exact AllReadyH.nil
          exact AllReadyH.nil
        refine AllReadyH.cons (by simp only [List.getElem?_toArray, List.getElem?_cons_zero, List.getElem?_cons_succ]; rfl) (fun K hK => ?_) ?_
        · skip
          go_simp
          clear hHeld
          obtain ⟨vb, hvb⟩ : ∃ b, b = wq96.heap.size := ⟨_, rfl⟩
          have QN : Hid (OV16 (wq96.alloc (.cells #[] 5)) wq1.heap.size vb) := by rw [hvb]; exact ⟨heap_alloc_new wq96 _, BD.out.size⟩
          rw [← hvb]
          clear hvb
          replace Rz := Lib.hid (Rz.out.below (chain_alloc (Below.refl _ wq96) (.cells #[] 5)))
          replace BD := Lib.hid (chain_alloc BD.out (.cells #[] 5))
          refine hK.out _ _ ((BD.out.cell (p := ⟨bA, oA + 10, none⟩) l10).trans c10) (fun hHeld => ?_)
          clear hK K
          try simp only [Act.put, List.setIfInBounds_toArray, List.set_cons_zero, List.set_cons_succ]
          generalize wq96.alloc (.cells #[] 5) = wq106 at hHeld QN BD Rz ⊢
          refine wpAnyH_ready (rs := [5]) (by kernel_rfl) (by simp) ?_
          refine AllReadyH.cons (by simp only [List.getElem?_toArray, List.getElem?_cons_zero, List.getElem?_cons_succ]; rfl) (fun K hK => ?_) ?_
          · skip
            go_simp
            go_at_call 20
            (with_reducible refine ((CR2.out _ (chain hd BD.out))).mono ?_)
            rintro e wq107 ⟨rfl, hb⟩
            clear hHeld
            replace BD := Lib.hid (chain BD.out hb)
            replace QN := Lib.hid (QN.out.below hb)
            replace Rz := Lib.hid (Rz.out.below hb)
            clear hb
            go_wp2_with fail
            refine hK.out _ _ ((BD.out.cell (p := ⟨bA, oA + 10, none⟩) l10).trans c10) (fun hHeld => ?_)
            clear hK K
            try simp only [Act.put, List.setIfInBounds_toArray, List.set_cons_zero, List.set_cons_succ]
            refine wpAnyH_ready (rs := [12]) (by kernel_rfl) (by simp) ?_
            refine AllReadyH.cons (by simp only [List.getElem?_toArray, List.getElem?_cons_zero, List.getElem?_cons_succ]; rfl) (fun K hK => ?_) ?_
            · skip
              go_simp
              go_at_call 20
              (with_reducible refine ((CR3.out _ (chain hd BD.out))).mono ?_)
              rintro e wq108 ⟨rfl, hb⟩
              clear hHeld
              replace BD := Lib.hid (chain BD.out hb)
              replace QN := Lib.hid (QN.out.below hb)
              replace Rz := Lib.hid (Rz.out.below hb)
              clear hb
              go_wp2_with fail
              refine hK.out _ _ ((BD.out.cell (p := ⟨bA, oA + 10, none⟩) l10).trans c10) (fun hHeld => ?_)
              clear hK K
              try simp only [Act.put, List.setIfInBounds_toArray, List.set_cons_zero, List.set_cons_succ]
              refine wpAnyH_ready (rs := [18]) (by kernel_rfl) (by simp) ?_
              refine AllReadyH.cons (by simp only [List.getElem?_toArray, List.getElem?_cons_zero, List.getElem?_cons_succ]; rfl) (fun K hK => ?_) ?_
              · skip
                obtain ⟨A', c', wq109, run5, ob5, ba, qz⟩ := copy16 (c := cA - 14) QN.out.1 (R14.out _ (chain hd BD.out)) L14.out (by omega) QN.out.2 BD.out.size
                refine step_append_run (by kernel_rfl) (.tmp 37) (.tmp 41) 22 22 (by kernel_rfl) (.slice (some ⟨vb, 0, none⟩) 0 0) (.slice (some ⟨bA, oA + 14, none⟩) k (cA - 14)) (by kernel_rfl) (by kernel_rfl) (.slice A' k c') run5 ?_
                clear hHeld
                replace BD := Lib.hid (BD.out.trans ba)
                refine hK.out _ _ ((BD.out.cell (p := ⟨bA, oA + 10, none⟩) l10).trans c10) (fun hHeld => ?_)
                clear hK K
                try simp only [Act.put, List.setIfInBounds_toArray, List.set_cons_zero, List.set_cons_succ]
                have QY := Lib.hid ob5
                replace Rz := Lib.hid (qz _ _ Rz.out)
                clear ba ob5 run5 qz QN
                refine wpAnyH_take (i := 19) (v := ?vv1037) (by simp only [List.getElem?_toArray, List.getElem?_cons_zero, List.getElem?_cons_succ]; rfl) (by kernel_rfl) (by kernel_rfl) (by kernel_rfl) (fun _ _ _ h => h) (Or.inl ⟨by rfl, ?yy1037⟩) (by assumption) ?rr1037
                case yy1037 => (intro w hSw; (try dsimp only at hSw); go_simp; first | done | with_reducible rfl)
                simp only [Act.put, List.setIfInBounds_toArray, List.set_cons_zero, List.set_cons_succ]
                refine wpAnyH_ready (rs := [21]) (by kernel_rfl) (by simp) ?_
                refine AllReadyH.cons (by simp only [List.getElem?_toArray, List.getElem?_cons_zero, List.getElem?_cons_succ]; rfl) (fun K hK => ?_) ?_
                · skip
                  obtain ⟨z0, z1, z2, z3, z4, fz⟩ := Rz.out.cells
                  have f0 := fz 0
                  have f1 := fz 1
                  have f2 := fz 2
                  have f3 := fz 3
                  have f4 := fz 4
                  have rz' := Lib.hid Rz.out
                  go_simp
                  clear hHeld z0 z1 z2 z3 z4 fz f0 f1 f2 f3 f4
                  have hS := Lib.hid (sets16 (G : Int) (P : Int) (t : Int) (Kn : Int) (.slice A' k c') Rz.out QY.out BD.out zl)
                  refine hK.out _ _ ((hS.out.2.2.cell (p := ⟨bA, oA + 10, none⟩) l10).trans c10) (fun hHeld => ?_)
                  clear hK K
                  try simp only [Act.put, List.setIfInBounds_toArray, List.set_cons_zero, List.set_cons_succ]
                  generalize (((((wq109.setCell ⟨z, 0, none⟩ (.int .i64 (G : Int))).setCell ⟨z, 1, none⟩ (.int .i64 (P : Int))).setCell ⟨z, 2, none⟩ (.int .i64 (t : Int))).setCell ⟨z, 3, none⟩ (.int .i64 (Kn : Int))).setCell ⟨z, 4, none⟩ (.slice A' k c')) = wq110 at hHeld hS ⊢
                  clear rz'
                  refine wpAnyH_done (by kernel_rfl) ?_ _
                  refine NoPanic.normal ?_
                  clear hHeld
                  go_wp2_with fail
                  go_meet
                  exact ⟨z, A', c', rfl, hS.out.1, own_base hS.out.2.1 hd.size, chain hd hS.out.2.2, Nat.le_trans hd.size zl⟩
                exact AllReadyH.nil
              exact AllReadyH.nil
            exact AllReadyH.nil
          exact AllReadyH.nil
        exact AllReadyH.nil
      refine AllReadyH.cons (by simp only [List.getElem?_toArray, List.getElem?_cons_zero, List.getElem?_cons_succ]; rfl) (fun K hK => ?_) ?_
      · skip
        go_simp
        clear hHeld
        obtain ⟨vb, hvb⟩ : ∃ b, b = wq95.heap.size := ⟨_, rfl⟩
        have QN : Hid (OV16 (wq95.alloc (.cells #[] 5)) wq1.heap.size vb) := by rw [hvb]; exact ⟨heap_alloc_new wq95 _, BD.out.size⟩
        rw [← hvb]
        clear hvb
        replace Rz := Lib.hid (Rz.out.below (chain_alloc (Below.refl _ wq95) (.cells #[] 5)))
        replace BD := Lib.hid (chain_alloc BD.out (.cells #[] 5))
        refine hK.out _ _ ((BD.out.cell (p := ⟨bA, oA + 10, none⟩) l10).trans c10) (fun hHeld => ?_)
        clear hK K
        try simp only [Act.put, List.setIfInBounds_toArray, List.set_cons_zero, List.set_cons_succ]
        generalize wq95.alloc (.cells #[] 5) = wq111 at hHeld QN BD Rz ⊢
        refine wpAnyH_ready (rs := [2]) (by kernel_rfl) (by simp) ?_
        refine AllReadyH.cons (by simp only [List.getElem?_toArray, List.getElem?_cons_zero, List.getElem?_cons_succ]; rfl) (fun K hK => ?_) ?_
        · skip
          go_simp
          go_at_call 20
          (with_reducible refine ((CR1.out _ (chain hd BD.out))).mono ?_)
          rintro e wq112 ⟨rfl, hb⟩
          clear hHeld
          replace BD := Lib.hid (chain BD.out hb)
          replace QN := Lib.hid (QN.out.below hb)
          replace Rz := Lib.hid (Rz.out.below hb)
          clear hb
          go_wp2_with fail
          refine hK.out _ _ ((BD.out.cell (p := ⟨bA, oA + 10, none⟩) l10).trans c10) (fun hHeld => ?_)
          clear hK K
          try simp only [Act.put, List.setIfInBounds_toArray, List.set_cons_zero, List.set_cons_succ]
          refine wpAnyH_ready (rs := [5]) (by kernel_rfl) (by simp) ?_
          refine AllReadyH.cons (by simp only [List.getElem?_toArray, List.getElem?_cons_zero, List.getElem?_cons_succ]; rfl) (fun K hK => ?_) ?_
          · skip
            go_simp
            go_at_call 20
            (with_reducible refine ((CR2.out _ (chain hd BD.out))).mono ?_)
            rintro e wq113 ⟨rfl, hb⟩
            clear hHeld
            replace BD := Lib.hid (chain BD.out hb)
            replace QN := Lib.hid (QN.out.below hb)
            replace Rz := Lib.hid (Rz.out.below hb)
            clear hb
            go_wp2_with fail
            refine hK.out _ _ ((BD.out.cell (p := ⟨bA, oA + 10, none⟩) l10).trans c10) (fun hHeld => ?_)
            clear hK K
            try simp only [Act.put, List.setIfInBounds_toArray, List.set_cons_zero, List.set_cons_succ]
            refine wpAnyH_ready (rs := [12]) (by kernel_rfl) (by simp) ?_
            refine AllReadyH.cons (by simp only [List.getElem?_toArray, List.getElem?_cons_zero, List.getElem?_cons_succ]; rfl) (fun K hK => ?_) ?_
            · skip
              go_simp
              go_at_call 20
              (with_reducible refine ((CR3.out _ (chain hd BD.out))).mono ?_)
              rintro e wq114 ⟨rfl, hb⟩
              clear hHeld
              replace BD := Lib.hid (chain BD.out hb)
              replace QN := Lib.hid (QN.out.below hb)
              replace Rz := Lib.hid (Rz.out.below hb)
              clear hb
              go_wp2_with fail
              refine hK.out _ _ ((BD.out.cell (p := ⟨bA, oA + 10, none⟩) l10).trans c10) (fun hHeld => ?_)
              clear hK K
              try simp only [Act.put, List.setIfInBounds_toArray, List.set_cons_zero, List.set_cons_succ]
              refine wpAnyH_ready (rs := [18]) (by kernel_rfl) (by simp) ?_
              refine AllReadyH.cons (by simp only [List.getElem?_toArray, List.getElem?_cons_zero, List.getElem?_cons_succ]; rfl) (fun K hK => ?_) ?_
              · skip
                obtain ⟨A', c', wq115, run5, ob5, ba, qz⟩ := copy16 (c := cA - 14) QN.out.1 (R14.out _ (chain hd BD.out)) L14.out (by omega) QN.out.2 BD.out.size
                refine step_append_run (by kernel_rfl) (.tmp 37) (.tmp 41) 22 22 (by kernel_rfl) (.slice (some ⟨vb, 0, none⟩) 0 0) (.slice (some ⟨bA, oA + 14, none⟩) k (cA - 14)) (by kernel_rfl) (by kernel_rfl) (.slice A' k c') run5 ?_
                clear hHeld
                replace BD := Lib.hid (BD.out.trans ba)
                refine hK.out _ _ ((BD.out.cell (p := ⟨bA, oA + 10, none⟩) l10).trans c10) (fun hHeld => ?_)
                clear hK K
                try simp only [Act.put, List.setIfInBounds_toArray, List.set_cons_zero, List.set_cons_succ]
                have QY := Lib.hid ob5
                replace Rz := Lib.hid (qz _ _ Rz.out)
                clear ba ob5 run5 qz QN
                refine wpAnyH_take (i := 19) (v := ?vv1038) (by simp only [List.getElem?_toArray, List.getElem?_cons_zero, List.getElem?_cons_succ]; rfl) (by kernel_rfl) (by kernel_rfl) (by kernel_rfl) (fun _ _ _ h => h) (Or.inl ⟨by rfl, ?yy1038⟩) (by assumption) ?rr1038
                case yy1038 => (intro w hSw; (try dsimp only at hSw); go_simp; first | done | with_reducible rfl)
                simp only [Act.put, List.setIfInBounds_toArray, List.set_cons_zero, List.set_cons_succ]
                refine wpAnyH_ready (rs := [21]) (by kernel_rfl) (by simp) ?_
                refine AllReadyH.cons (by simp only [List.getElem?_toArray, List.getElem?_cons_zero, List.getElem?_cons_succ]; rfl) (fun K hK => ?_) ?_
                · skip
                  obtain ⟨z0, z1, z2, z3, z4, fz⟩ := Rz.out.cells
                  have f0 := fz 0
                  have f1 := fz 1
                  have f2 := fz 2
                  have f3 := fz 3
                  have f4 := fz 4
                  have rz' := Lib.hid Rz.out
                  go_simp
                  clear hHeld z0 z1 z2 z3 z4 fz f0 f1 f2 f3 f4
                  have hS := Lib.hid (sets16 (G : Int) (P : Int) (t : Int) (Kn : Int) (.slice A' k c') Rz.out QY.out BD.out zl)
                  refine hK.out _ _ ((hS.out.2.2.cell (p := ⟨bA, oA + 10, none⟩) l10).trans c10) (fun hHeld => ?_)
                  clear hK K
                  try simp only [Act.put, List.setIfInBounds_toArray, List.set_cons_zero, List.set_cons_succ]
                  generalize (((((wq115.setCell ⟨z, 0, none⟩ (.int .i64 (G : Int))).setCell ⟨z, 1, none⟩ (.int .i64 (P : Int))).setCell ⟨z, 2, none⟩ (.int .i64 (t : Int))).setCell ⟨z, 3, none⟩ (.int .i64 (Kn : Int))).setCell ⟨z, 4, none⟩ (.slice A' k c')) = wq116 at hHeld hS ⊢
                  clear rz'
                  refine wpAnyH_done (by kernel_rfl) ?_ _
                  refine NoPanic.normal ?_
                  clear hHeld
                  go_wp2_with fail
                  go_meet
                  exact ⟨z, A', c', rfl, hS.out.1, own_base hS.out.2.1 hd.size, chain hd hS.out.2.2, Nat.le_trans hd.size zl⟩
                exact AllReadyH.nil
              exact AllReadyH.nil
            exact AllReadyH.nil
          exact AllReadyH.nil
        exact AllReadyH.nil
      exact AllReadyH.nil
    exact AllReadyH.nil
  case rest =>
    obtain ⟨z, A', c', rfl, QZ, OY, BX, ZL⟩ := hcut
    have HR := Lib.hid (HX.out.below (chain BB.out BX.out))
    have Q2 := Lib.hid (HQ.out.below BX.out)
    have B2 := Lib.hid (chain BB.out BX.out)
    have SZ9 := Lib.hid BB.out.size
    have BN : Hid ((secQ b).b.length = k) := by show ((b.drop 14).take (rdN ((b.drop 13).take 1))).length = k; rw [RK.out]; exact L14.out.symm
    have CRR : Hid (∀ v, Calls Tryd.prog 13 #[.agg #[.int .i64 (G : Int), .int .i64 (P : Int), .int .i64 (t : Int), .int .i64 (Kn : Int), .slice A' k c']] v fun e w' => e = .returned (.bool (rightQ (secQ b))) ∧ Below v.heap.size v w') := fun v => by
      have e : secQ b = ⟨(G : Int), (P : Int), (t : Int), (Kn : Int), (b.drop 14).take k⟩ := by unfold secQ; rw [← HG.out, ← HP.out, ← HKK.out, RT.out, RK.out]
      rw [e]
      exact rright16 ⟨(G : Int), (P : Int), (t : Int), (Kn : Int), (b.drop 14).take k⟩ A' k c' v L14.out
    have NZR : Hid (z ≠ zr) := by have := HQ.out.lt; have := ZL.out; show z ≠ zr; omega
    clear HQ BB CR1 CR2 CR3 R14 c10 l10 sl1 sl2 sl3 sl4 d1 d2 d3 c0 c13 y1 b0
    go_wp2_with fail
    go_loopg [6] (64 - q) (fun gh s6 wr => ∃ j : Nat, j ≤ 64 ∧ Hid (gh = 64 - j) ∧ Hid (q ≤ j) ∧ s6 = .int .i64 (j : Int) ∧ Hid (∀ i x, q ≤ i → i < j → b[i]? = some x → x = 0) ∧ Hid (QV wr z #[.int .i64 (G : Int), .int .i64 (P : Int), .int .i64 (t : Int), .int .i64 (Kn : Int), .slice A' k c']) ∧ Hid (QV wr zr #[.int .i64 0, .int .i64 0, .int .i64 0, .int .i64 0, .slice none 0 0]) ∧ Hid (Below w.heap.size w wr) ∧ Hid (Rg bcells wr (some ⟨bA, oA, none⟩) b) ∧ Hid (OB16 wr w1.heap.size A' k c' ((b.drop 14).take k)))
    case atStart => exact ⟨q, q64, by show _ = _; omega, Nat.le_refl _, rfl, fun i x h1 h2 => by omega, QZ, Q2, B2, HR, OY⟩
    case round =>
      clear QZ Q2 B2 HR OY BX
      obtain ⟨j, hj, HG2, QJ, rfl, NJ, QZ, Q2, B2, HR, OY⟩ := hrel
      by_cases jn : j < 64
      · obtain ⟨y, gy⟩ : ∃ y, b[j]? = some y := ⟨_, List.getElem?_eq_getElem (by rw [← LX.out]; exact jn)⟩
        obtain ⟨_, _, e, _, hcell⟩ := HR.out (by rw [← LX.out]; decide)
        have e := Option.some.inj e
        simp only [Addr.mk.injEq] at e
        obtain ⟨rfl, rfl, _⟩ := e
        have cy := b_cell hcell gy
        have ji : (j : Int) < ((64 : Nat) : Int) := by omega
        have ji2 : (j : Int) < 64 := by omega
        have ja : (0 : Int) ≤ (j : Int) := by omega
        have GY := Lib.hid gy; have JN := Lib.hid jn
        clear hcell gy jn
        by_cases zy : bz y = 0
        · have b1 : (bz y != 0) = false := by simp [zy]
          have YZ : Hid (y = 0) := UInt8.toNat_inj.1 (by unfold bz at zy; rw [Int.natCast_eq_zero.1 zy]; rfl)
          rw [zy] at cy
          clear zy b1
          go_wp2_with fail
          go_roundg (64 - (j + 1))
          case measure => have := HG2.out; have := JN.out; omega
          case rel => exact ⟨j + 1, by have := JN.out; omega, rfl, Nat.le_succ_of_le QJ.out, by go_num, fun i x h1 h2 h3 => by
            rcases Nat.lt_succ_iff_lt_or_eq.1 h2 with h | h
            · exact NJ.out i x h1 h h3
            · subst h
              rw [GY.out] at h3
              exact (Option.some.inj h3).symm.trans YZ.out, QZ, Q2, B2, HR, OY⟩
        · have b1 : (bz y != 0) = true := by simpa using zy
          have E := Lib.hid (okq_behind GY.out (by rw [RK.out, ← QK.out]; exact QJ.out) (fun e => zy (by rw [e]; rfl)))
          obtain ⟨r0, r1, r2, r3, r4, fr⟩ := Q2.out.cells
          have f0 := fr 0; have f1 := fr 1; have f2 := fr 2; have f3 := fr 3; have f4 := fr 4
          clear zy fr
          go_wp2_with fail
          exact get_end E.out Q2.out.sets (below_sets5 B2.out (Nat.le_of_eq HZR.out.symm) _ _ _ _ _)
      · obtain rfl : j = 64 := by omega
        have NZ : Hid (∀ x ∈ b.drop q, x = 0) := fun x hx => by
          obtain ⟨i, hi, e⟩ := List.mem_iff_getElem.1 hx
          rw [List.length_drop] at hi
          have g : b[q + i]? = some x := by
            rw [← e, List.getElem_drop]
            exact List.getElem?_eq_getElem (by omega)
          exact NJ.out (q + i) x (Nat.le_add_right _ _) (by have := LX.out; omega) g
        have ji : decide ((((64 : Nat) : Int)) < (((64 : Nat) : Int))) = false := by decide
        obtain ⟨z0, z1, z2, z3, z4, _⟩ := QZ.out.cells
        clear jn NJ
        go_wp2_with fail
        refine (CRR.out _).mono ?_
        rintro e w5 ⟨rfl, hb⟩
        have Q5 := Lib.hid (Q2.out.below hb)
        have QZ5 := Lib.hid (QZ.out.below hb)
        have B5 := Lib.hid (chain B2.out hb)
        have OY5 := Lib.hid (OY.out.below hb)
        obtain ⟨r0, r1, r2, r3, r4, fr⟩ := Q5.out.cells
        have f0 := fr 0; have f1 := fr 1; have f2 := fr 2; have f3 := fr 3; have f4 := fr 4
        clear hb fr z0 z1 z2 z3 z4
        cases hr : rightQ (secQ b) with
        | false =>
          have E : Hid (okQ b = false) := okq_no (fun ⟨_, _, _, h⟩ => by rw [hr] at h; cases h)
          clear hr
          go_wp2_with fail
          exact get_end E.out Q5.out.sets (below_sets5 B5.out (Nat.le_of_eq HZR.out.symm) _ _ _ _ _)
        | true =>
          have E : Hid (okQ b = true) := ok_q.2 ⟨LX.out.symm, by rw [RK.out]; exact K50.out, by rw [RK.out, ← QK.out]; exact NZ.out, hr⟩
          obtain ⟨z0, z1, z2, z3, z4, _⟩ := QZ5.out.cells
          clear hr
          go_wp2_with fail
          have hS := sets16 (G : Int) (P : Int) (t : Int) (Kn : Int) (.slice A' k c') Q5.out OY5.out B5.out (Nat.le_of_eq HZR.out.symm)
          generalize (((((w5.setCell ⟨zr, 0, none⟩ (.int .i64 (G : Int))).setCell ⟨zr, 1, none⟩ (.int .i64 (P : Int))).setCell ⟨zr, 2, none⟩ (.int .i64 (t : Int))).setCell ⟨zr, 3, none⟩ (.int .i64 (Kn : Int))).setCell ⟨zr, 4, none⟩ (.slice A' k c')) = V at hS ⊢
          obtain ⟨s0, s1, s2, s3, s4, _⟩ := hS.1.cells
          have e : secQ b = ⟨(G : Int), (P : Int), (t : Int), (Kn : Int), (b.drop 14).take k⟩ := by unfold secQ; rw [← HG.out, ← HP.out, ← HKK.out, RT.out, RK.out]
          have hnew := own_new hS.2.1
          obtain ⟨A2, c2, e2, _, hR, hc2, _⟩ := own_cap bcells_len (by decide) hS.2.1
          injection e2 with e2 _ e3
          subst e2 e3
          refine bodyPost_ret (v := .tuple #[secv (secQ b) A' k c', .bool true]) (by rw [e]; simp [results, Tryd.results11, go_sem, secv, s0, s1, s2, s3, s4]) rfl ?_
          exact ⟨A', c', k, by rw [getq_yes E.out, E.out], by rw [getq_yes E.out, e]; exact L14.out, by rw [getq_yes E.out, e]; exact hR, hS.2.2, hc2, fun a q => Nat.le_trans SZ9.out (hnew a q)⟩

end Go.Proofs.YtjokaaekliapmaaDoor
