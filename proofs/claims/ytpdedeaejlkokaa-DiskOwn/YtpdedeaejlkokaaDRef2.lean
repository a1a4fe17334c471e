/-
  What the document's own functions of layer 15 answer: laid, Write.
-/
import Derived.Test.YtpdedeaejlkokaaDRef
import Derived.Deep.RegionHeld3
namespace Go.Proofs.Ytpdedeaejlkokaa
open Go.RowKit

theorem own_void8 {w : World} {B g : Nat} (h : w.heap[g]? = some (.cells #[] 5 (0, 0))) (hB : B ≤ g) : w.ownsRow B 5 1 (.slice (some ⟨g, 0, none⟩) 0 0) 0 (([] : List UInt8).flatMap bcells) :=
  ⟨by simp, .inr ⟨g, 0, #[], rfl, hB, h, Nat.le_refl _, Nat.zero_le _, by simp, by simp⟩⟩
/-- A copy of bytes in a block of its own. -/
theorem copy_run {w : World} {g n c : Nat} {A : Option Addr} {l : List UInt8} (hg : w.heap[g]? = some (.cells #[] 5 (0, 0))) (hr : Rg bcells w A l) (hn : n = l.length) (h1 : n ≤ 100000) :
    ∃ (h : Hd) (w' : World), (Builtin.append_ #[31, 31] 31 #[.slice (some ⟨g, 0, none⟩) 0 0, .slice A n c]).run Try.prog w = .ok (.slice h.a h.n h.c) w' ∧ Byt w' g h l ∧ Below g w w' := by
  obtain ⟨v, w', h1, h2, h3⟩ := b_append_run (m := n) (own_void8 (B := g) hg (Nat.le_refl _)) A c hr hn (by omega) (Nat.le_of_lt (Array.getElem?_eq_some_iff.1 hg).1)
  rw [List.nil_append, Nat.zero_add] at h2
  obtain ⟨A', c', rfl, _⟩ := own_rg bcells_len (by decide) h2
  exact ⟨⟨A', n, c'⟩, w', h1, by rw [hn] at h2 ⊢; exact h2, h3⟩
theorem Byt.base {w : World} {B B' : Nat} {h : Hd} {l : List UInt8} (H : Byt w B' h l) (hb : B ≤ B') : Byt w B h l := own_base H hb
theorem RDI.L {B : Nat} {O : Nat → Prop} {d : Dk} {g : Nat} {w : World} (H : RDI B O d g w) (h0 : 0 < d.l.length) : ∃ b c, w.cell? ⟨g, 0, none⟩ = some (.slice (some ⟨b, 0, none⟩) d.l.length c) ∧ O b ∧ b ≠ g ∧ ∀ i, i < d.l.length → (∃ v, w.cell? ⟨b, i, none⟩ = some v) ∧ w.frozen? ⟨b, i, none⟩ = false := by
  obtain ⟨lt, hg, vL, vT, vP, hl, hp, q1, q2, q3, q4, q5, q6, q7, q8, q9, q10, q11⟩ := H
  obtain ⟨b, c, rfl, _, _⟩ := World.ownsRow.form q2 h0
  refine ⟨b, c, dcell0 q1, q7 b rfl, fun e => own_ne_type q2 q1 (by decide) (by rw [← e]; rfl), fun i hi => ⟨?_, World.ownsRow.frozenAt q2 i⟩⟩
  obtain ⟨h, e1, _⟩ := q3.get hi
  rw [World.ownsRow.cellAt q2 i (by omega)]
  have := flat_get hcells_len hl i 0 h e1 (by decide)
  rw [Nat.mul_one, Nat.add_zero] at this
  exact ⟨_, this⟩
theorem RDI.T {B : Nat} {O : Nat → Prop} {d : Dk} {g : Nat} {w : World} (H : RDI B O d g w) (h0 : 0 < d.t.length) : ∃ b c, w.cell? ⟨g, 1, none⟩ = some (.slice (some ⟨b, 0, none⟩) d.t.length c) ∧ O b ∧ b ≠ g ∧ (∃ cs, w.heap[b]? = some (.cells cs 4 (0, 0))) ∧ ∀ i, i < d.t.length → (w.cell? ⟨b, i, none⟩ = some (.bool (d.t.getD i false))) ∧ w.frozen? ⟨b, i, none⟩ = false := by
  obtain ⟨lt, hg, vL, vT, vP, hl, hp, q1, q2, q3, q4, q5, q6, q7, q8, q9, q10, q11⟩ := H
  obtain ⟨b, c, rfl, _, _⟩ := World.ownsRow.form q4 h0
  refine ⟨b, c, dcell1 q1, q8 b rfl, fun e => own_ne_type q4 q1 (by decide) (by rw [← e]; rfl), own_type q4 rfl, fun i hi => ⟨?_, World.ownsRow.frozenAt q4 i⟩⟩
  rw [World.ownsRow.cellAt q4 i (by omega)]
  have := flat_get qcells_len d.t i 0 _ (List.getElem?_eq_getElem hi) (by decide)
  rw [Nat.mul_one, Nat.add_zero] at this
  rw [this]
  simp [qcells, List.getD_eq_getElem?_getD, hi]

set_option maxHeartbeats 4000000 in
set_option maxRecDepth 100000 in
theorem rlaid15 (B : Nat) (O : Nat → Prop) (g : Nat) (d : Dk) (i : Nat) (A : Option Addr) (n c : Nat) (l : List UInt8) (w : World) (H : RDI B O d g w) (hB : B ≤ w.heap.size) (h1 : i < d.l.length) (h2 : i < d.t.length) (hr : Rg bcells w A l) (hn : n = l.length) (hl : n ≤ 1000) (hm : d.l.length ≤ 5000 ∧ d.t.length ≤ 5000) :
    Calls Try.prog 41 #[.pointer (some ⟨g, 0, none⟩), .agg #[.int .i64 (i : Int), .slice A n c]] w (RTo B O g (dkLay d (i, l)) (.tuple #[]) w) := by
  obtain ⟨bL, cL, g0, oL, neL, fL⟩ := H.L (by omega)
  obtain ⟨nL, hnL⟩ : ∃ nL, nL = d.l.length := ⟨_, rfl⟩
  rw [← hnL] at g0
  have HH := Lib.hid H; have RR := Lib.hid hr; have LN := Lib.hid hn; have HNL := Lib.hid hnL; have HLT := Lib.hid H.lt; have H2 := Lib.hid h2; have HBB := Lib.hid hB
  have i0 : (0 : Int) ≤ (i : Int) := Int.natCast_nonneg _
  have i1 : (i : Int) < (nL : Int) := by omega
  have i2 : i < nL := by omega
  have OL := Lib.hid oL; have GNE := Lib.hid neL
  have lg := (H.lt g H.own).2
  have lbL := (H.lt bL oL).2
  have FL : Hid ((∃ v, w.cell? ⟨bL, i, none⟩ = some v) ∧ w.frozen? ⟨bL, i, none⟩ = false) := fL i h1
  have BA := chain_alloc (Below.refl _ w) (.cells #[.int .i64 (i : Int), .slice A n c] 72)
  have tb := heap_alloc_new w (.cells #[.int .i64 (i : Int), .slice A n c] 72)
  clear H hr hn h1 h2 oL fL hB hm hnL neL
  go_enter Try.func41, Try.ntmps41
  go_wp2_with fail
  obtain ⟨bt, hbt⟩ : ∃ bt, bt = w.heap.size := ⟨_, rfl⟩
  rw [← hbt] at tb ⊢
  have HBT := Lib.hid hbt
  generalize w.alloc (.cells #[.int .i64 (i : Int), .slice A n c] 72) = w1 at BA tb ⊢
  have B1 := Lib.hid BA
  have TBH := Lib.hid tb
  have t0 : w1.cell? ⟨bt, 0, none⟩ = some (.int .i64 (i : Int)) := by rw [Lib.cell_of_heap tb]; rfl
  have t1 : w1.cell? ⟨bt, 1, none⟩ = some (.slice A n c) := by rw [Lib.cell_of_heap tb]; rfl
  have lt0 := (Array.getElem?_eq_some_iff.1 tb).1
  have lt1 := lt0
  replace g0 := (BA.cell (p := ⟨g, 0, none⟩) lg).trans g0
  replace lg := Nat.lt_of_lt_of_le lg BA.size
  have HLB := Lib.hid (Nat.lt_of_lt_of_le lbL BA.size)
  clear BA tb hbt lbL
  refine wp_region_noPanic ?_
  refine wp_region_held_drew (S := fun w' => w'.cell? ⟨g, 0, none⟩ = some (.slice (some ⟨bL, 0, none⟩) nL cL) ∧ w'.cell? ⟨bt, 0, none⟩ = some (.int .i64 (i : Int)) ∧ w'.cell? ⟨bt, 1, none⟩ = some (.slice A n c)) (by kernel_rfl) ⟨g0, t0, t1⟩ (fun hHeld => ?_)
  have hd := below_drew w1
  replace g0 := (hd.cell (p := ⟨g, 0, none⟩) lg).trans g0
  replace lg := Nat.lt_of_lt_of_le lg hd.size
  replace t0 := (hd.cell (p := ⟨bt, 0, none⟩) lt0).trans t0
  replace lt0 := Nat.lt_of_lt_of_le lt0 hd.size
  replace t1 := (hd.cell (p := ⟨bt, 1, none⟩) lt1).trans t1
  replace lt1 := Nat.lt_of_lt_of_le lt1 hd.size
  generalize w1.drew = wq1 at hHeld hd g0 lg t0 lt0 t1 lt1 ⊢
  have BD : Hid (Below wq1.heap.size wq1 wq1) := Below.refl _ _
  have BQ0 := Lib.hid (Nat.le_trans B1.out.size hd.size)
  refine wpAnyH_take (i := 0) (v := ?vv3001) (by simp only [List.getElem?_toArray, List.getElem?_cons_zero]; rfl) (by kernel_rfl) (by kernel_rfl) (by kernel_rfl) (fun _ _ _ h => h) (Or.inl ⟨by rfl, ?yy3001⟩) (by assumption) ?rr3001
  case yy3001 => (intro w hSw; (try dsimp only at hSw); go_simp; first | done | with_reducible rfl)
  simp only [Act.put, List.setIfInBounds_toArray, List.set_cons_zero, List.set_cons_succ]
  refine wpAnyH_take (i := 1) (v := ?vv3002) (by simp only [List.getElem?_toArray, List.getElem?_cons_zero, List.getElem?_cons_succ]; rfl) (by kernel_rfl) (by kernel_rfl) (by kernel_rfl) (fun _ _ _ h => h) (Or.inl ⟨by rfl, ?yy3002⟩) (by assumption) ?rr3002
  case yy3002 => (intro w hSw; (try dsimp only at hSw); go_simp; first | done | with_reducible rfl)
  simp only [Act.put, List.setIfInBounds_toArray, List.set_cons_zero, List.set_cons_succ]
  refine wpAnyH_take (i := 2) (v := ?vv3003) (by simp only [List.getElem?_toArray, List.getElem?_cons_zero, List.getElem?_cons_succ]; rfl) (by kernel_rfl) (by kernel_rfl) (by kernel_rfl) (fun _ _ _ h => h) (Or.inl ⟨by rfl, ?yy3003⟩) (by assumption) ?rr3003
  case yy3003 => (intro w hSw; (try dsimp only at hSw); go_simp; first | done | with_reducible rfl)
  simp only [Act.put, List.setIfInBounds_toArray, List.set_cons_zero, List.set_cons_succ]
  refine wpAnyH_take (i := 3) (v := ?vv3004) (by simp only [List.getElem?_toArray, List.getElem?_cons_zero, List.getElem?_cons_succ]; rfl) (by kernel_rfl) (by kernel_rfl) (by kernel_rfl) (fun _ _ _ h => h) (Or.inl ⟨by rfl, ?yy3004⟩) (by assumption) ?rr3004
  case yy3004 => (intro w hSw; (try dsimp only at hSw); go_simp; first | done | with_reducible rfl)
  simp only [Act.put, List.setIfInBounds_toArray, List.set_cons_zero, List.set_cons_succ]
  refine wpAnyH_take (i := 4) (v := ?vv3005) (by simp only [List.getElem?_toArray, List.getElem?_cons_zero, List.getElem?_cons_succ]; rfl) (by kernel_rfl) (by kernel_rfl) (by kernel_rfl) (fun _ _ _ h => h) (Or.inl ⟨by rfl, ?yy3005⟩) (by assumption) ?rr3005
  case yy3005 => (intro w hSw; (try dsimp only at hSw); go_simp; first | done | with_reducible rfl)
  simp only [Act.put, List.setIfInBounds_toArray, List.set_cons_zero, List.set_cons_succ]
  refine wpAnyH_take (i := 5) (v := ?vv3006) (by simp only [List.getElem?_toArray, List.getElem?_cons_zero, List.getElem?_cons_succ]; rfl) (by kernel_rfl) (by kernel_rfl) (by kernel_rfl) (fun _ _ _ h => h) (Or.inl ⟨by rfl, ?yy3006⟩) (by assumption) ?rr3006
  case yy3006 => (intro w hSw; (try dsimp only at hSw); go_simp; first | done | with_reducible rfl)
  simp only [Act.put, List.setIfInBounds_toArray, List.set_cons_zero, List.set_cons_succ]
  refine wpAnyH_take (i := 7) (v := ?vv3007) (by simp only [List.getElem?_toArray, List.getElem?_cons_zero, List.getElem?_cons_succ]; rfl) (by kernel_rfl) (by kernel_rfl) (by kernel_rfl) (fun _ _ _ h => h) (Or.inl ⟨by rfl, ?yy3007⟩) (by assumption) ?rr3007
  case yy3007 => (intro w hSw; (try dsimp only at hSw); go_simp; first | done | with_reducible rfl)
  simp only [Act.put, List.setIfInBounds_toArray, List.set_cons_zero, List.set_cons_succ]
  refine wpAnyH_take (i := 8) (v := ?vv3008) (by simp only [List.getElem?_toArray, List.getElem?_cons_zero, List.getElem?_cons_succ]; rfl) (by kernel_rfl) (by kernel_rfl) (by kernel_rfl) (fun _ _ _ h => h) (Or.inl ⟨by rfl, ?yy3008⟩) (by assumption) ?rr3008
  case yy3008 => (intro w hSw; (try dsimp only at hSw); go_simp; first | done | with_reducible rfl)
  simp only [Act.put, List.setIfInBounds_toArray, List.set_cons_zero, List.set_cons_succ]
  refine wpAnyH_ready (rs := [6]) (by kernel_rfl) (by simp) ?_
  refine AllReadyH.cons (by simp only [List.getElem?_toArray, List.getElem?_cons_zero, List.getElem?_cons_succ]; rfl) (fun K hK => ?_) ?_
  · skip
    go_simp
    clear hHeld
    obtain ⟨nb, hnb⟩ : ∃ b, b = wq1.heap.size := ⟨_, rfl⟩
    have RN : Hid ((wq1.alloc (.cells #[] 5)).heap[nb]? = some (.cells #[] 5)) := by rw [hnb]; exact heap_alloc_new wq1 _
    have nl : wq1.heap.size ≤ nb := by rw [hnb]; exact BD.out.size
    rw [← hnb]
    clear hnb
    replace BD := Lib.hid (chain_alloc BD.out (.cells #[] 5))
    refine hK.out _ _ ⟨(BD.out.cell (p := ⟨g, 0, none⟩) lg).trans g0, (BD.out.cell (p := ⟨bt, 0, none⟩) lt0).trans t0, (BD.out.cell (p := ⟨bt, 1, none⟩) lt1).trans t1⟩ (fun hHeld => ?_)
    clear hK K
    try simp only [Act.put, List.setIfInBounds_toArray, List.set_cons_zero, List.set_cons_succ]
    generalize wq1.alloc (.cells #[] 5) = wq2 at hHeld RN BD ⊢
    refine wpAnyH_ready (rs := [9]) (by kernel_rfl) (by simp) ?_
    refine AllReadyH.cons (by simp only [List.getElem?_toArray, List.getElem?_cons_zero, List.getElem?_cons_succ]; rfl) (fun K hK => ?_) ?_
    · skip
      obtain ⟨hd5, wq3, run5, y5, ba⟩ := copy_run (A := A) (c := c) RN.out (RR.out.below (chain B1.out (chain hd BD.out))) LN.out (by omega)
      refine step_append_run (by kernel_rfl) (.tmp 10) (.tmp 12) 31 31 (by kernel_rfl) (.slice (some ⟨nb, 0, none⟩) 0 0) (.slice A n c) (by kernel_rfl) (by kernel_rfl) (.slice hd5.a hd5.n hd5.c) run5 ?_
      refine hK.out _ _ ⟨(ba.cell (p := ⟨g, 0, none⟩) (Nat.lt_of_lt_of_le lg nl)).trans ((BD.out.cell (p := ⟨g, 0, none⟩) lg).trans g0), (ba.cell (p := ⟨bt, 0, none⟩) (Nat.lt_of_lt_of_le lt0 nl)).trans ((BD.out.cell (p := ⟨bt, 0, none⟩) lt0).trans t0), (ba.cell (p := ⟨bt, 1, none⟩) (Nat.lt_of_lt_of_le lt1 nl)).trans ((BD.out.cell (p := ⟨bt, 1, none⟩) lt1).trans t1)⟩ (fun hHeld => ?_)
      clear hK K
      try simp only [Act.put, List.setIfInBounds_toArray, List.set_cons_zero, List.set_cons_succ]
      have Y5 := Lib.hid y5
      have BF := Lib.hid (BD.out.trans (ba.mono nl))
      have NL := Lib.hid nl
      clear ba y5 run5 nl
      refine wpAnyH_take (i := 10) (v := ?vv3009) (by simp only [List.getElem?_toArray, List.getElem?_cons_zero, List.getElem?_cons_succ]; rfl) (by kernel_rfl) (by kernel_rfl) (by kernel_rfl) (fun _ _ _ h => h) (Or.inl ⟨by rfl, ?yy3009⟩) (by assumption) ?rr3009
      case yy3009 => (intro w hSw; (try dsimp only at hSw); go_simp; first | done | with_reducible rfl)
      simp only [Act.put, List.setIfInBounds_toArray, List.set_cons_zero, List.set_cons_succ]
      refine wpAnyH_ready (rs := [11]) (by kernel_rfl) (by simp) ?_
      refine AllReadyH.cons (by simp only [List.getElem?_toArray, List.getElem?_cons_zero, List.getElem?_cons_succ]; rfl) (fun K hK => ?_) ?_
      · skip
        have BQ := Lib.hid (chain B1.out (chain hd BF.out))
        have CG := Lib.hid ((BF.out.cell (p := ⟨g, 0, none⟩) lg).trans g0)
        have DI5 := Lib.hid (HH.out.below BQ.out)
        obtain ⟨⟨vc, cL5⟩, fL5⟩ := FL.out
        have cL6 := (BQ.out.cell (p := ⟨bL, i, none⟩) (HLT.out bL OL.out).2).trans cL5
        have fL6 := (BQ.out.frozen (p := ⟨bL, i, none⟩) (HLT.out bL OL.out).2).trans fL5
        have TNE : Hid (bL ≠ bt) := by have := (HLT.out bL OL.out).2; show bL ≠ bt; rw [HBT.out]; omega
        go_simp
        refine hK.out _ _ ⟨(World.cell?_setCell_far _ _ _ _ GNE.out).trans ((BF.out.cell (p := ⟨g, 0, none⟩) lg).trans g0), (World.cell?_setCell_far _ _ _ _ TNE.out).trans ((BF.out.cell (p := ⟨bt, 0, none⟩) lt0).trans t0), (World.cell?_setCell_far _ _ _ _ TNE.out).trans ((BF.out.cell (p := ⟨bt, 1, none⟩) lt1).trans t1)⟩ (fun hHeld => ?_)
        clear hK K cL5 fL5 cL6 fL6
        try simp only [Act.put, List.setIfInBounds_toArray, List.set_cons_zero, List.set_cons_succ]
        refine wpAnyH_done (by kernel_rfl) ?_ _
        refine NoPanic.normal ?_
        clear hHeld
        have vs : (wq3.setCell ⟨bL, i, none⟩ (.slice hd5.a hd5.n hd5.c)).heap.size = wq3.heap.size := World.size_setCell _ _ _
        have S5 := RDI.setL (O' := Grow O w (wq3.setCell ⟨bL, i, none⟩ (.slice hd5.a hd5.n hd5.c))) (i := i) (l := l) DI5.out CG.out (Y5.out.base (Nat.le_trans HBB.out (Nat.le_trans BQ0.out NL.out))) (grow_start _ _ _) (fun b q => by rcases q with q | q; exact ⟨(HLT.out b q).1, Nat.lt_of_lt_of_le (HLT.out b q).2 BQ.out.size⟩; exact ⟨Nat.le_trans HBB.out q.1, by rw [← vs]; exact q.2⟩) (fun a ha => Or.inr ⟨Nat.le_trans (Nat.le_trans BQ0.out NL.out) (Y5.out.lt ha).1, by rw [vs]; exact (Y5.out.lt ha).2⟩)
        have tb6 : (wq3.setCell ⟨bL, i, none⟩ (.slice hd5.a hd5.n hd5.c)).heap[bt]? = some (.cells #[.int .i64 (i : Int), .slice A n c] 72) := (Below.heap_setCell wq3 ⟨bL, i, none⟩ _ bt (Ne.symm TNE.out)).trans (((chain hd BF.out).block bt (Array.getElem?_eq_some_iff.1 TBH.out).1).trans TBH.out)
        have K5 : Kept B O w (wq3.setCell ⟨bL, i, none⟩ (.slice hd5.a hd5.n hd5.c)) := (Kept.below BQ.out HBB.out).set (Or.inl OL.out) (HLT.out bL OL.out).1 _
        have S5s : w.heap.size ≤ (wq3.setCell ⟨bL, i, none⟩ (.slice hd5.a hd5.n hd5.c)).heap.size := by rw [World.size_setCell]; exact BQ.out.size
        have t6 : (wq3.setCell ⟨bL, i, none⟩ (.slice hd5.a hd5.n hd5.c)).cell? ⟨bt, 0, none⟩ = some (.int .i64 (i : Int)) := (World.cell?_setCell_far _ _ _ _ TNE.out).trans ((BF.out.cell (p := ⟨bt, 0, none⟩) lt0).trans t0)
        have lt6 : bt < (wq3.setCell ⟨bL, i, none⟩ (.slice hd5.a hd5.n hd5.c)).heap.size := by rw [World.size_setCell]; exact Nat.lt_of_lt_of_le lt0 BF.out.size
        clear g0 t0 t1 lg lt0 lt1 hd BD BF BQ Y5 RN CG BQ0 NL DI5
        go_wp2_with fail
        clear vs
        generalize wq3.setCell ⟨bL, i, none⟩ (.slice hd5.a hd5.n hd5.c) = w5 at S5 K5 S5s t6 lt6 tb6 ⊢
        have DI6 := Lib.hid S5.1
        have KE := Lib.hid K5
        obtain ⟨bT, cT, g1, oT, neT, ⟨csT, tyT⟩, fT⟩ := S5.1.T (by show 0 < d.t.length; exact Nat.lt_of_le_of_lt (Nat.zero_le _) H2.out)
        obtain ⟨nT, hnT⟩ : ∃ nT, nT = d.t.length := ⟨_, rfl⟩
        have g1 : w5.cell? ⟨g, 1, none⟩ = some (.slice (some ⟨bT, 0, none⟩) nT cT) := by rw [hnT]; exact g1
        have FT := Lib.hid (fT i H2.out)
        have OT := Lib.hid oT; have TG := Lib.hid neT; have G6 := Lib.hid g1
        have LT6 := Lib.hid (S5.1.lt bT oT).2
        have lg6 := (S5.1.lt g S5.1.own).2
        have LG6 := Lib.hid lg6
        have TT : Hid (bT ≠ bt) := fun e => by
          rw [e, tb6] at tyT
          injection tyT with z
          injection z with _ z _
          exact absurd z (by decide)
        have i3 : (i : Int) < (nT : Int) := by rw [hnT]; exact Int.ofNat_lt.2 H2.out
        have i4 : i < nT := by rw [hnT]; exact H2.out
        have t0 := t6
        have S5S := Lib.hid S5s
        clear S5 K5 S5s hnT oT neT fT t6 tb6 tyT
        refine wp_region_noPanic ?_
        refine wp_region_held_drew (S := fun w' => w'.cell? ⟨g, 1, none⟩ = some (.slice (some ⟨bT, 0, none⟩) nT cT) ∧ w'.cell? ⟨bt, 0, none⟩ = some (.int .i64 (i : Int))) (by kernel_rfl) ⟨g1, t0⟩ (fun hHeld => ?_)
        have hd := below_drew w5
        replace g1 := (hd.cell (p := ⟨g, 1, none⟩) lg6).trans g1
        replace lg6 := Nat.lt_of_lt_of_le lg6 hd.size
        replace t0 := (hd.cell (p := ⟨bt, 0, none⟩) lt6).trans t0
        replace lt6 := Nat.lt_of_lt_of_le lt6 hd.size
        generalize w5.drew = wq1 at hHeld hd g1 lg6 t0 lt6 ⊢
        have BD : Hid (Below wq1.heap.size wq1 wq1) := Below.refl _ _
        refine wpAnyH_take (i := 0) (v := ?vv4001) (by simp only [List.getElem?_toArray, List.getElem?_cons_zero]; rfl) (by kernel_rfl) (by kernel_rfl) (by kernel_rfl) (fun _ _ _ h => h) (Or.inl ⟨by rfl, ?yy4001⟩) (by assumption) ?rr4001
        case yy4001 => (intro w hSw; (try dsimp only at hSw); go_simp; first | done | with_reducible rfl)
        simp only [Act.put, List.setIfInBounds_toArray, List.set_cons_zero, List.set_cons_succ]
        refine wpAnyH_take (i := 1) (v := ?vv4002) (by simp only [List.getElem?_toArray, List.getElem?_cons_zero, List.getElem?_cons_succ]; rfl) (by kernel_rfl) (by kernel_rfl) (by kernel_rfl) (fun _ _ _ h => h) (Or.inl ⟨by rfl, ?yy4002⟩) (by assumption) ?rr4002
        case yy4002 => (intro w hSw; (try dsimp only at hSw); go_simp; first | done | with_reducible rfl)
        simp only [Act.put, List.setIfInBounds_toArray, List.set_cons_zero, List.set_cons_succ]
        refine wpAnyH_take (i := 2) (v := ?vv4003) (by simp only [List.getElem?_toArray, List.getElem?_cons_zero, List.getElem?_cons_succ]; rfl) (by kernel_rfl) (by kernel_rfl) (by kernel_rfl) (fun _ _ _ h => h) (Or.inl ⟨by rfl, ?yy4003⟩) (by assumption) ?rr4003
        case yy4003 => (intro w hSw; (try dsimp only at hSw); go_simp; first | done | with_reducible rfl)
        simp only [Act.put, List.setIfInBounds_toArray, List.set_cons_zero, List.set_cons_succ]
        refine wpAnyH_take (i := 3) (v := ?vv4004) (by simp only [List.getElem?_toArray, List.getElem?_cons_zero, List.getElem?_cons_succ]; rfl) (by kernel_rfl) (by kernel_rfl) (by kernel_rfl) (fun _ _ _ h => h) (Or.inl ⟨by rfl, ?yy4004⟩) (by assumption) ?rr4004
        case yy4004 => (intro w hSw; (try dsimp only at hSw); go_simp; first | done | with_reducible rfl)
        simp only [Act.put, List.setIfInBounds_toArray, List.set_cons_zero, List.set_cons_succ]
        refine wpAnyH_take (i := 4) (v := ?vv4005) (by simp only [List.getElem?_toArray, List.getElem?_cons_zero, List.getElem?_cons_succ]; rfl) (by kernel_rfl) (by kernel_rfl) (by kernel_rfl) (fun _ _ _ h => h) (Or.inl ⟨by rfl, ?yy4005⟩) (by assumption) ?rr4005
        case yy4005 => (intro w hSw; (try dsimp only at hSw); go_simp; first | done | with_reducible rfl)
        simp only [Act.put, List.setIfInBounds_toArray, List.set_cons_zero, List.set_cons_succ]
        refine wpAnyH_take (i := 5) (v := ?vv4006) (by simp only [List.getElem?_toArray, List.getElem?_cons_zero, List.getElem?_cons_succ]; rfl) (by kernel_rfl) (by kernel_rfl) (by kernel_rfl) (fun _ _ _ h => h) (Or.inl ⟨by rfl, ?yy4006⟩) (by assumption) ?rr4006
        case yy4006 => (intro w hSw; (try dsimp only at hSw); go_simp; first | done | with_reducible rfl)
        simp only [Act.put, List.setIfInBounds_toArray, List.set_cons_zero, List.set_cons_succ]
        refine wpAnyH_take (i := 6) (v := ?vv4007) (by simp only [List.getElem?_toArray, List.getElem?_cons_zero, List.getElem?_cons_succ]; rfl) (by kernel_rfl) (by kernel_rfl) (by kernel_rfl) (fun _ _ _ h => h) (Or.inl ⟨by rfl, ?yy4007⟩) (by assumption) ?rr4007
        case yy4007 => (intro w hSw; (try dsimp only at hSw); go_simp; first | done | with_reducible rfl)
        simp only [Act.put, List.setIfInBounds_toArray, List.set_cons_zero, List.set_cons_succ]
        refine wpAnyH_ready (rs := [7]) (by kernel_rfl) (by simp) ?_
        refine AllReadyH.cons (by simp only [List.getElem?_toArray, List.getElem?_cons_zero, List.getElem?_cons_succ]; rfl) (fun K hK => ?_) ?_
        · skip
          have cT6 := (chain hd BD.out).cell (p := ⟨bT, i, none⟩) LT6.out
          have fT6 := ((chain hd BD.out).frozen (p := ⟨bT, i, none⟩) LT6.out).trans FT.out.2
          replace cT6 := cT6.trans FT.out.1
          go_simp
          refine hK.out _ _ ⟨(World.cell?_setCell_far _ _ _ _ TG.out).trans ((BD.out.cell (p := ⟨g, 1, none⟩) lg6).trans g1), (World.cell?_setCell_far _ _ _ _ TT.out).trans ((BD.out.cell (p := ⟨bt, 0, none⟩) lt6).trans t0)⟩ (fun hHeld => ?_)
          clear hK K cT6 fT6
          try simp only [Act.put, List.setIfInBounds_toArray, List.set_cons_zero, List.set_cons_succ]
          refine wpAnyH_done (by kernel_rfl) ?_ _
          refine NoPanic.normal ?_
          clear hHeld
          have E6 := (DI6.out.below (chain hd BD.out)).setT i false (((chain hd BD.out).cell (p := ⟨g, 1, none⟩) LG6.out).trans G6.out)
          have K6 := (KE.out.more HBB.out (chain hd BD.out)).set (j := i) (grow_old OT.out) (DI6.out.lt bT OT.out).1 (.bool false)
          have Z6 : Hid (w5.heap.size ≤ (wq1.setCell ⟨bT, i, none⟩ (.bool false)).heap.size) := by show _ ≤ _; rw [World.size_setCell]; exact (chain hd BD.out).size
          go_wp2_with fail
          go_end0
          exact ⟨rfl, E6.1.regrow HLT.out HBB.out S5S.out Z6.out, K6⟩
        exact AllReadyH.nil
      exact AllReadyH.nil
    exact AllReadyH.nil
  exact AllReadyH.nil

end Go.Proofs.Ytpdedeaejlkokaa
