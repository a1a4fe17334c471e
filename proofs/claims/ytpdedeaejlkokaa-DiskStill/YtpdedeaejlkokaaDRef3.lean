/-
  What the document's own functions of layer 15 answer: Write.
-/
import Derived.Test.YtpdedeaejlkokaaDRef2
namespace Go.Proofs.Ytpdedeaejlkokaa
open Go.RowKit

theorem Try.infoW : (Try.prog.info? 72).map (fun i => (i.zero, i.size, i.bytes)) = some (some (.agg #[.int .i64 0, .slice none 0 0]), 2, 32) := by kernel_rfl
/-- A write more that is pending. -/
theorem RDI.push {B : Nat} {O : Nat → Prop} {d : Dk} {g : Nat} {w : World} (H : RDI B O d g w) {h : Hd} {l : List UInt8} (hb : Byt w B h l) (hO : ∀ a, h.a = some a → O a.block) {vP : Value} (hc : w.cell? ⟨g, 2, none⟩ = some vP) {nb i : Nat}
    (hn : w.heap[nb]? = some (.cells #[.int .i64 (i : Int), .slice h.a h.n h.c] 72 (0, 0))) (hl : d.p.length ≤ 100000) (hB : B ≤ w.heap.size) :
    ∃ A' n' c' w', (Builtin.append_ #[59, 59] 59 #[vP, .slice (some ⟨nb, 0, none⟩) 1 1]).run Try.prog w = .ok (.slice A' n' c') w' ∧ w'.cell? ⟨g, 2, none⟩ = some vP ∧ w'.frozen? ⟨g, 2, none⟩ = false ∧ Kept B O w w' ∧
      RDI B (Grow O w w') { d with p := d.p ++ [(i, l)] } g (w'.setCell ⟨g, 2, none⟩ (.slice A' n' c')) := by
  obtain ⟨i0, hi, hz0, hz1, hz2⟩ := info_parts Try.infoW
  obtain ⟨lt, hg, vL, vT, vP', hl', hp, q1, q2, q3, q4, q5, q6, q7, q8, q9, q10, q11⟩ := H
  have hv := (dcell2 q1).symm.trans hc
  obtain rfl := Option.some.inj hv
  obtain ⟨v', w', hrun, o2, gr, _, wh⟩ := run_append_own_at (P := Try.prog) w B 59 59 72 i0 (.agg #[.int .i64 0, .slice none 0 0]) 2 32 Try.underlying59 hi hz0 hz1 hz2 rfl (by decide) vP' d.p.length (hp.flatMap pcells) q5 ⟨nb, 0, none⟩ 1 1 (pcells (i, h)) rfl
    (fun j u hu => by
      rw [show (⟨nb, 0, none⟩ : Addr).add j = ⟨nb, j, none⟩ by unfold Addr.add; split <;> simp_all, Lib.cell_of_heap hn]
      match j, hu with
      | 0, hu => simpa [pcells] using hu
      | 1, hu => simpa [pcells] using hu
      | j + 2, hu => simp [pcells] at hu)
    (pcells_one _) (by unfold maxLen; omega) (by omega) hB
  obtain ⟨A', c', rfl, _, _⟩ := own_rg (f := pcells) (xs := hp ++ [(i, h)]) pcells_len (by decide) (by rw [List.flatMap_append]; simpa using o2)
  have hgl := (lt g hg).2
  have gk : ∀ b, b < w.heap.size → vP'.ownBlock ≠ some b → w'.heap[b]? = w.heap[b]? := fun b h1 h2 => gr.block b h1 fun e => h2 e.symm
  have gg := gk g hgl fun e => own_ne_type q5 q1 (by decide) e.symm
  have hlb : ∀ b, vL.ownBlock = some b → w'.heap[b]? = w.heap[b]? := fun b e => gk b (q2.lt b e).2 fun e2 => own_two q2 q5 (by decide) e e2 rfl
  have htb : ∀ b, vT.ownBlock = some b → w'.heap[b]? = w.heap[b]? := fun b e => gk b (q4.lt b e).2 fun e2 => own_two q4 q5 (by decide) e e2 rfl
  have hbb : ∀ {h : Hd} {l : List UInt8}, Byt w B h l → ∀ a, h.a = some a → w'.heap[a.block]? = w.heap[a.block]? := fun H a ha => gk _ (H.lt ha).2 fun e2 => own_two H q5 (by decide) (b := a.block) (by simp [Value.ownBlock, ha]) e2 rfl
  have kept : Kept B O w w' := ⟨(Below.refl B w).grown gr hB fun k hk => (q5.lt k hk).1, fun b h1 h2 => gk b h1 fun e => h2 (q9 b e)⟩
  have q1' := gg.trans q1
  have ne : ∀ b, b ≠ g → (w'.setCell ⟨g, 2, none⟩ (.slice A' (d.p.length + 1) c')).heap[b]? = w'.heap[b]? := fun b hn => Below.heap_setCell _ _ _ _ hn
  have o2' : w'.ownsRow B 72 2 (.slice A' (d.p.length + 1) c') (d.p ++ [(i, l)]).length ((hp ++ [(i, h)]).flatMap pcells) := by
    rw [List.length_append, List.flatMap_append]; simpa using o2
  have l3 : Bys w' B hl' d.l := q3.stay fun h' qh a e => by
    obtain ⟨k, hk, e2⟩ := List.mem_iff_getElem.1 qh
    exact hbb (q3.2 k h' _ (by rw [List.getElem?_eq_getElem hk, e2]) (List.getElem?_eq_getElem (by rw [← q3.1]; exact hk))) a e
  have p6 : Wrs w' B (hp ++ [(i, h)]) (d.p ++ [(i, l)]) := by
    refine Wrs.app (q6.stay fun x qx a e => ?_) i (hb.stay fun a e => hbb hb a e)
    obtain ⟨k, hk, e2⟩ := List.mem_iff_getElem.1 qx
    exact hbb (q6.2 k x _ (by rw [List.getElem?_eq_getElem hk, e2]) (List.getElem?_eq_getElem (by rw [← q6.1]; exact hk))).2 a e
  have hBt : ∀ {h : Hd} {l : List UInt8}, Byt w' B h l → ∀ a, h.a = some a → a.block ≠ g := fun H a ha e => by
    obtain ⟨cs, z⟩ := own_type H (b := a.block) (by simp [Value.ownBlock, ha])
    rw [e, q1'] at z
    injection z with z
    injection z with _ z _
    exact absurd z (by decide)
  refine ⟨A', d.p.length + 1, c', w', hrun, dcell2 q1', Lib.frozen_of_heap q1' 2, kept, ⟨fun b q => ?_, Or.inl hg, vL, vT, .slice A' (d.p.length + 1) c', hl', hp ++ [(i, h)], Lib.heap_setCell_same q1' _, own_apart (own_stay q2 hlb) q1' (by decide) ne, ?_, own_apart (own_stay q4 htb) q1' (by decide) ne, own_apart o2' q1' (by decide) ne, ?_, fun b q => Or.inl (q7 b q), fun b q => Or.inl (q8 b q), fun b q => ?_, fun x q a e => Or.inl (q10 x q a e), fun x q a e => ?_⟩⟩
  · rw [World.size_setCell]
    rcases q with q | q
    · exact ⟨(lt b q).1, Nat.lt_of_lt_of_le (lt b q).2 gr.size⟩
    · exact ⟨Nat.le_trans hB q.1, q.2⟩
  · exact ⟨l3.1, fun j h' l' e1 e2 => (l3.2 j h' l' e1 e2).stay fun a ha => ne _ (hBt (l3.2 j h' l' e1 e2) a ha)⟩
  · exact ⟨p6.1, fun j x y e1 e2 => ⟨(p6.2 j x y e1 e2).1, (p6.2 j x y e1 e2).2.stay fun a ha => ne _ (hBt (p6.2 j x y e1 e2).2 a ha)⟩⟩
  · rcases wh with e | e
    · exact Or.inl (q9 b (by rw [← e]; exact q))
    · rw [q] at e
      obtain rfl := Option.some.inj e
      exact Or.inr ⟨Nat.le_refl _, (o2.lt _ q).2⟩
  · rcases List.mem_append.1 q with q | q
    · exact Or.inl (q11 x q a e)
    · rw [List.mem_singleton] at q
      subst q
      exact Or.inl (hO a e)
theorem Rg.keptO {α : Type} {f : α → List Value} {w w' : World} {A : Option Addr} {xs : List α} {B : Nat} {O : Nat → Prop} (h : Rg f w A xs) (k : Kept B O w w') (n : 0 < xs.length → ∀ a, A = some a → ¬ O a.block) : Rg f w' A xs := fun h0 => by
  obtain ⟨b, o, rfl, lt, hc⟩ := h h0
  exact ⟨b, o, rfl, Nat.lt_of_lt_of_le lt k.1.size, fun j u hu => (World.cell?_of_block (k.2 b lt (n h0 _ rfl))).trans (hc j u hu)⟩
theorem RDI.regrow2 {B : Nat} {O : Nat → Prop} {d : Dk} {g : Nat} {w w1 w2 w' : World} (H : RDI B (Grow (Grow O w w1) w1 w2) d g w') (h1 : ∀ b, O b → B ≤ b ∧ b < w.heap.size) (h2 : B ≤ w.heap.size) (h3 : w.heap.size ≤ w1.heap.size) (h4 : w1.heap.size ≤ w2.heap.size) (h5 : w2.heap.size ≤ w'.heap.size) : RDI B (Grow O w w') d g w' :=
  H.grow (fun b q => by
    rcases grow_next h3 h4 q with q | q
    · exact Or.inl q
    · exact Or.inr ⟨q.1, by omega⟩) fun b q => by
    rcases q with q | q
    · exact ⟨(h1 b q).1, by have := (h1 b q).2; omega⟩
    · exact ⟨by omega, q.2⟩
theorem tick_len (d : Dk) : (dkTick d).l.length = d.l.length ∧ (dkTick d).p.length = d.p.length := by rw [tick_l, tick_p]; exact ⟨rfl, rfl⟩

set_option maxHeartbeats 4000000 in
set_option maxRecDepth 100000 in
theorem rwrite15 (B : Nat) (O : Nat → Prop) (g : Nat) (d : Dk) (i : Int) (A : Option Addr) (n c : Nat) (l : List UInt8) (w : World) (H : RDI B O d g w) (hB : B ≤ w.heap.size) (hr : Rg bcells w A l) (hn : n = l.length) (hA : 0 < l.length → ∀ a, A = some a → ¬ O a.block) (hm : d.l.length ≤ 5000 ∧ d.p.length ≤ 100000) (hf : -1 ≤ d.f ∧ d.f ≤ 9223372036854775807) :
    Calls Try.prog 26 #[.pointer (some ⟨g, 0, none⟩), .int .i64 i, .slice A n c] w (RTo B O g (dkWrite d i l).1 (.int .i64 (dkWrite d i l).2) w) := by
  have HH := Lib.hid H; have RR := Lib.hid hr; have LN := Lib.hid hn; have HLT := Lib.hid H.lt; have HBB := Lib.hid hB; have HM := Lib.hid hm; have HF := Lib.hid hf; have NA := Lib.hid hA
  clear H hr hn hm hB hf hA
  go_enter Try.func26, Try.ntmps26
  go_wp2_with fail
  refine (rcall15 B O g d _ HH.out HF.out).mono ?_
  rintro e w1 ⟨rfl, h1, h2, h3⟩
  have D1 := Lib.hid h1; have K1 := Lib.hid h2; have S1 := Lib.hid h3
  clear h1 h2 h3
  by_cases f0 : d.f = 0
  · obtain ⟨e1, e2⟩ := on_no f0
    rw [e1]
    rw [e2] at D1
    have E : Hid (dkWrite d i l = (d, 42)) := if_pos f0
    clear e1 e2 f0
    go_wp2_with fail
    go_ret
    rw [E.out]
    exact ⟨rfl, D1.out.grown HLT.out HBB.out, K1.out⟩
  obtain ⟨e1, e2⟩ := on_yes f0
  rw [e1]
  rw [e2] at D1
  have F0 := Lib.hid f0
  clear e1 e2 f0
  by_cases n64 : ¬ n = 64
  · have b1 : ((n : Int) != 64) = true := by simp; omega
    have E : Hid (dkWrite d i l = (dkTick d, 1)) := by show _ = _; unfold dkWrite; rw [if_neg F0.out, if_pos (by rw [← LN.out]; exact n64)]
    clear n64
    go_wp2_with fail
    go_ret
    rw [E.out]
    exact ⟨rfl, D1.out.grown HLT.out HBB.out, K1.out⟩
  obtain rfl : n = 64 := Decidable.not_not.1 n64
  have L64 : Hid (¬ l.length ≠ 64) := fun q => q LN.out.symm
  clear n64
  by_cases i0 : i < 0
  · have b2 : decide (i < 0) = true := decide_eq_true i0
    have E : Hid (dkWrite d i l = (dkTick d, 3)) := by show _ = _; unfold dkWrite; rw [if_neg F0.out, if_neg L64.out, if_pos (show dkIn d i = false from decide_eq_false fun q => by omega)]
    clear i0
    go_wp2_with fail
    go_ret
    rw [E.out]
    exact ⟨rfl, D1.out.grown HLT.out HBB.out, K1.out⟩
  have b2 : decide (i < 0) = false := decide_eq_false i0
  obtain ⟨vL, vT, vP, v1, ⟨AL, cL, rfl⟩, _, _⟩ := D1.out.var
  obtain ⟨c0, c1, c2, c3, fr⟩ := dcell v1
  rw [(tick_len d).1] at c0
  obtain ⟨nL, hnL⟩ : ∃ nL, nL = d.l.length := ⟨_, rfl⟩
  rw [← hnL] at c0
  have HNL := Lib.hid hnL
  have V1 := Lib.hid v1
  have C2 := Lib.hid c2
  clear v1 c1 c2 c3 fr hnL
  by_cases i1 : (nL : Int) ≤ i
  · have b3 : decide (i ≥ (nL : Int)) = true := decide_eq_true i1
    have b4 : decide ((nL : Int) ≤ i) = true := decide_eq_true i1
    have E : Hid (dkWrite d i l = (dkTick d, 3)) := by show _ = _; unfold dkWrite; rw [if_neg F0.out, if_neg L64.out, if_pos (show dkIn d i = false from decide_eq_false fun q => by have := HNL.out; omega)]
    clear i1 i0
    go_wp2_with fail
    go_ret
    rw [E.out]
    exact ⟨rfl, D1.out.grown HLT.out HBB.out, K1.out⟩
  have b3 : decide (i ≥ (nL : Int)) = false := decide_eq_false i1
  have b4 : decide ((nL : Int) ≤ i) = false := decide_eq_false i1
  obtain ⟨k, rfl⟩ : ∃ k : Nat, i = k := ⟨i.toNat, by omega⟩
  have E : Hid (dkWrite d (k : Int) l = ({ dkTick d with p := d.p ++ [(k, l)] }, 0)) := by
    show _ = _
    unfold dkWrite
    rw [if_neg F0.out, if_neg L64.out, if_neg (by rw [show dkIn d (k : Int) = true from decide_eq_true ⟨by omega, by have := HNL.out; omega⟩]; decide), Int.toNat_natCast]
  have b5 : decide (nL ≤ k) = false := decide_eq_false (by omega)
  have b6 : ¬ nL ≤ k := by omega
  have b7 : k < nL := by omega
  have S0 := Lib.hid (Nat.le_trans HBB.out K1.out.1.size)
  have lg := (D1.out.lt g D1.out.own).2
  have g2 := C2.out
  clear i0 i1
  go_wp2_with fail
  refine wp_region_noPanic ?_
  refine wp_region_held_drew (S := fun w' => True) (by kernel_rfl) trivial (fun hHeld => ?_)
  have hd := below_drew w1
  replace g2 := (hd.cell (p := ⟨g, 2, none⟩) lg).trans g2
  replace lg := Nat.lt_of_lt_of_le lg hd.size
  generalize w1.drew = wq1 at hHeld hd g2 lg ⊢
  have BD : Hid (Below wq1.heap.size wq1 wq1) := Below.refl _ _
  refine wpAnyH_take (i := 0) (v := ?vv3001) (by simp only [List.getElem?_toArray, List.getElem?_cons_zero]; rfl) (by kernel_rfl) (by kernel_rfl) (by kernel_rfl) (fun _ _ _ h => h) (Or.inl ⟨by rfl, ?yy3001⟩) (by assumption) ?rr3001
  case yy3001 => (intro w hSw; (try dsimp only at hSw); go_simp; first | done | with_reducible rfl)
  simp only [Act.put, List.setIfInBounds_toArray, List.set_cons_zero, List.set_cons_succ]
  refine wpAnyH_take (i := 1) (v := ?vv3002) (by simp only [List.getElem?_toArray, List.getElem?_cons_zero, List.getElem?_cons_succ]; rfl) (by kernel_rfl) (by kernel_rfl) (by kernel_rfl) (fun _ _ _ h => h) (Or.inl ⟨by rfl, ?yy3002⟩) (by assumption) ?rr3002
  case yy3002 => (intro w hSw; (try dsimp only at hSw); go_simp; first | done | with_reducible rfl)
  simp only [Act.put, List.setIfInBounds_toArray, List.set_cons_zero, List.set_cons_succ]
  refine wpAnyH_take (i := 2) (v := ?vv3003) (by simp only [List.getElem?_toArray, List.getElem?_cons_zero, List.getElem?_cons_succ]; rfl) (by kernel_rfl) (by kernel_rfl) (by kernel_rfl) (fun _ _ _ h => h) (Or.inl ⟨by rfl, ?yy3003⟩) (by assumption) ?rr3003
  case yy3003 => (intro w hSw; (try dsimp only at hSw); go_simp; first | done | with_reducible rfl)
  simp only [Act.put, List.setIfInBounds_toArray, List.set_cons_zero, List.set_cons_succ]
  refine wpAnyH_take (i := 3) (v := ?vv3004) (by simp only [List.getElem?_toArray, List.getElem?_cons_zero, List.getElem?_cons_succ]; rfl) (by kernel_rfl) (by kernel_rfl) (by kernel_rfl) (fun _ _ _ h => h) (Or.inl ⟨by rfl, ?yy3004⟩) (by assumption) ?rr3004
  case yy3004 => (intro w hSw; (try dsimp only at hSw); go_simp; first | done | with_reducible rfl)
  simp only [Act.put, List.setIfInBounds_toArray, List.set_cons_zero, List.set_cons_succ]
  refine wpAnyH_take (i := 5) (v := ?vv3005) (by simp only [List.getElem?_toArray, List.getElem?_cons_zero, List.getElem?_cons_succ]; rfl) (by kernel_rfl) (by kernel_rfl) (by kernel_rfl) (fun _ _ _ h => h) (Or.inl ⟨by rfl, ?yy3005⟩) (by assumption) ?rr3005
  case yy3005 => (intro w hSw; (try dsimp only at hSw); go_simp; first | done | with_reducible rfl)
  simp only [Act.put, List.setIfInBounds_toArray, List.set_cons_zero, List.set_cons_succ]
  refine wpAnyH_take (i := 7) (v := ?vv3006) (by simp only [List.getElem?_toArray, List.getElem?_cons_zero, List.getElem?_cons_succ]; rfl) (by kernel_rfl) (by kernel_rfl) (by kernel_rfl) (fun _ _ _ h => h) (Or.inl ⟨by rfl, ?yy3006⟩) (by assumption) ?rr3006
  case yy3006 => (intro w hSw; (try dsimp only at hSw); go_simp; first | done | with_reducible rfl)
  simp only [Act.put, List.setIfInBounds_toArray, List.set_cons_zero, List.set_cons_succ]
  refine wpAnyH_ready (rs := [4, 6]) (by kernel_rfl) (by simp) ?_
  refine AllReadyH.cons (by simp only [List.getElem?_toArray, List.getElem?_cons_zero, List.getElem?_cons_succ]; rfl) (fun K hK => ?_) ?_
  · skip
    have zc : wq1.cell? ⟨g, 2, none⟩ = some vP := (BD.out.cell (p := ⟨g, 2, none⟩) lg).trans g2
    go_simp
    clear zc
    clear hHeld
    refine hK.out _ _ trivial (fun hHeld => ?_)
    clear hK K
    try simp only [Act.put, List.setIfInBounds_toArray, List.set_cons_zero, List.set_cons_succ]
    refine wpAnyH_ready (rs := [6]) (by kernel_rfl) (by simp) ?_
    refine AllReadyH.cons (by simp only [List.getElem?_toArray, List.getElem?_cons_zero, List.getElem?_cons_succ]; rfl) (fun K hK => ?_) ?_
    · skip
      go_simp
      clear hHeld
      obtain ⟨vb, hvb⟩ : ∃ b, b = wq1.heap.size := ⟨_, rfl⟩
      have RN : Hid ((wq1.alloc (.cells #[] 5)).heap[vb]? = some (.cells #[] 5)) := by rw [hvb]; exact heap_alloc_new wq1 _
      have nl : wq1.heap.size ≤ vb := by rw [hvb]; exact BD.out.size
      have NL := Lib.hid nl
      rw [← hvb]
      clear hvb nl
      replace BD := Lib.hid (chain_alloc BD.out (.cells #[] 5))
      refine hK.out _ _ trivial (fun hHeld => ?_)
      clear hK K
      try simp only [Act.put, List.setIfInBounds_toArray, List.set_cons_zero, List.set_cons_succ]
      generalize wq1.alloc (.cells #[] 5) = wq3 at hHeld RN BD ⊢
      refine wpAnyH_ready (rs := [8]) (by kernel_rfl) (by simp) ?_
      refine AllReadyH.cons (by simp only [List.getElem?_toArray, List.getElem?_cons_zero, List.getElem?_cons_succ]; rfl) (fun K hK => ?_) ?_
      · skip
        obtain ⟨hd5, wq4, run5, y5, ba⟩ := copy_run (A := A) (c := c) RN.out ((RR.out.keptO K1.out NA.out).below (chain hd BD.out)) LN.out (by omega)
        refine step_append_run (by kernel_rfl) (.tmp 30) (.tmp 31) 31 31 (by kernel_rfl) (.slice (some ⟨vb, 0, none⟩) 0 0) (.slice A 64 c) (by kernel_rfl) (by kernel_rfl) (.slice hd5.a hd5.n hd5.c) run5 ?_
        refine hK.out _ _ trivial (fun hHeld => ?_)
        clear hK K
        try simp only [Act.put, List.setIfInBounds_toArray, List.set_cons_zero, List.set_cons_succ]
        have Y5 := Lib.hid (y5.base (Nat.le_trans S0.out (Nat.le_trans hd.size NL.out)))
        have Y6 : Hid (∀ a, hd5.a = some a → wq1.heap.size ≤ a.block) := fun a ha => Nat.le_trans NL.out (y5.lt ha).1
        replace BD := Lib.hid (BD.out.trans (ba.mono NL.out))
        clear ba y5 run5
        refine wpAnyH_take (i := 9) (v := ?vv3007) (by simp only [List.getElem?_toArray, List.getElem?_cons_zero, List.getElem?_cons_succ]; rfl) (by kernel_rfl) (by kernel_rfl) (by kernel_rfl) (fun _ _ _ h => h) (Or.inl ⟨by rfl, ?yy3007⟩) (by assumption) ?rr3007
        case yy3007 => (intro w hSw; (try dsimp only at hSw); go_simp; first | done | with_reducible rfl)
        simp only [Act.put, List.setIfInBounds_toArray, List.set_cons_zero, List.set_cons_succ]
        refine wpAnyH_ready (rs := [10]) (by kernel_rfl) (by simp) ?_
        refine AllReadyH.cons (by simp only [List.getElem?_toArray, List.getElem?_cons_zero, List.getElem?_cons_succ]; rfl) (fun K hK => ?_) ?_
        · skip
          go_simp
          clear hHeld
          obtain ⟨nb, hnb⟩ : ∃ b, b = wq4.heap.size := ⟨_, rfl⟩
          have RW : Hid ((wq4.alloc (.cells #[.int .i64 (k : Int), .slice hd5.a hd5.n hd5.c] 72)).heap[nb]? = some (.cells #[.int .i64 (k : Int), .slice hd5.a hd5.n hd5.c] 72)) := by rw [hnb]; exact heap_alloc_new wq4 _
          replace Y5 := Lib.hid (Y5.out.stay (w' := wq4.alloc (.cells #[.int .i64 (k : Int), .slice hd5.a hd5.n hd5.c] 72)) fun a ha => Lib.alloc_old _ _ _ (Y5.out.lt ha).2)
          rw [← hnb]
          clear hnb
          replace BD := Lib.hid (chain_alloc BD.out (.cells #[.int .i64 (k : Int), .slice hd5.a hd5.n hd5.c] 72))
          refine hK.out _ _ trivial (fun hHeld => ?_)
          clear hK K
          try simp only [Act.put, List.setIfInBounds_toArray, List.set_cons_zero, List.set_cons_succ]
          generalize wq4.alloc (.cells #[.int .i64 (k : Int), .slice hd5.a hd5.n hd5.c] 72) = wq5 at hHeld RW Y5 BD ⊢
          refine wpAnyH_ready (rs := [11]) (by kernel_rfl) (by simp) ?_
          refine AllReadyH.cons (by simp only [List.getElem?_toArray, List.getElem?_cons_zero, List.getElem?_cons_succ]; rfl) (fun K hK => ?_) ?_
          · skip
            have D5 : RDI B (Grow O w wq5) (dkTick d) g wq5 := ((D1.out.below (chain hd BD.out)).grown HLT.out HBB.out)
            have p5 : (dkTick d).p.length ≤ 100000 := by rw [(tick_len d).2]; exact HM.out.2
            obtain ⟨A6, n6, c6, wq6, run6, gc, gf, k6, d6⟩ := D5.push (l := l) (i := k) (nb := nb) Y5.out (fun a ha => Or.inr ⟨Nat.le_trans K1.out.1.size (Nat.le_trans hd.size (Y6.out a ha)), (Y5.out.lt ha).2⟩) ((BD.out.cell (p := ⟨g, 2, none⟩) lg).trans g2) RW.out p5 (Nat.le_trans S0.out (chain hd BD.out).size)
            refine step_append_run (by kernel_rfl) (.tmp 28) (.tmp 34) 59 59 (by kernel_rfl) vP (.slice (some ⟨nb, 0, none⟩) 1 1) (by kernel_rfl) (by kernel_rfl) (.slice A6 n6 c6) run6 ?_
            refine hK.out _ _ trivial (fun hHeld => ?_)
            clear hK K
            try simp only [Act.put, List.setIfInBounds_toArray, List.set_cons_zero, List.set_cons_succ]
            have GC := Lib.hid gc; have GF := Lib.hid gf; have K6 := Lib.hid k6; have D6 := Lib.hid d6
            have W6 := Lib.hid (chain hd BD.out)
            clear gc gf k6 d6 run6 D5 p5
            refine wpAnyH_take (i := 12) (v := ?vv3008) (by simp only [List.getElem?_toArray, List.getElem?_cons_zero, List.getElem?_cons_succ]; rfl) (by kernel_rfl) (by kernel_rfl) (by kernel_rfl) (fun _ _ _ h => h) (Or.inl ⟨by rfl, ?yy3008⟩) (by assumption) ?rr3008
            case yy3008 => (intro w hSw; (try dsimp only at hSw); go_simp; first | done | with_reducible rfl)
            simp only [Act.put, List.setIfInBounds_toArray, List.set_cons_zero, List.set_cons_succ]
            refine wpAnyH_take (i := 13) (v := ?vv3009) (by simp only [List.getElem?_toArray, List.getElem?_cons_zero, List.getElem?_cons_succ]; rfl) (by kernel_rfl) (by kernel_rfl) (by kernel_rfl) (fun _ _ _ h => h) (Or.inl ⟨by rfl, ?yy3009⟩) (by assumption) ?rr3009
            case yy3009 => (intro w hSw; (try dsimp only at hSw); go_simp; first | done | with_reducible rfl)
            simp only [Act.put, List.setIfInBounds_toArray, List.set_cons_zero, List.set_cons_succ]
            refine wpAnyH_ready (rs := [14]) (by kernel_rfl) (by simp) ?_
            refine AllReadyH.cons (by simp only [List.getElem?_toArray, List.getElem?_cons_zero, List.getElem?_cons_succ]; rfl) (fun K hK => ?_) ?_
            · skip
              have gc := GC.out
              have gf := GF.out
              go_simp
              refine hK.out _ _ trivial (fun hHeld => ?_)
              clear hK K gc gf
              try simp only [Act.put, List.setIfInBounds_toArray, List.set_cons_zero, List.set_cons_succ]
              refine wpAnyH_done (by kernel_rfl) ?_ _
              refine NoPanic.normal ?_
              clear hHeld
              have KW := Lib.hid (((K1.out.more HBB.out W6.out).next K6.out (fun b q => grow_old q)).set (j := 2) (Or.inl D1.out.own) (HLT.out g D1.out.own).1 (.slice A6 n6 c6))
              go_wp2_with fail
              go_ret
              rw [E.out]
              rw [tick_p] at D6
              exact ⟨rfl, D6.out.regrow2 HLT.out HBB.out (Nat.le_trans K1.out.1.size W6.out.size) K6.out.1.size (by rw [World.size_setCell]; exact Nat.le_refl _), KW.out⟩
            exact AllReadyH.nil
          exact AllReadyH.nil
        exact AllReadyH.nil
      exact AllReadyH.nil
    exact AllReadyH.nil
  refine AllReadyH.cons (by simp only [List.getElem?_toArray, List.getElem?_cons_zero, List.getElem?_cons_succ]; rfl) (fun K hK => ?_) ?_
  · skip
    go_simp
    clear hHeld
    obtain ⟨vb, hvb⟩ : ∃ b, b = wq1.heap.size := ⟨_, rfl⟩
    have RN : Hid ((wq1.alloc (.cells #[] 5)).heap[vb]? = some (.cells #[] 5)) := by rw [hvb]; exact heap_alloc_new wq1 _
    have nl : wq1.heap.size ≤ vb := by rw [hvb]; exact BD.out.size
    have NL := Lib.hid nl
    rw [← hvb]
    clear hvb nl
    replace BD := Lib.hid (chain_alloc BD.out (.cells #[] 5))
    refine hK.out _ _ trivial (fun hHeld => ?_)
    clear hK K
    try simp only [Act.put, List.setIfInBounds_toArray, List.set_cons_zero, List.set_cons_succ]
    generalize wq1.alloc (.cells #[] 5) = wq8 at hHeld RN BD ⊢
    refine wpAnyH_ready (rs := [4, 8]) (by kernel_rfl) (by simp) ?_
    refine AllReadyH.cons (by simp only [List.getElem?_toArray, List.getElem?_cons_zero, List.getElem?_cons_succ]; rfl) (fun K hK => ?_) ?_
    · skip
      have zc : wq8.cell? ⟨g, 2, none⟩ = some vP := (BD.out.cell (p := ⟨g, 2, none⟩) lg).trans g2
      go_simp
      clear zc
      clear hHeld
      refine hK.out _ _ trivial (fun hHeld => ?_)
      clear hK K
      try simp only [Act.put, List.setIfInBounds_toArray, List.set_cons_zero, List.set_cons_succ]
      refine wpAnyH_ready (rs := [8]) (by kernel_rfl) (by simp) ?_
      refine AllReadyH.cons (by simp only [List.getElem?_toArray, List.getElem?_cons_zero, List.getElem?_cons_succ]; rfl) (fun K hK => ?_) ?_
      · skip
        obtain ⟨hd5, wq10, run5, y5, ba⟩ := copy_run (A := A) (c := c) RN.out ((RR.out.keptO K1.out NA.out).below (chain hd BD.out)) LN.out (by omega)
        refine step_append_run (by kernel_rfl) (.tmp 30) (.tmp 31) 31 31 (by kernel_rfl) (.slice (some ⟨vb, 0, none⟩) 0 0) (.slice A 64 c) (by kernel_rfl) (by kernel_rfl) (.slice hd5.a hd5.n hd5.c) run5 ?_
        refine hK.out _ _ trivial (fun hHeld => ?_)
        clear hK K
        try simp only [Act.put, List.setIfInBounds_toArray, List.set_cons_zero, List.set_cons_succ]
        have Y5 := Lib.hid (y5.base (Nat.le_trans S0.out (Nat.le_trans hd.size NL.out)))
        have Y6 : Hid (∀ a, hd5.a = some a → wq1.heap.size ≤ a.block) := fun a ha => Nat.le_trans NL.out (y5.lt ha).1
        replace BD := Lib.hid (BD.out.trans (ba.mono NL.out))
        clear ba y5 run5
        refine wpAnyH_take (i := 9) (v := ?vv3010) (by simp only [List.getElem?_toArray, List.getElem?_cons_zero, List.getElem?_cons_succ]; rfl) (by kernel_rfl) (by kernel_rfl) (by kernel_rfl) (fun _ _ _ h => h) (Or.inl ⟨by rfl, ?yy3010⟩) (by assumption) ?rr3010
        case yy3010 => (intro w hSw; (try dsimp only at hSw); go_simp; first | done | with_reducible rfl)
        simp only [Act.put, List.setIfInBounds_toArray, List.set_cons_zero, List.set_cons_succ]
        refine wpAnyH_ready (rs := [10]) (by kernel_rfl) (by simp) ?_
        refine AllReadyH.cons (by simp only [List.getElem?_toArray, List.getElem?_cons_zero, List.getElem?_cons_succ]; rfl) (fun K hK => ?_) ?_
        · skip
          go_simp
          clear hHeld
          obtain ⟨nb, hnb⟩ : ∃ b, b = wq10.heap.size := ⟨_, rfl⟩
          have RW : Hid ((wq10.alloc (.cells #[.int .i64 (k : Int), .slice hd5.a hd5.n hd5.c] 72)).heap[nb]? = some (.cells #[.int .i64 (k : Int), .slice hd5.a hd5.n hd5.c] 72)) := by rw [hnb]; exact heap_alloc_new wq10 _
          replace Y5 := Lib.hid (Y5.out.stay (w' := wq10.alloc (.cells #[.int .i64 (k : Int), .slice hd5.a hd5.n hd5.c] 72)) fun a ha => Lib.alloc_old _ _ _ (Y5.out.lt ha).2)
          rw [← hnb]
          clear hnb
          replace BD := Lib.hid (chain_alloc BD.out (.cells #[.int .i64 (k : Int), .slice hd5.a hd5.n hd5.c] 72))
          refine hK.out _ _ trivial (fun hHeld => ?_)
          clear hK K
          try simp only [Act.put, List.setIfInBounds_toArray, List.set_cons_zero, List.set_cons_succ]
          generalize wq10.alloc (.cells #[.int .i64 (k : Int), .slice hd5.a hd5.n hd5.c] 72) = wq11 at hHeld RW Y5 BD ⊢
          refine wpAnyH_ready (rs := [11]) (by kernel_rfl) (by simp) ?_
          refine AllReadyH.cons (by simp only [List.getElem?_toArray, List.getElem?_cons_zero, List.getElem?_cons_succ]; rfl) (fun K hK => ?_) ?_
          · skip
            have D5 : RDI B (Grow O w wq11) (dkTick d) g wq11 := ((D1.out.below (chain hd BD.out)).grown HLT.out HBB.out)
            have p5 : (dkTick d).p.length ≤ 100000 := by rw [(tick_len d).2]; exact HM.out.2
            obtain ⟨A6, n6, c6, wq12, run6, gc, gf, k6, d6⟩ := D5.push (l := l) (i := k) (nb := nb) Y5.out (fun a ha => Or.inr ⟨Nat.le_trans K1.out.1.size (Nat.le_trans hd.size (Y6.out a ha)), (Y5.out.lt ha).2⟩) ((BD.out.cell (p := ⟨g, 2, none⟩) lg).trans g2) RW.out p5 (Nat.le_trans S0.out (chain hd BD.out).size)
            refine step_append_run (by kernel_rfl) (.tmp 28) (.tmp 34) 59 59 (by kernel_rfl) vP (.slice (some ⟨nb, 0, none⟩) 1 1) (by kernel_rfl) (by kernel_rfl) (.slice A6 n6 c6) run6 ?_
            refine hK.out _ _ trivial (fun hHeld => ?_)
            clear hK K
            try simp only [Act.put, List.setIfInBounds_toArray, List.set_cons_zero, List.set_cons_succ]
            have GC := Lib.hid gc; have GF := Lib.hid gf; have K6 := Lib.hid k6; have D6 := Lib.hid d6
            have W6 := Lib.hid (chain hd BD.out)
            clear gc gf k6 d6 run6 D5 p5
            refine wpAnyH_take (i := 12) (v := ?vv3011) (by simp only [List.getElem?_toArray, List.getElem?_cons_zero, List.getElem?_cons_succ]; rfl) (by kernel_rfl) (by kernel_rfl) (by kernel_rfl) (fun _ _ _ h => h) (Or.inl ⟨by rfl, ?yy3011⟩) (by assumption) ?rr3011
            case yy3011 => (intro w hSw; (try dsimp only at hSw); go_simp; first | done | with_reducible rfl)
            simp only [Act.put, List.setIfInBounds_toArray, List.set_cons_zero, List.set_cons_succ]
            refine wpAnyH_take (i := 13) (v := ?vv3012) (by simp only [List.getElem?_toArray, List.getElem?_cons_zero, List.getElem?_cons_succ]; rfl) (by kernel_rfl) (by kernel_rfl) (by kernel_rfl) (fun _ _ _ h => h) (Or.inl ⟨by rfl, ?yy3012⟩) (by assumption) ?rr3012
            case yy3012 => (intro w hSw; (try dsimp only at hSw); go_simp; first | done | with_reducible rfl)
            simp only [Act.put, List.setIfInBounds_toArray, List.set_cons_zero, List.set_cons_succ]
            refine wpAnyH_ready (rs := [14]) (by kernel_rfl) (by simp) ?_
            refine AllReadyH.cons (by simp only [List.getElem?_toArray, List.getElem?_cons_zero, List.getElem?_cons_succ]; rfl) (fun K hK => ?_) ?_
            · skip
              have gc := GC.out
              have gf := GF.out
              go_simp
              refine hK.out _ _ trivial (fun hHeld => ?_)
              clear hK K gc gf
              try simp only [Act.put, List.setIfInBounds_toArray, List.set_cons_zero, List.set_cons_succ]
              refine wpAnyH_done (by kernel_rfl) ?_ _
              refine NoPanic.normal ?_
              clear hHeld
              have KW := Lib.hid (((K1.out.more HBB.out W6.out).next K6.out (fun b q => grow_old q)).set (j := 2) (Or.inl D1.out.own) (HLT.out g D1.out.own).1 (.slice A6 n6 c6))
              go_wp2_with fail
              go_ret
              rw [E.out]
              rw [tick_p] at D6
              exact ⟨rfl, D6.out.regrow2 HLT.out HBB.out (Nat.le_trans K1.out.1.size W6.out.size) K6.out.1.size (by rw [World.size_setCell]; exact Nat.le_refl _), KW.out⟩
            exact AllReadyH.nil
          exact AllReadyH.nil
        exact AllReadyH.nil
      exact AllReadyH.nil
    refine AllReadyH.cons (by simp only [List.getElem?_toArray, List.getElem?_cons_zero, List.getElem?_cons_succ]; rfl) (fun K hK => ?_) ?_
    · skip
      obtain ⟨hd5, wq14, run5, y5, ba⟩ := copy_run (A := A) (c := c) RN.out ((RR.out.keptO K1.out NA.out).below (chain hd BD.out)) LN.out (by omega)
      refine step_append_run (by kernel_rfl) (.tmp 30) (.tmp 31) 31 31 (by kernel_rfl) (.slice (some ⟨vb, 0, none⟩) 0 0) (.slice A 64 c) (by kernel_rfl) (by kernel_rfl) (.slice hd5.a hd5.n hd5.c) run5 ?_
      refine hK.out _ _ trivial (fun hHeld => ?_)
      clear hK K
      try simp only [Act.put, List.setIfInBounds_toArray, List.set_cons_zero, List.set_cons_succ]
      have Y5 := Lib.hid (y5.base (Nat.le_trans S0.out (Nat.le_trans hd.size NL.out)))
      have Y6 : Hid (∀ a, hd5.a = some a → wq1.heap.size ≤ a.block) := fun a ha => Nat.le_trans NL.out (y5.lt ha).1
      replace BD := Lib.hid (BD.out.trans (ba.mono NL.out))
      clear ba y5 run5
      refine wpAnyH_take (i := 9) (v := ?vv3013) (by simp only [List.getElem?_toArray, List.getElem?_cons_zero, List.getElem?_cons_succ]; rfl) (by kernel_rfl) (by kernel_rfl) (by kernel_rfl) (fun _ _ _ h => h) (Or.inl ⟨by rfl, ?yy3013⟩) (by assumption) ?rr3013
      case yy3013 => (intro w hSw; (try dsimp only at hSw); go_simp; first | done | with_reducible rfl)
      simp only [Act.put, List.setIfInBounds_toArray, List.set_cons_zero, List.set_cons_succ]
      refine wpAnyH_ready (rs := [4, 10]) (by kernel_rfl) (by simp) ?_
      refine AllReadyH.cons (by simp only [List.getElem?_toArray, List.getElem?_cons_zero, List.getElem?_cons_succ]; rfl) (fun K hK => ?_) ?_
      · skip
        have zc : wq14.cell? ⟨g, 2, none⟩ = some vP := (BD.out.cell (p := ⟨g, 2, none⟩) lg).trans g2
        go_simp
        clear zc
        clear hHeld
        refine hK.out _ _ trivial (fun hHeld => ?_)
        clear hK K
        try simp only [Act.put, List.setIfInBounds_toArray, List.set_cons_zero, List.set_cons_succ]
        refine wpAnyH_ready (rs := [10]) (by kernel_rfl) (by simp) ?_
        refine AllReadyH.cons (by simp only [List.getElem?_toArray, List.getElem?_cons_zero, List.getElem?_cons_succ]; rfl) (fun K hK => ?_) ?_
        · skip
          go_simp
          clear hHeld
          obtain ⟨nb, hnb⟩ : ∃ b, b = wq14.heap.size := ⟨_, rfl⟩
          have RW : Hid ((wq14.alloc (.cells #[.int .i64 (k : Int), .slice hd5.a hd5.n hd5.c] 72)).heap[nb]? = some (.cells #[.int .i64 (k : Int), .slice hd5.a hd5.n hd5.c] 72)) := by rw [hnb]; exact heap_alloc_new wq14 _
          replace Y5 := Lib.hid (Y5.out.stay (w' := wq14.alloc (.cells #[.int .i64 (k : Int), .slice hd5.a hd5.n hd5.c] 72)) fun a ha => Lib.alloc_old _ _ _ (Y5.out.lt ha).2)
          rw [← hnb]
          clear hnb
          replace BD := Lib.hid (chain_alloc BD.out (.cells #[.int .i64 (k : Int), .slice hd5.a hd5.n hd5.c] 72))
          refine hK.out _ _ trivial (fun hHeld => ?_)
          clear hK K
          try simp only [Act.put, List.setIfInBounds_toArray, List.set_cons_zero, List.set_cons_succ]
          generalize wq14.alloc (.cells #[.int .i64 (k : Int), .slice hd5.a hd5.n hd5.c] 72) = wq16 at hHeld RW Y5 BD ⊢
          refine wpAnyH_ready (rs := [11]) (by kernel_rfl) (by simp) ?_
          refine AllReadyH.cons (by simp only [List.getElem?_toArray, List.getElem?_cons_zero, List.getElem?_cons_succ]; rfl) (fun K hK => ?_) ?_
          · skip
            have D5 : RDI B (Grow O w wq16) (dkTick d) g wq16 := ((D1.out.below (chain hd BD.out)).grown HLT.out HBB.out)
            have p5 : (dkTick d).p.length ≤ 100000 := by rw [(tick_len d).2]; exact HM.out.2
            obtain ⟨A6, n6, c6, wq17, run6, gc, gf, k6, d6⟩ := D5.push (l := l) (i := k) (nb := nb) Y5.out (fun a ha => Or.inr ⟨Nat.le_trans K1.out.1.size (Nat.le_trans hd.size (Y6.out a ha)), (Y5.out.lt ha).2⟩) ((BD.out.cell (p := ⟨g, 2, none⟩) lg).trans g2) RW.out p5 (Nat.le_trans S0.out (chain hd BD.out).size)
            refine step_append_run (by kernel_rfl) (.tmp 28) (.tmp 34) 59 59 (by kernel_rfl) vP (.slice (some ⟨nb, 0, none⟩) 1 1) (by kernel_rfl) (by kernel_rfl) (.slice A6 n6 c6) run6 ?_
            refine hK.out _ _ trivial (fun hHeld => ?_)
            clear hK K
            try simp only [Act.put, List.setIfInBounds_toArray, List.set_cons_zero, List.set_cons_succ]
            have GC := Lib.hid gc; have GF := Lib.hid gf; have K6 := Lib.hid k6; have D6 := Lib.hid d6
            have W6 := Lib.hid (chain hd BD.out)
            clear gc gf k6 d6 run6 D5 p5
            refine wpAnyH_take (i := 12) (v := ?vv3014) (by simp only [List.getElem?_toArray, List.getElem?_cons_zero, List.getElem?_cons_succ]; rfl) (by kernel_rfl) (by kernel_rfl) (by kernel_rfl) (fun _ _ _ h => h) (Or.inl ⟨by rfl, ?yy3014⟩) (by assumption) ?rr3014
            case yy3014 => (intro w hSw; (try dsimp only at hSw); go_simp; first | done | with_reducible rfl)
            simp only [Act.put, List.setIfInBounds_toArray, List.set_cons_zero, List.set_cons_succ]
            refine wpAnyH_take (i := 13) (v := ?vv3015) (by simp only [List.getElem?_toArray, List.getElem?_cons_zero, List.getElem?_cons_succ]; rfl) (by kernel_rfl) (by kernel_rfl) (by kernel_rfl) (fun _ _ _ h => h) (Or.inl ⟨by rfl, ?yy3015⟩) (by assumption) ?rr3015
            case yy3015 => (intro w hSw; (try dsimp only at hSw); go_simp; first | done | with_reducible rfl)
            simp only [Act.put, List.setIfInBounds_toArray, List.set_cons_zero, List.set_cons_succ]
            refine wpAnyH_ready (rs := [14]) (by kernel_rfl) (by simp) ?_
            refine AllReadyH.cons (by simp only [List.getElem?_toArray, List.getElem?_cons_zero, List.getElem?_cons_succ]; rfl) (fun K hK => ?_) ?_
            · skip
              have gc := GC.out
              have gf := GF.out
              go_simp
              refine hK.out _ _ trivial (fun hHeld => ?_)
              clear hK K gc gf
              try simp only [Act.put, List.setIfInBounds_toArray, List.set_cons_zero, List.set_cons_succ]
              refine wpAnyH_done (by kernel_rfl) ?_ _
              refine NoPanic.normal ?_
              clear hHeld
              have KW := Lib.hid (((K1.out.more HBB.out W6.out).next K6.out (fun b q => grow_old q)).set (j := 2) (Or.inl D1.out.own) (HLT.out g D1.out.own).1 (.slice A6 n6 c6))
              go_wp2_with fail
              go_ret
              rw [E.out]
              rw [tick_p] at D6
              exact ⟨rfl, D6.out.regrow2 HLT.out HBB.out (Nat.le_trans K1.out.1.size W6.out.size) K6.out.1.size (by rw [World.size_setCell]; exact Nat.le_refl _), KW.out⟩
            exact AllReadyH.nil
          exact AllReadyH.nil
        exact AllReadyH.nil
      refine AllReadyH.cons (by simp only [List.getElem?_toArray, List.getElem?_cons_zero, List.getElem?_cons_succ]; rfl) (fun K hK => ?_) ?_
      · skip
        go_simp
        clear hHeld
        obtain ⟨nb, hnb⟩ : ∃ b, b = wq14.heap.size := ⟨_, rfl⟩
        have RW : Hid ((wq14.alloc (.cells #[.int .i64 (k : Int), .slice hd5.a hd5.n hd5.c] 72)).heap[nb]? = some (.cells #[.int .i64 (k : Int), .slice hd5.a hd5.n hd5.c] 72)) := by rw [hnb]; exact heap_alloc_new wq14 _
        replace Y5 := Lib.hid (Y5.out.stay (w' := wq14.alloc (.cells #[.int .i64 (k : Int), .slice hd5.a hd5.n hd5.c] 72)) fun a ha => Lib.alloc_old _ _ _ (Y5.out.lt ha).2)
        rw [← hnb]
        clear hnb
        replace BD := Lib.hid (chain_alloc BD.out (.cells #[.int .i64 (k : Int), .slice hd5.a hd5.n hd5.c] 72))
        refine hK.out _ _ trivial (fun hHeld => ?_)
        clear hK K
        try simp only [Act.put, List.setIfInBounds_toArray, List.set_cons_zero, List.set_cons_succ]
        generalize wq14.alloc (.cells #[.int .i64 (k : Int), .slice hd5.a hd5.n hd5.c] 72) = wq19 at hHeld RW Y5 BD ⊢
        refine wpAnyH_ready (rs := [4]) (by kernel_rfl) (by simp) ?_
        refine AllReadyH.cons (by simp only [List.getElem?_toArray, List.getElem?_cons_zero, List.getElem?_cons_succ]; rfl) (fun K hK => ?_) ?_
        · skip
          have zc : wq19.cell? ⟨g, 2, none⟩ = some vP := (BD.out.cell (p := ⟨g, 2, none⟩) lg).trans g2
          go_simp
          clear zc
          clear hHeld
          refine hK.out _ _ trivial (fun hHeld => ?_)
          clear hK K
          try simp only [Act.put, List.setIfInBounds_toArray, List.set_cons_zero, List.set_cons_succ]
          refine wpAnyH_ready (rs := [11]) (by kernel_rfl) (by simp) ?_
          refine AllReadyH.cons (by simp only [List.getElem?_toArray, List.getElem?_cons_zero, List.getElem?_cons_succ]; rfl) (fun K hK => ?_) ?_
          · skip
            have D5 : RDI B (Grow O w wq19) (dkTick d) g wq19 := ((D1.out.below (chain hd BD.out)).grown HLT.out HBB.out)
            have p5 : (dkTick d).p.length ≤ 100000 := by rw [(tick_len d).2]; exact HM.out.2
            obtain ⟨A6, n6, c6, wq21, run6, gc, gf, k6, d6⟩ := D5.push (l := l) (i := k) (nb := nb) Y5.out (fun a ha => Or.inr ⟨Nat.le_trans K1.out.1.size (Nat.le_trans hd.size (Y6.out a ha)), (Y5.out.lt ha).2⟩) ((BD.out.cell (p := ⟨g, 2, none⟩) lg).trans g2) RW.out p5 (Nat.le_trans S0.out (chain hd BD.out).size)
            refine step_append_run (by kernel_rfl) (.tmp 28) (.tmp 34) 59 59 (by kernel_rfl) vP (.slice (some ⟨nb, 0, none⟩) 1 1) (by kernel_rfl) (by kernel_rfl) (.slice A6 n6 c6) run6 ?_
            refine hK.out _ _ trivial (fun hHeld => ?_)
            clear hK K
            try simp only [Act.put, List.setIfInBounds_toArray, List.set_cons_zero, List.set_cons_succ]
            have GC := Lib.hid gc; have GF := Lib.hid gf; have K6 := Lib.hid k6; have D6 := Lib.hid d6
            have W6 := Lib.hid (chain hd BD.out)
            clear gc gf k6 d6 run6 D5 p5
            refine wpAnyH_take (i := 12) (v := ?vv3016) (by simp only [List.getElem?_toArray, List.getElem?_cons_zero, List.getElem?_cons_succ]; rfl) (by kernel_rfl) (by kernel_rfl) (by kernel_rfl) (fun _ _ _ h => h) (Or.inl ⟨by rfl, ?yy3016⟩) (by assumption) ?rr3016
            case yy3016 => (intro w hSw; (try dsimp only at hSw); go_simp; first | done | with_reducible rfl)
            simp only [Act.put, List.setIfInBounds_toArray, List.set_cons_zero, List.set_cons_succ]
            refine wpAnyH_take (i := 13) (v := ?vv3017) (by simp only [List.getElem?_toArray, List.getElem?_cons_zero, List.getElem?_cons_succ]; rfl) (by kernel_rfl) (by kernel_rfl) (by kernel_rfl) (fun _ _ _ h => h) (Or.inl ⟨by rfl, ?yy3017⟩) (by assumption) ?rr3017
            case yy3017 => (intro w hSw; (try dsimp only at hSw); go_simp; first | done | with_reducible rfl)
            simp only [Act.put, List.setIfInBounds_toArray, List.set_cons_zero, List.set_cons_succ]
            refine wpAnyH_ready (rs := [14]) (by kernel_rfl) (by simp) ?_
            refine AllReadyH.cons (by simp only [List.getElem?_toArray, List.getElem?_cons_zero, List.getElem?_cons_succ]; rfl) (fun K hK => ?_) ?_
            · skip
              have gc := GC.out
              have gf := GF.out
              go_simp
              refine hK.out _ _ trivial (fun hHeld => ?_)
              clear hK K gc gf
              try simp only [Act.put, List.setIfInBounds_toArray, List.set_cons_zero, List.set_cons_succ]
              refine wpAnyH_done (by kernel_rfl) ?_ _
              refine NoPanic.normal ?_
              clear hHeld
              have KW := Lib.hid (((K1.out.more HBB.out W6.out).next K6.out (fun b q => grow_old q)).set (j := 2) (Or.inl D1.out.own) (HLT.out g D1.out.own).1 (.slice A6 n6 c6))
              go_wp2_with fail
              go_ret
              rw [E.out]
              rw [tick_p] at D6
              exact ⟨rfl, D6.out.regrow2 HLT.out HBB.out (Nat.le_trans K1.out.1.size W6.out.size) K6.out.1.size (by rw [World.size_setCell]; exact Nat.le_refl _), KW.out⟩
            exact AllReadyH.nil
          exact AllReadyH.nil
        exact AllReadyH.nil
      exact AllReadyH.nil
    exact AllReadyH.nil
  exact AllReadyH.nil

end Go.Proofs.Ytpdedeaejlkokaa
