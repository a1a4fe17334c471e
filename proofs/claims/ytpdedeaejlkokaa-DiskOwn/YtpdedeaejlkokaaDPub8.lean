/-
  What package disk answers: Write.
-/
import Derived.Test.YtpdedeaejlkokaaDPub7
namespace Go.Proofs.Ytpdedeaejlkokaa
open Go.RowKit

theorem fold_many : ∀ (vs : List Value) (o k : Nat) (cs : Array Value), (vs.zipIdx k).foldl (fun cs p => cs.setIfInBounds (o + p.2) p.1) cs = setMany cs (o + k) vs
  | [], _, _, _ => rfl
  | v :: r, o, k, cs => by
    rw [List.zipIdx_cons, List.foldl_cons, fold_many r o (k + 1), setMany]; rfl
theorem many_all {cs : Array Value} {vs : List Value} (h : cs.size = vs.length) : setMany cs 0 vs = vs.toArray := by
  apply Array.ext'
  rw [many_list _ _ _ (by omega), List.take_zero, List.nil_append, Nat.zero_add, List.drop_of_length_le (by rw [Array.length_toList]; omega), List.append_nil]
theorem fill_step {place : Nat → Option (Nat × Nat)} {cells : Array Value} {i off size : Nat} {v : Value} {rest : List (Nat × Value)} (h : place i = some (off, size)) (hv : v.cells.size = size) (ho : off + size ≤ cells.size) :
    Instr.fill place cells ((i, v) :: rest) = Instr.fill place (setMany cells off v.cells.toList) rest := by
  have e : v.cells.zipIdx.foldl (fun cs (p : Value × Nat) => cs.setIfInBounds (off + p.2) p.1) cells = setMany cells off v.cells.toList := by
    rw [← Array.foldl_toList, Array.toList_zipIdx]
    exact fold_many _ _ _ _
  rw [Instr.fill, h]
  dsimp only
  rw [if_neg (by rw [hv]; simp; omega), e]
theorem zeroW15 (w : World) : (zeroValue 69).run Try.prog w = .ok (.agg (#[.int .i64 0] ++ Array.replicate 64 (.int .u8 0))) w := (zero_of_info (n := 65) (by kernel_rfl)).1 w
theorem build15 (i : Int) (l : List UInt8) (w : World) : (Instr.build 69 #[(0, .int .i64 i), (1, .agg (scells l).toArray)]).run Try.prog w = .ok (.agg (Value.int .i64 i :: scells l).toArray) w := by
  have s1 : (sizeOf 3).run Try.prog w = .ok 1 w := by kernel_rfl
  have s2 : (sizeOf 67).run Try.prog w = .ok 64 w := by kernel_rfl
  obtain ⟨Z, hZ⟩ : ∃ Z : Array Value, Z = #[.int .i64 0] ++ Array.replicate 64 (.int .u8 0) := ⟨_, rfl⟩
  have zs : Z.size = 65 := by rw [hZ]; rfl
  have hz := zeroW15 w
  rw [← hZ] at hz
  have hf : Instr.fill (fun x => [(0, 1), (1, 64)][x]?) (Value.agg Z).cells [(0, Value.int IntKind.i64 i), (1, Value.agg (scells l).toArray)] = some (Value.int .i64 i :: scells l).toArray := by
    rw [fill_step (off := 0) (size := 1) rfl rfl (by show _ ≤ Z.size; omega), fill_step (off := 1) (size := 64) rfl (by show (scells l).toArray.size = 64; rw [List.size_toArray, scells_len]) (by rw [many_size]; show _ ≤ Z.size; omega), Instr.fill]
    congr 1
    apply Array.ext'
    rw [many_list _ _ _ (by rw [many_size]; show 1 + (scells l).length ≤ Z.size; rw [scells_len]; omega), many_list _ _ _ (by show 0 + 1 ≤ Z.size; omega)]
    have e : ∀ (t : List Value), t.length = 64 → List.take 1 (List.take 0 Z.toList ++ [Value.int .i64 i] ++ t) ++ scells l ++ List.drop (1 + (scells l).length) (List.take 0 Z.toList ++ [Value.int .i64 i] ++ t) = Value.int .i64 i :: scells l := fun t ht => by
      rw [List.take_zero, List.nil_append, List.drop_of_length_le (by rw [List.length_append, scells_len, ht]; exact Nat.le_refl _), List.append_nil]
      rfl
    exact e (Z.toList.drop (0 + 1)) (by rw [List.length_drop, Array.length_toList, zs])
  unfold Instr.build
  simp [Sem.run_bind, Result.andThen, hz, run_underlying Try.underlying69, s1, s2]
  simp [Value.cells] at hf
  simp [Value.cells, hf]
theorem slice15 (x : Nat × List UInt8) (w : World) : (Instr.buildSlice 55 1 #[(0, .agg (wcells x).toArray)]).run Try.prog w = .ok (.slice (some ⟨w.heap.size, 0, none⟩) 1 1) (w.alloc (.cells (wcells x).toArray 69)) := by
  have s1 : (sizeOf 69).run Try.prog w = .ok 65 w := by kernel_rfl
  obtain ⟨Z, hZ⟩ : ∃ Z : Array Value, Z = #[.int .i64 0] ++ Array.replicate 64 (.int .u8 0) := ⟨_, rfl⟩
  have zs : Z.size = 65 := by rw [hZ]; rfl
  have hz := zeroW15 w
  rw [← hZ] at hz
  have hf : ∀ Y : Array Value, Y.size = 65 → Instr.fill (fun i => some (i * 65, 65)) Y [(0, Value.agg (wcells x).toArray)] = some (wcells x).toArray := fun Y hY => by
    rw [fill_step (v := .agg (wcells x).toArray) (off := 0) (size := 65) rfl (wcells_size x) (by omega), Instr.fill]
    show some (setMany Y 0 (wcells x)) = _
    rw [many_all (by rw [hY, wcells_len])]
  unfold Instr.buildSlice
  simp [Sem.run_bind, Result.andThen, run_underlying Try.underlying55, s1, hz, hf]
  rfl
theorem arr15 (b o c : Nat) (w : World) : (Instr.arrayAt 67 (.slice (some ⟨b, o, none⟩) 64 c)).run Try.prog w = .ok (.pointer (some ⟨b, o, none⟩)) w := by
  unfold Instr.arrayAt
  simp [Sem.run_bind, Result.andThen, run_underlying sectT]
theorem Try.infoW15 : (Try.prog.info? 69).map (fun i => (i.zero, i.size, i.bytes)) = some (some (.agg (#[.int .i64 0] ++ Array.replicate 64 (.int .u8 0))), 65, 72) := by kernel_rfl
theorem yields_build {P : Program} {ops : Array Oper} {S : World → Prop} {op : Oper} {a : Act} (hw : Region.wanted op (yielded ops a.tmps) = true) (t : TypeId) (parts : Array (Nat × Operand)) (ho : op.op = .build t parts) (vs : Array (Nat × Value)) (hv : (parts.map fun (i, x) => (i, a.eval x)) = vs) (v : Value) (hrun : ∀ w, (Instr.build t vs).run P w = .ok v w) : YieldsIf P ops S op v a :=
  .inl ⟨hw, fun w _ => by
    unfold execOp
    simp only [ho]
    rw [hv]
    simp only [Sem.run_bind, hrun, Sem.run_pure, Result.andThen_ok]⟩
theorem wp_buildSlice_run {P : Program} {op : Oper} {a : Act} {w w' : World} {K : Act → World → Prop} {Q : Exit → Act → World → Prop} (t : TypeId) (n : Nat) (parts : Array (Nat × Operand)) (ho : op.op = .buildSlice t n parts) (vs : Array (Nat × Value)) (hv : (parts.map fun (i, x) => (i, a.eval x)) = vs) (v : Value) (hrun : (Instr.buildSlice t n vs).run P w = .ok v w')
    (h : K (a.put op.dst v) w') : op.wp P a w K Q := by
  unfold Oper.wp execOp
  simp only [ho]
  rw [hv]
  simp only [Sem.run_bind, hrun, Sem.run_pure, Result.andThen_ok]
  exact h
set_option maxRecDepth 100000 in
/-- A write more that is pending. -/
theorem DP.push {B : Nat} {O : Nat → Prop} {d : Dk} {g : Nat} {vP : Value} {w : World} (H : DP B O d g vP w) {x : Nat × List UInt8} (hx : x.1 < d.l.length) (hl : x.2.length = 64) {nb : Nat}
    (hn : w.heap[nb]? = some (.cells (wcells x).toArray 69 (0, 0))) (hp : d.p.length ≤ 100000) (hB : B ≤ w.heap.size) :
    ∃ A' n' c' w', (Builtin.append_ #[55, 55] 55 #[vP, .slice (some ⟨nb, 0, none⟩) 1 1]).run Try.prog w = .ok (.slice A' n' c') w' ∧ w'.cell? ⟨g, 1, none⟩ = some vP ∧ w'.frozen? ⟨g, 1, none⟩ = false ∧ Kept B O w w' ∧
      DP B (Grow O w w') { d with p := d.p ++ [x] } g (.slice A' n' c') (w'.setCell ⟨g, 1, none⟩ (.slice A' n' c')) := by
  obtain ⟨i0, hi, hz0, hz1, hz2⟩ := info_parts Try.infoW15
  obtain ⟨lt, hg, ⟨m, ok, hm⟩, vL, mb, q1, q2, q3, q4, q5, q6, q7⟩ := H
  obtain ⟨v', w', hrun, o2, gr, _, wh⟩ := run_append_own_at (P := Try.prog) w B 55 55 69 i0 (.agg (#[.int .i64 0] ++ Array.replicate 64 (.int .u8 0))) 65 72 Try.underlying55 hi hz0 hz1 hz2 rfl (by decide) vP d.p.length (d.p.flatMap wcells) q3 ⟨nb, 0, none⟩ 1 1 (wcells x) (wcells_len x)
    (fun j u hu => by
      rw [show (⟨nb, 0, none⟩ : Addr).add j = ⟨nb, j, none⟩ by unfold Addr.add; split <;> simp_all, Lib.cell_of_heap hn]
      simpa using hu)
    (wcells_one _) (by unfold maxLen; omega) (by omega) hB
  obtain ⟨A', c', rfl, _, _⟩ := own_rg (f := wcells) (xs := d.p ++ [x]) wcells_len (by decide) (by rw [List.flatMap_append]; simpa using o2)
  have hgl := (lt g hg).2
  obtain ⟨es, clock, hmb⟩ := q4.map
  have gk : ∀ b, b < w.heap.size → vP.ownBlock ≠ some b → w'.heap[b]? = w.heap[b]? := fun b h1 h2 => gr.block b h1 fun e => h2 e.symm
  have gg := gk g hgl fun e => own_ne_type q3 q1 (by decide) e.symm
  have hlb : ∀ b, vL.ownBlock = some b → w'.heap[b]? = w.heap[b]? := fun b e => gk b (q2.lt b e).2 fun e2 => own_two q2 q3 (by decide) e e2 rfl
  have hmk : w'.heap[mb]? = w.heap[mb]? := gk mb (lt mb q7).2 fun e2 => map_not q3 hmb mb e2 rfl
  have kept : Kept B O w w' := ⟨(Below.refl B w).grown gr hB fun k hk => (q3.lt k hk).1, fun b h1 h2 => gk b h1 fun e => h2 (q6 b e)⟩
  have q1' := gg.trans q1
  have ne : ∀ b, b ≠ g → (w'.setCell ⟨g, 1, none⟩ (.slice A' (d.p.length + 1) c')).heap[b]? = w'.heap[b]? := fun b hn => Below.heap_setCell _ _ _ _ hn
  have o2' : w'.ownsRow B 69 65 (.slice A' (d.p.length + 1) c') (d.p ++ [x]).length ((d.p ++ [x]).flatMap wcells) := by
    rw [List.length_append, List.flatMap_append]; simpa using o2
  have t4 : TM (w'.setCell ⟨g, 1, none⟩ (.slice A' (d.p.length + 1) c')) mb d.t := (q4.stay hmk).stay (ne mb fun e => by rw [e, q1] at hmb; cases hmb)
  refine ⟨A', d.p.length + 1, c', w', hrun, (pcell q1').2.1, Lib.frozen_of_heap q1' 1, kept, ⟨fun b q => ?_, Or.inl hg, ⟨m, ⟨ok.l, ok.t, ok.b, fun y hy => ?_, ok.f⟩, hm⟩, vL, mb, Lib.heap_setCell_same q1' _, own_apart (own_stay q2 hlb) q1' (by decide) ne, own_apart o2' q1' (by decide) ne, t4, fun b q => Or.inl (q5 b q), fun b q => ?_, Or.inl q7⟩⟩
  · rw [World.size_setCell]
    rcases q with q | q
    · exact ⟨(lt b q).1, Nat.lt_of_lt_of_le (lt b q).2 gr.size⟩
    · exact ⟨Nat.le_trans hB q.1, q.2⟩
  · rcases List.mem_append.1 hy with q | q
    · exact ok.p y q
    · rw [List.mem_singleton] at q
      subst q
      exact ⟨by rw [← ok.l]; exact hx, hl⟩
  · rcases wh with e | e
    · exact Or.inl (q6 b (by rw [← e]; exact q))
    · rw [q] at e
      obtain rfl := Option.some.inj e
      exact Or.inr ⟨Nat.le_refl _, (o2.lt _ q).2⟩
/-- What a write does that is done. -/
def dkPut (d : Dk) (i : Int) (l : List UInt8) : Dk × Int := if l.length ≠ 64 then (d, 1) else if dkIn d i = false then (d, 3) else ({ d with p := d.p ++ [(i.toNat, l)] }, 0)
theorem dk_write (d : Dk) (i : Int) (l : List UInt8) : dkWrite d i l = if d.f = 0 then (d, 42) else dkPut (dkTick d) i l := by
  have e : dkIn (dkTick d) i = dkIn d i := by unfold dkIn; rw [tick_l]
  unfold dkWrite dkPut
  rw [e, tick_p]

set_option maxHeartbeats 4000000 in
set_option maxRecDepth 100000 in
theorem cwrite15 (B : Nat) (O : Nat → Prop) (g bb bd bi : Nat) (d : Dk) (vP : Value) (i : Int) (A : Option Addr) (n c : Nat) (l : List UInt8) (w : World) (H : DP B O d g vP w) (hB : B ≤ w.heap.size) (hp : d.p.length ≤ 100000) (hr : Rg bcells w A l) (hn : n = l.length) (hA : 0 < l.length → ∀ a, A = some a → ¬ O a.block)
    (h1 : CB w bb 31 (.slice A n c)) (h2 : CB w bd 25 (.pointer (some ⟨g, 0, none⟩))) (h3 : CB w bi 3 (.int .i64 i)) (n1 : ¬ O bb) (n2 : ¬ O bd) (n3 : ¬ O bi) :
    Calls Try.prog 39 #[.pointer (some ⟨bb, 0, none⟩), .pointer (some ⟨bd, 0, none⟩), .pointer (some ⟨bi, 0, none⟩)] w fun e w' => e = .returned (.int .i64 (dkPut d i l).2) ∧ DI B (Grow O w w') (dkPut d i l).1 g w' ∧ Kept B O w w' := by
  have cb := h1.cell; have cd := h2.cell; have ci := h3.cell
  have HH := Lib.hid H; have HBB := Lib.hid hB; have RR := Lib.hid hr; have LN := Lib.hid hn; have NA := Lib.hid hA
  have C1 := Lib.hid h1; have C2 := Lib.hid h2; have C3 := Lib.hid h3; have N1 := Lib.hid n1; have N2 := Lib.hid n2; have N3 := Lib.hid n3
  clear H hB hr hn hA h1 h2 h3 n1 n2 n3
  by_cases n64 : n = 64
  case neg =>
    have b0 : ((n : Int) != 64) = true := by simp; omega
    have E : Hid (dkPut d i l = (d, 1)) := if_pos (by rw [← LN.out]; exact n64)
    clear n64
    go_enter Try.func39, Try.ntmps39
    go_wp2_with fail
    go_ret
    rw [E.out]
    exact ⟨rfl, ⟨_, HH.out.grown HH.out.lt HBB.out⟩, Kept.refl _ _ _⟩
  have b0 : ((n : Int) != 64) = false := by simp [n64]
  have L64 : Hid (l.length = 64) := LN.out.symm.trans n64
  have CH := Lib.hid (has15 B O g d vP i w HH.out)
  cases hin : dkIn d i with
  | false =>
    rw [hin] at CH
    have E : Hid (dkPut d i l = (d, 3)) := by show _ = _; unfold dkPut; rw [if_neg (fun q => q L64.out), if_pos hin]
    clear n64 hin
    go_enter Try.func39, Try.ntmps39
    go_wp2_with fail
    refine CH.out.mono ?_
    rintro e w1 ⟨rfl, rfl⟩
    go_wp2_with fail
    go_ret
    rw [E.out]
    exact ⟨rfl, ⟨_, HH.out.grown HH.out.lt HBB.out⟩, Kept.refl _ _ _⟩
  | true =>
    rw [hin] at CH
    have E : Hid (dkPut d i l = ({ d with p := d.p ++ [(i.toNat, l)] }, 0)) := by show _ = _; unfold dkPut; rw [if_neg (fun q => q L64.out), if_neg (by rw [hin]; decide)]
    have hin2 : 0 ≤ i ∧ i < (d.l.length : Int) := of_decide_eq_true hin
    have HI : Hid (i.toNat < d.l.length) := by show _ < _; omega
    have hi0 : ((i.toNat : Nat) : Int) = i := by omega
    have WC : Hid (Value.int .i64 i :: scells l = wcells (i.toNat, l)) := by show _ = _; rw [wcells, hi0]
    obtain ⟨bA, oA, hAe, lA, qA⟩ := RR.out (by have := L64.out; omega)
    have hAn := NA.out (by have := L64.out; omega) _ hAe
    subst hAe n64
    have RA : Hid (w.rangeAt bA oA (scells l)) := fun j v hj => qA j v (by rw [← scells_eq L64.out]; exact hj)
    have HA : Hid (bA < w.heap.size ∧ ¬ O bA) := ⟨lA, hAn⟩
    clear hin hin2 hi0 lA qA hAn RR NA
    go_enter Try.func39, Try.ntmps39
    go_wp2_with fail
    refine CH.out.mono ?_
    rintro e w1 ⟨rfl, rfl⟩
    go_wp2_with fail
    clear cb cd ci CH
    refine wp_region_noPanic ?_
    refine wp_region_held_drew (S := fun w' => Kept B O w.drew w') (by kernel_rfl) (Kept.refl _ _ _) (fun hHeld => ?_)
    have hd := below_drew w
    replace C1 := Lib.hid (C1.out.below hd); replace C2 := Lib.hid (C2.out.below hd); replace C3 := Lib.hid (C3.out.below hd)
    have HD := Lib.hid (HH.out.below hd)
    have K0 := Lib.hid (Kept.below (O := O) hd HBB.out)
    replace RA := Lib.hid (range_below RA.out HA.out.1 hd)
    replace HA := Lib.hid (And.intro (Nat.lt_of_lt_of_le HA.out.1 hd.size) HA.out.2)
    have HQ := Lib.hid (Nat.le_trans HBB.out hd.size)
    generalize w.drew = wq at hHeld C1 C2 C3 HD K0 RA HA HQ ⊢
    clear hd
    have HS : Hid (∀ w', Kept B O wq w' → w'.rangeAt bA oA (scells l)) := fun w' h => range_stay RA.out (h.2 bA HA.out.1 HA.out.2)
    have BD := build15 i l
    have AR := arr15 bA oA c
    have ck : wq.cell? ⟨g, 1, none⟩ = some vP := by
      obtain ⟨_, _, _, _, _, _, q1, _⟩ := HD.out.var
      exact (pcell q1).2.1
    have CK := Lib.hid ck
    clear ck hHeld
    have hHeld : Kept B O wq wq := Kept.refl _ _ _
    refine wpAnyH_take (i := 0) (v := ?vw1) (by simp only [List.getElem?_toArray, List.getElem?_cons_zero]; rfl) (by kernel_rfl) (by kernel_rfl) (by kernel_rfl) (fun _ _ _ h => h) (Or.inl ⟨by rfl, ?yw1⟩) (by assumption) ?rw1
    case yw1 => (intro w hSw; have cb := (C1.out.keep N1.out hSw).cell; have cd := (C2.out.keep N2.out hSw).cell; have ci := (C3.out.keep N3.out hSw).cell; (try dsimp only at hSw); go_simp; first | done | with_reducible rfl)
    simp only [Act.put, List.setIfInBounds_toArray, List.set_cons_zero, List.set_cons_succ]
    refine wpAnyH_take (i := 1) (v := ?vw2) (by simp only [List.getElem?_toArray, List.getElem?_cons_zero, List.getElem?_cons_succ]; rfl) (by kernel_rfl) (by kernel_rfl) (by kernel_rfl) (fun _ _ _ h => h) (Or.inl ⟨by rfl, ?yw2⟩) (by assumption) ?rw2
    case yw2 => (intro w hSw; have cb := (C1.out.keep N1.out hSw).cell; have cd := (C2.out.keep N2.out hSw).cell; have ci := (C3.out.keep N3.out hSw).cell; (try dsimp only at hSw); go_simp; first | done | with_reducible rfl)
    simp only [Act.put, List.setIfInBounds_toArray, List.set_cons_zero, List.set_cons_succ]
    refine wpAnyH_take (i := 2) (v := ?vw3) (by simp only [List.getElem?_toArray, List.getElem?_cons_zero, List.getElem?_cons_succ]; rfl) (by kernel_rfl) (by kernel_rfl) (by kernel_rfl) (fun _ _ _ h => h) (Or.inl ⟨by rfl, ?yw3⟩) (by assumption) ?rw3
    case yw3 => (intro w hSw; have cb := (C1.out.keep N1.out hSw).cell; have cd := (C2.out.keep N2.out hSw).cell; have ci := (C3.out.keep N3.out hSw).cell; (try dsimp only at hSw); go_simp; first | done | with_reducible rfl)
    simp only [Act.put, List.setIfInBounds_toArray, List.set_cons_zero, List.set_cons_succ]
    refine wpAnyH_take (i := 3) (v := ?vw4) (by simp only [List.getElem?_toArray, List.getElem?_cons_zero, List.getElem?_cons_succ]; rfl) (by kernel_rfl) (by kernel_rfl) (by kernel_rfl) (fun _ _ _ h => h) (Or.inl ⟨by rfl, ?yw4⟩) (by assumption) ?rw4
    case yw4 => (intro w hSw; have cb := (C1.out.keep N1.out hSw).cell; have cd := (C2.out.keep N2.out hSw).cell; have ci := (C3.out.keep N3.out hSw).cell; (try dsimp only at hSw); go_simp; first | done | with_reducible rfl)
    simp only [Act.put, List.setIfInBounds_toArray, List.set_cons_zero, List.set_cons_succ]
    refine wpAnyH_take (i := 5) (v := ?vw5) (by simp only [List.getElem?_toArray, List.getElem?_cons_zero, List.getElem?_cons_succ]; rfl) (by kernel_rfl) (by kernel_rfl) (by kernel_rfl) (fun _ _ _ h => h) (Or.inl ⟨by rfl, ?yw5⟩) (by assumption) ?rw5
    case yw5 => (intro w hSw; have cb := (C1.out.keep N1.out hSw).cell; have cd := (C2.out.keep N2.out hSw).cell; have ci := (C3.out.keep N3.out hSw).cell; (try dsimp only at hSw); go_simp; first | done | with_reducible rfl)
    simp only [Act.put, List.setIfInBounds_toArray, List.set_cons_zero, List.set_cons_succ]
    refine wpAnyH_take (i := 6) (v := ?vw6) (by simp only [List.getElem?_toArray, List.getElem?_cons_zero, List.getElem?_cons_succ]; rfl) (by kernel_rfl) (by kernel_rfl) (by kernel_rfl) (fun _ _ _ h => h) (Or.inl ⟨by rfl, ?yw6⟩) (by assumption) ?rw6
    case yw6 => (intro w hSw; have cb := (C1.out.keep N1.out hSw).cell; have cd := (C2.out.keep N2.out hSw).cell; have ci := (C3.out.keep N3.out hSw).cell; (try dsimp only at hSw); go_simp; first | done | with_reducible rfl)
    simp only [Act.put, List.setIfInBounds_toArray, List.set_cons_zero, List.set_cons_succ]
    refine wpAnyH_take (i := 7) (v := ?vw7) (by simp only [List.getElem?_toArray, List.getElem?_cons_zero, List.getElem?_cons_succ]; rfl) (by kernel_rfl) (by kernel_rfl) (by kernel_rfl) (fun _ _ _ h => h) (Or.inl ⟨by rfl, ?yw7⟩) (by assumption) ?rw7
    case yw7 => (intro w hSw; have cb := (C1.out.keep N1.out hSw).cell; have cd := (C2.out.keep N2.out hSw).cell; have ci := (C3.out.keep N3.out hSw).cell; (try dsimp only at hSw); go_simp; first | done | with_reducible rfl)
    simp only [Act.put, List.setIfInBounds_toArray, List.set_cons_zero, List.set_cons_succ]
    refine wpAnyH_take (i := 8) (v := .agg (scells l).toArray) (by simp only [List.getElem?_toArray, List.getElem?_cons_zero, List.getElem?_cons_succ]; rfl) (by kernel_rfl) (by kernel_rfl) (by kernel_rfl) (fun _ _ _ h => h) ?yw8 (by assumption) ?rw8
    case yw8 => exact yieldsIf_load_mid (by rfl) 67 _ rfl bA oA rfl (scells l) _ HS.out sectT rfl (sectL l)
    simp only [Act.put, List.setIfInBounds_toArray, List.set_cons_zero, List.set_cons_succ]
    refine wpAnyH_take (i := 9) (v := .agg (Value.int .i64 i :: scells l).toArray) (by simp only [List.getElem?_toArray, List.getElem?_cons_zero, List.getElem?_cons_succ]; rfl) (by kernel_rfl) (by kernel_rfl) (by kernel_rfl) (fun _ _ _ h => h) ?yw9 (by assumption) ?rw9
    case yw9 => exact yields_build (by rfl) 69 _ rfl #[(0, .int .i64 i), (1, .agg (scells l).toArray)] (by first | rfl | (simp; exact ⟨rfl, rfl⟩)) _ BD
    simp only [Act.put, List.setIfInBounds_toArray, List.set_cons_zero, List.set_cons_succ]
    have SL := slice15 (i.toNat, l)
    rw [← WC.out] at SL
    have HPL := Lib.hid hp
    refine wpAnyH_ready (rs := [4, 10]) (by kernel_rfl) (by simp) ?_
    refine AllReadyH.cons (by simp only [List.getElem?_toArray, List.getElem?_cons_zero, List.getElem?_cons_succ]; rfl) (fun K hK => ?_) (AllReadyH.cons (by simp only [List.getElem?_toArray, List.getElem?_cons_zero, List.getElem?_cons_succ]; rfl) (fun K hK => ?_) AllReadyH.nil)
    · have ck := CK.out
      go_simp
      refine hK.out _ _ hHeld (fun hHeld => ?_)
      clear hK K ck hHeld
      try simp only [Act.put, List.setIfInBounds_toArray, List.set_cons_zero, List.set_cons_succ]

      refine wpAnyH_ready (rs := [10]) (by kernel_rfl) (by simp) ?_
      refine AllReadyH.cons (by simp only [List.getElem?_toArray, List.getElem?_cons_zero, List.getElem?_cons_succ]; rfl) (fun K hK => ?_) AllReadyH.nil
      obtain ⟨nb, hnb⟩ : ∃ nb, nb = wq.heap.size := ⟨_, rfl⟩
      have SL2 := SL wq
      rw [← hnb] at SL2
      refine wp_buildSlice_run 55 1 _ rfl #[(0, .agg (Value.int .i64 i :: scells l).toArray)] (by first | rfl | (simp; rfl)) _ SL2 ?_
      have HNB : Hid ((wq.alloc (.cells (Value.int .i64 i :: scells l).toArray 69)).heap[nb]? = some (.cells (wcells (i.toNat, l)).toArray 69 (0, 0))) := by show _ = _; rw [hnb, ← WC.out]; exact heap_alloc_new wq _
      have BA := chain_alloc (Below.refl _ wq) (.cells (Value.int .i64 i :: scells l).toArray 69)
      have HP := Lib.hid (HD.out.below BA)
      have KX := Lib.hid (Kept.below (O := O) BA HQ.out)
      have HQ5 := Lib.hid (Nat.le_trans HQ.out BA.size)
      refine hK.out _ _ KX.out (fun hHeld => ?_)
      clear hK K SL2 BA hnb hHeld
      try simp only [Act.put, List.setIfInBounds_toArray, List.set_cons_zero, List.set_cons_succ]

      generalize wq.alloc (.cells (Value.int .i64 i :: scells l).toArray 69) = wx at HNB HP KX HQ5 ⊢
      refine wpAnyH_ready (rs := [11]) (by kernel_rfl) (by simp) ?_
      refine AllReadyH.cons (by simp only [List.getElem?_toArray, List.getElem?_cons_zero, List.getElem?_cons_succ]; rfl) (fun K hK => ?_) AllReadyH.nil
      obtain ⟨A', n', c', w5, hap, ck5, fr5, hk5, D5⟩ := HP.out.push HI.out L64.out HNB.out HPL.out HQ5.out
      have K5 := Lib.hid (KX.out.next hk5 fun b q => Or.inl q)
      have D6 := Lib.hid D5
      have LK := Lib.hid HP.out.own
      have LG := Lib.hid HP.out.lt
      clear D5
      refine step_append_run (by kernel_rfl) (.tmp 15) (.tmp 21) 55 55 (by kernel_rfl) vP (.slice (some ⟨nb, 0, none⟩) 1 1) (by kernel_rfl) (by kernel_rfl) (.slice A' n' c') hap ?_
      refine hK.out _ _ K5.out (fun hHeld => ?_)
      clear hK K hap
      try simp only [Act.put, List.setIfInBounds_toArray, List.set_cons_zero, List.set_cons_succ]
      refine wpAnyH_take (i := 12) (v := ?vw10) (by simp only [List.getElem?_toArray, List.getElem?_cons_zero, List.getElem?_cons_succ]; rfl) (by kernel_rfl) (by kernel_rfl) (by kernel_rfl) (fun _ _ _ h => h) (Or.inl ⟨by rfl, ?yw10⟩) (by assumption) ?rw10
      case yw10 => (intro w hSw; (try dsimp only at hSw); go_simp; first | done | with_reducible rfl)
      simp only [Act.put, List.setIfInBounds_toArray, List.set_cons_zero, List.set_cons_succ]
      refine wpAnyH_take (i := 13) (v := ?vw11) (by simp only [List.getElem?_toArray, List.getElem?_cons_zero, List.getElem?_cons_succ]; rfl) (by kernel_rfl) (by kernel_rfl) (by kernel_rfl) (fun _ _ _ h => h) (Or.inl ⟨by rfl, ?yw11⟩) (by assumption) ?rw11
      case yw11 => (intro w hSw; (try dsimp only at hSw); go_simp; first | done | with_reducible rfl)
      simp only [Act.put, List.setIfInBounds_toArray, List.set_cons_zero, List.set_cons_succ]
      refine wpAnyH_ready (rs := [14]) (by kernel_rfl) (by simp) ?_
      refine AllReadyH.cons (by simp only [List.getElem?_toArray, List.getElem?_cons_zero, List.getElem?_cons_succ]; rfl) (fun K hK => ?_) AllReadyH.nil
      go_simp
      refine hK.out _ _ (K5.out.set (Or.inl LK.out) (LG.out g LK.out).1 _) (fun hHeld => ?_)
      clear hK K
      try simp only [Act.put, List.setIfInBounds_toArray, List.set_cons_zero, List.set_cons_succ]
      refine wpAnyH_done (by kernel_rfl) ?_ _
      refine NoPanic.normal ?_
      clear hHeld
      have K6 := Lib.hid (K0.out.next (K5.out.set (j := 1) (Or.inl LK.out) (LG.out g LK.out).1 (.slice A' n' c')) fun b q => Or.inl q)
      have Z5 := Lib.hid hk5.1.size
      clear ck5 fr5 hk5
      generalize w5.setCell ⟨g, 1, none⟩ (.slice A' n' c') = w6 at D6 K6 ⊢
      go_wp2_with fail
      go_ret
      rw [E.out]
      refine ⟨rfl, ⟨_, D6.out.grow (fun b q => ?_) (fun b q => ?_)⟩, K6.out⟩
      · rcases q with q | q
        · exact Or.inl q
        · exact Or.inr ⟨Nat.le_trans (Nat.le_trans K0.out.1.size KX.out.1.size) q.1, (D6.out.lt b (Or.inr q)).2⟩
      · rcases q with q | q
        · exact D6.out.lt b (Or.inl q)
        · exact ⟨Nat.le_trans HBB.out q.1, q.2⟩
    · obtain ⟨nb, hnb⟩ : ∃ nb, nb = wq.heap.size := ⟨_, rfl⟩
      have SL2 := SL wq
      rw [← hnb] at SL2
      refine wp_buildSlice_run 55 1 _ rfl #[(0, .agg (Value.int .i64 i :: scells l).toArray)] (by first | rfl | (simp; rfl)) _ SL2 ?_
      have HNB : Hid ((wq.alloc (.cells (Value.int .i64 i :: scells l).toArray 69)).heap[nb]? = some (.cells (wcells (i.toNat, l)).toArray 69 (0, 0))) := by show _ = _; rw [hnb, ← WC.out]; exact heap_alloc_new wq _
      have BA := chain_alloc (Below.refl _ wq) (.cells (Value.int .i64 i :: scells l).toArray 69)
      have HP := Lib.hid (HD.out.below BA)
      have KX := Lib.hid (Kept.below (O := O) BA HQ.out)
      have HQ5 := Lib.hid (Nat.le_trans HQ.out BA.size)
      refine hK.out _ _ KX.out (fun hHeld => ?_)
      clear hK K SL2 BA hnb hHeld
      try simp only [Act.put, List.setIfInBounds_toArray, List.set_cons_zero, List.set_cons_succ]

      generalize wq.alloc (.cells (Value.int .i64 i :: scells l).toArray 69) = wx at HNB HP KX HQ5 ⊢
      refine wpAnyH_ready (rs := [4]) (by kernel_rfl) (by simp) ?_
      refine AllReadyH.cons (by simp only [List.getElem?_toArray, List.getElem?_cons_zero, List.getElem?_cons_succ]; rfl) (fun K hK => ?_) AllReadyH.nil
      have ck : wx.cell? ⟨g, 1, none⟩ = some vP := by
        obtain ⟨_, _, _, _, _, _, q1, _⟩ := HP.out.var
        exact (pcell q1).2.1
      go_simp
      refine hK.out _ _ KX.out (fun hHeld => ?_)
      clear hK K ck hHeld
      try simp only [Act.put, List.setIfInBounds_toArray, List.set_cons_zero, List.set_cons_succ]

      refine wpAnyH_ready (rs := [11]) (by kernel_rfl) (by simp) ?_
      refine AllReadyH.cons (by simp only [List.getElem?_toArray, List.getElem?_cons_zero, List.getElem?_cons_succ]; rfl) (fun K hK => ?_) AllReadyH.nil
      obtain ⟨A', n', c', w5, hap, ck5, fr5, hk5, D5⟩ := HP.out.push HI.out L64.out HNB.out HPL.out HQ5.out
      have K5 := Lib.hid (KX.out.next hk5 fun b q => Or.inl q)
      have D6 := Lib.hid D5
      have LK := Lib.hid HP.out.own
      have LG := Lib.hid HP.out.lt
      clear D5
      refine step_append_run (by kernel_rfl) (.tmp 15) (.tmp 21) 55 55 (by kernel_rfl) vP (.slice (some ⟨nb, 0, none⟩) 1 1) (by kernel_rfl) (by kernel_rfl) (.slice A' n' c') hap ?_
      refine hK.out _ _ K5.out (fun hHeld => ?_)
      clear hK K hap
      try simp only [Act.put, List.setIfInBounds_toArray, List.set_cons_zero, List.set_cons_succ]
      refine wpAnyH_take (i := 12) (v := ?vw12) (by simp only [List.getElem?_toArray, List.getElem?_cons_zero, List.getElem?_cons_succ]; rfl) (by kernel_rfl) (by kernel_rfl) (by kernel_rfl) (fun _ _ _ h => h) (Or.inl ⟨by rfl, ?yw12⟩) (by assumption) ?rw12
      case yw12 => (intro w hSw; (try dsimp only at hSw); go_simp; first | done | with_reducible rfl)
      simp only [Act.put, List.setIfInBounds_toArray, List.set_cons_zero, List.set_cons_succ]
      refine wpAnyH_take (i := 13) (v := ?vw13) (by simp only [List.getElem?_toArray, List.getElem?_cons_zero, List.getElem?_cons_succ]; rfl) (by kernel_rfl) (by kernel_rfl) (by kernel_rfl) (fun _ _ _ h => h) (Or.inl ⟨by rfl, ?yw13⟩) (by assumption) ?rw13
      case yw13 => (intro w hSw; (try dsimp only at hSw); go_simp; first | done | with_reducible rfl)
      simp only [Act.put, List.setIfInBounds_toArray, List.set_cons_zero, List.set_cons_succ]
      refine wpAnyH_ready (rs := [14]) (by kernel_rfl) (by simp) ?_
      refine AllReadyH.cons (by simp only [List.getElem?_toArray, List.getElem?_cons_zero, List.getElem?_cons_succ]; rfl) (fun K hK => ?_) AllReadyH.nil
      go_simp
      refine hK.out _ _ (K5.out.set (Or.inl LK.out) (LG.out g LK.out).1 _) (fun hHeld => ?_)
      clear hK K
      try simp only [Act.put, List.setIfInBounds_toArray, List.set_cons_zero, List.set_cons_succ]
      refine wpAnyH_done (by kernel_rfl) ?_ _
      refine NoPanic.normal ?_
      clear hHeld
      have K6 := Lib.hid (K0.out.next (K5.out.set (j := 1) (Or.inl LK.out) (LG.out g LK.out).1 (.slice A' n' c')) fun b q => Or.inl q)
      have Z5 := Lib.hid hk5.1.size
      clear ck5 fr5 hk5
      generalize w5.setCell ⟨g, 1, none⟩ (.slice A' n' c') = w6 at D6 K6 ⊢
      go_wp2_with fail
      go_ret
      rw [E.out]
      refine ⟨rfl, ⟨_, D6.out.grow (fun b q => ?_) (fun b q => ?_)⟩, K6.out⟩
      · rcases q with q | q
        · exact Or.inl q
        · exact Or.inr ⟨Nat.le_trans (Nat.le_trans K0.out.1.size KX.out.1.size) q.1, (D6.out.lt b (Or.inr q)).2⟩
      · rcases q with q | q
        · exact D6.out.lt b (Or.inl q)
        · exact ⟨Nat.le_trans HBB.out q.1, q.2⟩

set_option maxHeartbeats 2000000 in
set_option maxRecDepth 100000 in
theorem write15 (B : Nat) (O : Nat → Prop) (g : Nat) (d : Dk) (i : Int) (A : Option Addr) (n c : Nat) (l : List UInt8) (w : World) (H : DI B O d g w) (hB : B ≤ w.heap.size) (hr : Rg bcells w A l) (hn : n = l.length) (hA : 0 < l.length → ∀ a, A = some a → ¬ O a.block) (hm : d.l.length ≤ 5000 ∧ d.p.length ≤ 100000) (hf : -1 ≤ d.f ∧ d.f ≤ 9223372036854775807) :
    Calls Try.prog 23 #[.pointer (some ⟨g, 0, none⟩), .int .i64 i, .slice A n c] w (DTo B O g (dkWrite d i l).1 (.int .i64 (dkWrite d i l).2) w) := by
  obtain ⟨vP, H⟩ := H
  have HLT := Lib.hid H.lt; have HBB := Lib.hid hB
  obtain ⟨o1, ho1⟩ : ∃ o, o = Obj.cells #[.pointer (some ⟨g, 0, none⟩)] 25 := ⟨_, rfl⟩
  obtain ⟨o2, ho2⟩ : ∃ o, o = Obj.cells #[.int .i64 i] 3 := ⟨_, rfl⟩
  obtain ⟨o3, ho3⟩ : ∃ o, o = Obj.cells #[.slice A n c] 31 := ⟨_, rfl⟩
  have s1 : (w.alloc o1).heap.size = w.heap.size + 1 := by simp
  have s2 : ((w.alloc o1).alloc o2).heap.size = w.heap.size + 2 := by simp
  have s3 : (((w.alloc o1).alloc o2).alloc o3).heap.size = w.heap.size + 3 := by simp
  have BA : Below w.heap.size w (((w.alloc o1).alloc o2).alloc o3) := chain_alloc (chain_alloc (chain_alloc (Below.refl _ w) o1) o2) o3
  have C1 : CB (((w.alloc o1).alloc o2).alloc o3) w.heap.size 25 (.pointer (some ⟨g, 0, none⟩)) := by
    have a : CB (w.alloc o1) w.heap.size 25 (.pointer (some ⟨g, 0, none⟩)) := by rw [ho1]; exact heap_alloc_new w _
    exact (a.below (chain_alloc (Below.refl _ _) o2)).below (chain_alloc (Below.refl _ _) o3)
  have C2 : CB (((w.alloc o1).alloc o2).alloc o3) (w.heap.size + 1) 3 (.int .i64 i) := by
    have a : CB ((w.alloc o1).alloc o2) (w.heap.size + 1) 3 (.int .i64 i) := by rw [← s1, ho2]; exact heap_alloc_new _ _
    exact a.below (chain_alloc (Below.refl _ _) o3)
  have C3 : CB (((w.alloc o1).alloc o2).alloc o3) (w.heap.size + 2) 31 (.slice A n c) := by rw [← s2, ho3]; exact heap_alloc_new _ _
  have NO : ∀ j, ¬ O (w.heap.size + j) := fun j q => by have := (H.lt _ q).2; omega
  have D1 := H.below BA
  have K1 := Lib.hid (Kept.below (O := O) BA hB)
  have cb := C1.cell
  have hB3 : B ≤ (((w.alloc o1).alloc o2).alloc o3).heap.size := by rw [s3]; omega
  have CL := Lib.hid (call15 B O g d vP 39 #[.pointer (some ⟨w.heap.size + 2, 0, none⟩), .pointer (some ⟨w.heap.size, 0, none⟩), .pointer (some ⟨w.heap.size + 1, 0, none⟩)] (((w.alloc o1).alloc o2).alloc o3) (fun e w' => e = .returned (.int .i64 (dkWrite d i l).2) ∧ DI B (Grow O w w') (dkWrite d i l).1 g w' ∧ Kept B O w w') D1 hf.2 (by intro args w; go_simp)
    (fun f0 => by
      rw [dk_write, if_pos f0]
      exact ⟨rfl, ⟨_, D1.grown HLT.out HBB.out⟩, K1.out⟩)
    (fun f0 w2 h1 h2 h3 => by
      refine (cwrite15 B O g (w.heap.size + 2) w.heap.size (w.heap.size + 1) (dkTick d) vP i A n c l w2 h1 (Nat.le_trans hB3 h2.1.size) (by rw [tick_p]; exact hm.2) ((hr.below BA).keptO h2 hA) hn hA (C3.keep (NO 2) h2) (C1.keep (NO 0) h2) (C2.keep (NO 1) h2) (NO 2) (NO 0) (NO 1)).mono ?_
      rintro e w3 ⟨rfl, h4, h5⟩
      rw [dk_write, if_neg f0]
      have K3 := (K1.out.next h2 fun b q => Or.inl q).next h5 fun b q => Or.inl q
      refine ⟨_, rfl, rfl, h4.grow (fun b q => ?_) (fun b q => ?_), K3⟩
      · rcases q with q | q
        · exact Or.inl q
        · exact Or.inr ⟨Nat.le_trans (Nat.le_trans BA.size h2.1.size) q.1, q.2⟩
      · rcases q with q | q
        · exact ⟨(HLT.out b q).1, Nat.lt_of_lt_of_le (HLT.out b q).2 K3.1.size⟩
        · exact ⟨Nat.le_trans HBB.out q.1, q.2⟩))
  have hmf := hmf15
  clear H hB hr hn hA hm hf D1 C1 C2 C3 NO BA hB3
  subst ho1 ho2 ho3
  go_enter Try.func23, Try.ntmps23
  go_wp2_with fail
  refine CL.out.mono ?_
  rintro e w5 ⟨⟨rfl, h1, h2⟩, _⟩
  have D5 := Lib.hid h1; have K5 := Lib.hid h2
  clear h1 h2
  go_wp2_with fail
  go_ret
  exact ⟨rfl, D5.out, K5.out⟩

end Go.Proofs.Ytpdedeaejlkokaa
