/-
  What package disk answers: bytes, lay.
-/
import Derived.Test.YtpdedeaejlkokaaDPub3
namespace Go.Proofs.Ytpdedeaejlkokaa
open Go.RowKit

theorem sectT : Try.prog.underlying 67 = some (.array 64 5) := by kernel_rfl
theorem sectI : (Try.prog.info? 67).map (·.size) = some 64 := by kernel_rfl
theorem writeI : (Try.prog.info? 69).map (·.size) = some 65 := by kernel_rfl
theorem writeT : ∃ d, Try.prog.underlying 69 = some d ∧ d.isRow = true := by
  have h : (Try.prog.underlying 69).map TypeDesc.isRow = some true := by kernel_rfl
  cases e : Try.prog.underlying 69 with
  | none => rw [e] at h; cases h
  | some d => rw [e] at h; exact ⟨d, rfl, Option.some.inj h⟩
theorem sectL (l : List UInt8) : (Try.prog.info? 67).map (·.size) = some (scells l).length := by rw [sectI, scells_len]
theorem sectA (l : List UInt8) : (Try.prog.info? 67).map (·.size) = some (scells l).toArray.size := by rw [sectI, List.size_toArray, scells_len]
theorem sect_slice (g : Nat) (w : World) : (Instr.sliceAt 67 (.pointer (some ⟨g, 0, none⟩)) none none none).run Try.prog w = .ok (.slice (some ⟨g, 0, none⟩) 64 64) w := by
  have es : (sizeOf 5).run Try.prog w = .ok 1 w := by kernel_rfl
  simp [Instr.sliceAt, Instr.sureAddr, Instr.sliceBounds, run_underlying sectT, es, Sem.run_bind, Result.andThen, Addr.add]
theorem bytes15 (C : Array Value) (w : World) : Calls Try.prog 32 #[.agg C] w fun e w' => e = .returned (.slice (some ⟨w.heap.size, 0, none⟩) 64 64) ∧ w' = w.alloc (.cells C 67) := by
  have hs := sect_slice w.heap.size (w.alloc (.cells C 67))
  go_enter Try.func32, Try.ntmps32
  go_wp2_with fail
  go_ret
  exact ⟨rfl, rfl⟩

theorem cell_out {w : World} {g j b o : Nat} {vs : List Value} (h : g ≠ b) : (w.setCells b o vs).cell? ⟨g, j, none⟩ = w.cell? ⟨g, j, none⟩ := World.cell?_of_block (sets_other h vs o w)
set_option maxHeartbeats 2000000 in
set_option maxRecDepth 100000 in
theorem lay15 (B : Nat) (O : Nat → Prop) (g : Nat) (d : Dk) (vP : Value) (i : Nat) (l : List UInt8) (C : Array Value) (w : World) (H : DP B O d g vP w) (hB : B ≤ w.heap.size) (hi : i < d.l.length) (hl : l.length = 64) (hC : C = (wcells (i, l)).toArray) :
    Calls Try.prog 37 #[.pointer (some ⟨g, 0, none⟩), .agg C] w fun e w' => e = .returned (.tuple #[]) ∧ DP B O (dkLay d (i, l)) g vP w' ∧ Kept B O w w' := by
  obtain ⟨n, hn⟩ : ∃ n, n = d.l.length := ⟨_, rfl⟩
  have HH := Lib.hid H; have HBB := Lib.hid hB; have HL := Lib.hid hl; have HI := Lib.hid hi; have HN := Lib.hid hn
  have tb := heap_alloc_new w (.cells C 69)
  have BA := chain_alloc (Below.refl _ w) (.cells C 69)
  have i1 : (i : Int) < (n : Int) := by omega
  have i0 : (0 : Int) ≤ (i : Int) := Int.natCast_nonneg _
  have HC := Lib.hid hC
  clear H hB hl hi hn hC
  go_enter Try.func37, Try.ntmps37
  go_wp2_with fail
  obtain ⟨bt, hbt⟩ : ∃ bt, bt = w.heap.size := ⟨_, rfl⟩
  rw [← hbt] at tb ⊢
  generalize w.alloc (.cells C 69) = w1 at BA tb ⊢
  have hr1 : w1.rangeAt bt 0 (wcells (i, l)) := fun j v hv => by
    rw [Lib.cell_of_heap tb, HC.out, Nat.zero_add]
    simpa using hv
  obtain ⟨t0, t1⟩ := range_tail hr1
  have D1 := Lib.hid (HH.out.below BA)
  have K1 := Lib.hid (Kept.below (O := O) BA HBB.out)
  have BL : Hid (bt < w1.heap.size ∧ ¬ O bt) := ⟨(Array.getElem?_eq_some_iff.1 tb).1, fun q => by have := (HH.out.lt bt q).2; omega⟩
  obtain ⟨bL, cL, g0, oL, neL, rL, thL⟩ := D1.out.L HI.out
  rw [← HN.out] at g0
  have lg := (D1.out.lt g D1.out.own).2
  have lL := (D1.out.lt bL oL).2
  have OL := Lib.hid oL; have NL := Lib.hid neL
  clear hbt tb BA hr1 rL oL neL HH
  refine wp_region_noPanic ?_
  refine wp_region_held_drew (S := fun w' => w'.cell? ⟨g, 0, none⟩ = some (.slice (some ⟨bL, 0, none⟩) n cL) ∧ w'.cell? ⟨bt, 0, none⟩ = some (.int .i64 (i : Int)) ∧ w'.rangeAt bt 1 (scells l)) (by kernel_rfl) ⟨g0, t0, t1⟩ (fun hHeld => ?_)
  have hd := below_drew w1
  replace g0 := (hd.cell (p := ⟨g, 0, none⟩) lg).trans g0
  replace t0 := (hd.cell (p := ⟨bt, 0, none⟩) BL.out.1).trans t0
  replace t1 := range_below t1 BL.out.1 hd
  replace thL := there_stay thL lL hd
  replace lL := Nat.lt_of_lt_of_le lL hd.size
  have G1 := Lib.hid g0
  replace D1 := Lib.hid (D1.out.below hd)
  replace BL := Lib.hid (And.intro (Nat.lt_of_lt_of_le BL.out.1 hd.size) BL.out.2)
  replace K1 := Lib.hid (K1.out.more HBB.out hd)
  generalize w1.drew = wq at hHeld g0 t0 t1 thL lL D1 BL K1 G1 ⊢
  clear hd lg
  refine wpAnyH_take (i := 0) (v := ?vw1) (by simp only [List.getElem?_toArray, List.getElem?_cons_zero]; rfl) (by kernel_rfl) (by kernel_rfl) (by kernel_rfl) (fun _ _ _ h => h) (Or.inl ⟨by rfl, ?yw1⟩) (by assumption) ?rw1
  case yw1 => (intro w hSw; (try dsimp only at hSw); go_simp; first | done | with_reducible rfl)
  simp only [Act.put, List.setIfInBounds_toArray, List.set_cons_zero, List.set_cons_succ]
  refine wpAnyH_take (i := 1) (v := ?vw2) (by simp only [List.getElem?_toArray, List.getElem?_cons_zero, List.getElem?_cons_succ]; rfl) (by kernel_rfl) (by kernel_rfl) (by kernel_rfl) (fun _ _ _ h => h) (Or.inl ⟨by rfl, ?yw2⟩) (by assumption) ?rw2
  case yw2 => (intro w hSw; (try dsimp only at hSw); go_simp; first | done | with_reducible rfl)
  simp only [Act.put, List.setIfInBounds_toArray, List.set_cons_zero, List.set_cons_succ]
  refine wpAnyH_take (i := 2) (v := ?vw3) (by simp only [List.getElem?_toArray, List.getElem?_cons_zero, List.getElem?_cons_succ]; rfl) (by kernel_rfl) (by kernel_rfl) (by kernel_rfl) (fun _ _ _ h => h) (Or.inl ⟨by rfl, ?yw3⟩) (by assumption) ?rw3
  case yw3 => (intro w hSw; (try dsimp only at hSw); go_simp; first | done | with_reducible rfl)
  simp only [Act.put, List.setIfInBounds_toArray, List.set_cons_zero, List.set_cons_succ]
  refine wpAnyH_take (i := 3) (v := ?vw4) (by simp only [List.getElem?_toArray, List.getElem?_cons_zero, List.getElem?_cons_succ]; rfl) (by kernel_rfl) (by kernel_rfl) (by kernel_rfl) (fun _ _ _ h => h) (Or.inl ⟨by rfl, ?yw4⟩) (by assumption) ?rw4
  case yw4 => (intro w hSw; (try dsimp only at hSw); go_simp; first | done | with_reducible rfl)
  simp only [Act.put, List.setIfInBounds_toArray, List.set_cons_zero, List.set_cons_succ]
  refine wpAnyH_take (i := 4) (v := ?vw5) (by simp only [List.getElem?_toArray, List.getElem?_cons_zero, List.getElem?_cons_succ]; rfl) (by kernel_rfl) (by kernel_rfl) (by kernel_rfl) (fun _ _ _ h => h) (Or.inl ⟨by rfl, ?yw5⟩) (by assumption) ?rw5
  case yw5 => (intro w hSw; (try dsimp only at hSw); go_simp; first | done | with_reducible rfl)
  simp only [Act.put, List.setIfInBounds_toArray, List.set_cons_zero, List.set_cons_succ]
  refine wpAnyH_take (i := 5) (v := ?vw6) (by simp only [List.getElem?_toArray, List.getElem?_cons_zero, List.getElem?_cons_succ]; rfl) (by kernel_rfl) (by kernel_rfl) (by kernel_rfl) (fun _ _ _ h => h) (Or.inl ⟨by rfl, ?yw6⟩) (by assumption) ?rw6
  case yw6 => (intro w hSw; (try dsimp only at hSw); go_simp; first | done | with_reducible rfl)
  simp only [Act.put, List.setIfInBounds_toArray, List.set_cons_zero, List.set_cons_succ]
  refine wpAnyH_take (i := 6) (v := ?vw7) (by simp only [List.getElem?_toArray, List.getElem?_cons_zero, List.getElem?_cons_succ]; rfl) (by kernel_rfl) (by kernel_rfl) (by kernel_rfl) (fun _ _ _ h => h) (Or.inl ⟨by rfl, ?yw7⟩) (by assumption) ?rw7
  case yw7 => (intro w hSw; (try dsimp only at hSw); go_simp; first | done | with_reducible rfl)
  simp only [Act.put, List.setIfInBounds_toArray, List.set_cons_zero, List.set_cons_succ]
  refine wpAnyH_take (i := 7) (v := .agg (scells l).toArray) (by simp only [List.getElem?_toArray, List.getElem?_cons_zero, List.getElem?_cons_succ]; rfl) (by kernel_rfl) (by kernel_rfl) (by kernel_rfl) (fun _ _ _ h => h) ?yw8 (by assumption) ?rw8
  case yw8 => exact yieldsIf_load_mid (by rfl) 67 _ rfl bt 1 rfl (scells l) _ (fun _ h => h.2.2) sectT rfl (sectL l)
  simp only [Act.put, List.setIfInBounds_toArray, List.set_cons_zero, List.set_cons_succ]
  refine wpAnyH_take (i := 8) (v := ?vw9) (by simp only [List.getElem?_toArray, List.getElem?_cons_zero, List.getElem?_cons_succ]; rfl) (by kernel_rfl) (by kernel_rfl) (by kernel_rfl) (fun _ _ _ h => h) (Or.inl ⟨by rfl, ?yw9⟩) (by assumption) ?rw9
  case yw9 => (intro w hSw; (try dsimp only at hSw); go_simp; first | done | with_reducible rfl)
  simp only [Act.put, List.setIfInBounds_toArray, List.set_cons_zero, List.set_cons_succ]
  refine wpAnyH_ready (rs := [9]) (by kernel_rfl) (by simp) ?_
  refine AllReadyH.cons (by simp only [List.getElem?_toArray, List.getElem?_cons_zero, List.getElem?_cons_succ]; rfl) (fun K hK => ?_) AllReadyH.nil
  refine wp_store_mid 67 _ _ rfl bL (i * 64) (scells l).toArray (by first | rfl | (go_simp; rfl)) rfl (by rw [List.size_toArray, scells_len]; exact thL) (sectA l) (all_oneCell_toArray (scells_one l)) ?_
  have e1 : ((scells l).toArray).toList = scells l := rfl
  rw [e1]
  have TB : bt ≠ bL := fun e => BL.out.2 (by rw [e]; exact OL.out)
  refine hK.out _ _ ⟨(cell_out NL.out.symm).trans g0, (cell_out TB).trans t0, range_stay t1 (sets_other TB _ _ _)⟩ (fun hHeld => ?_)
  clear hK K
  try simp only [Act.put]
  refine wpAnyH_done (by kernel_rfl) ?_ _
  refine NoPanic.normal ?_
  clear hHeld
  have D2 := Lib.hid (D1.out.setL (i := i) G1.out HI.out HL.out).1
  have K2 := Lib.hid (K1.out.sets (Or.inl OL.out) (D1.out.lt bL OL.out).1 (scells l) (i * 64))
  have BL2 : Hid (bt < (wq.setCells bL (i * 64) (scells l)).heap.size ∧ ¬ O bt) := ⟨by rw [sets_size]; exact BL.out.1, BL.out.2⟩
  replace t0 : (wq.setCells bL (i * 64) (scells l)).cell? ⟨bt, 0, none⟩ = _ := (cell_out TB).trans t0
  generalize wq.setCells bL (i * 64) (scells l) = w2 at D2 K2 BL2 t0 ⊢
  clear D1 K1 BL G1 OL NL thL lL g0 t1 e1 TB i1
  go_wp2_with fail
  obtain ⟨A, A', c, c', mb, e2, q1, r1, r2, tm, om, _⟩ := D2.out.var
  obtain ⟨c0, c1, c2, c3, fr⟩ := pcell q1
  have lg := (D2.out.lt g D2.out.own).2
  have TM1 := Lib.hid tm
  clear e2 q1 r1 r2 c0 c1 c3 fr tm
  refine wp_region_noPanic ?_
  refine wp_region_held_drew (S := fun w' => w'.cell? ⟨g, 2, none⟩ = some (.map (some mb)) ∧ w'.cell? ⟨bt, 0, none⟩ = some (.int .i64 (i : Int))) (by kernel_rfl) ⟨c2, t0⟩ (fun hHeld => ?_)
  have hd := below_drew w2
  replace c2 := (hd.cell (p := ⟨g, 2, none⟩) lg).trans c2
  replace t0 := (hd.cell (p := ⟨bt, 0, none⟩) BL2.out.1).trans t0
  replace TM1 := Lib.hid (TM1.out.stay (hd.block mb (D2.out.lt mb om).2))
  replace D2 := Lib.hid (D2.out.below hd)
  replace K2 := Lib.hid (K2.out.more HBB.out hd)
  generalize w2.drew = wq at hHeld c2 t0 D2 K2 TM1 ⊢
  clear hd lg
  refine wpAnyH_take (i := 0) (v := ?vw10) (by simp only [List.getElem?_toArray, List.getElem?_cons_zero]; rfl) (by kernel_rfl) (by kernel_rfl) (by kernel_rfl) (fun _ _ _ h => h) (Or.inl ⟨by rfl, ?yw10⟩) (by assumption) ?rw10
  case yw10 => (intro w hSw; (try dsimp only at hSw); go_simp; first | done | with_reducible rfl)
  simp only [Act.put, List.setIfInBounds_toArray, List.set_cons_zero, List.set_cons_succ]
  refine wpAnyH_take (i := 1) (v := ?vw11) (by simp only [List.getElem?_toArray, List.getElem?_cons_zero, List.getElem?_cons_succ]; rfl) (by kernel_rfl) (by kernel_rfl) (by kernel_rfl) (fun _ _ _ h => h) (Or.inl ⟨by rfl, ?yw11⟩) (by assumption) ?rw11
  case yw11 => (intro w hSw; (try dsimp only at hSw); go_simp; first | done | with_reducible rfl)
  simp only [Act.put, List.setIfInBounds_toArray, List.set_cons_zero, List.set_cons_succ]
  refine wpAnyH_take (i := 2) (v := ?vw12) (by simp only [List.getElem?_toArray, List.getElem?_cons_zero, List.getElem?_cons_succ]; rfl) (by kernel_rfl) (by kernel_rfl) (by kernel_rfl) (fun _ _ _ h => h) (Or.inl ⟨by rfl, ?yw12⟩) (by assumption) ?rw12
  case yw12 => (intro w hSw; (try dsimp only at hSw); go_simp; first | done | with_reducible rfl)
  simp only [Act.put, List.setIfInBounds_toArray, List.set_cons_zero, List.set_cons_succ]
  refine wpAnyH_take (i := 3) (v := ?vw13) (by simp only [List.getElem?_toArray, List.getElem?_cons_zero, List.getElem?_cons_succ]; rfl) (by kernel_rfl) (by kernel_rfl) (by kernel_rfl) (fun _ _ _ h => h) (Or.inl ⟨by rfl, ?yw13⟩) (by assumption) ?rw13
  case yw13 => (intro w hSw; (try dsimp only at hSw); go_simp; first | done | with_reducible rfl)
  simp only [Act.put, List.setIfInBounds_toArray, List.set_cons_zero, List.set_cons_succ]
  refine wpAnyH_take (i := 4) (v := ?vw14) (by simp only [List.getElem?_toArray, List.getElem?_cons_zero, List.getElem?_cons_succ]; rfl) (by kernel_rfl) (by kernel_rfl) (by kernel_rfl) (fun _ _ _ h => h) (Or.inl ⟨by rfl, ?yw14⟩) (by assumption) ?rw14
  case yw14 => (intro w hSw; (try dsimp only at hSw); go_simp; first | done | with_reducible rfl)
  simp only [Act.put, List.setIfInBounds_toArray, List.set_cons_zero, List.set_cons_succ]
  refine wpAnyH_take (i := 5) (v := ?vw15) (by simp only [List.getElem?_toArray, List.getElem?_cons_zero, List.getElem?_cons_succ]; rfl) (by kernel_rfl) (by kernel_rfl) (by kernel_rfl) (fun _ _ _ h => h) (Or.inl ⟨by rfl, ?yw15⟩) (by assumption) ?rw15
  case yw15 => (intro w hSw; (try dsimp only at hSw); go_simp; first | done | with_reducible rfl)
  simp only [Act.put, List.setIfInBounds_toArray, List.set_cons_zero, List.set_cons_succ]
  refine wpAnyH_ready (rs := [6]) (by kernel_rfl) (by simp) ?_
  refine AllReadyH.cons (by simp only [List.getElem?_toArray, List.getElem?_cons_zero, List.getElem?_cons_succ]; rfl) (fun K hK => ?_) AllReadyH.nil
  have ht : (d.t.set i true).length = d.t.length := List.length_set
  obtain ⟨m, ok, hm⟩ := D2.out.ok
  have l1 : d.t.length = d.l.length := by have a := ok.l; have b := ok.t; simp at a; exact b.trans a.symm
  obtain ⟨w3, hdel, T3, tn⟩ := TM1.out.del (i := i) (by have := HI.out; show _ < d.t.length; omega) (by have b := ok.t; show d.t.length ≤ _; have : d.t.length = m := b; omega)
  have c2b := c2
  have D3 := Lib.hid (D2.out.setT c2 tn T3).1
  have K3 := Lib.hid (K2.out.turned tn (Or.inl om) (D2.out.lt mb om).1 (by have := (D2.out.lt mb om); omega))
  have N3 : Hid (w3.cell? ⟨g, 2, none⟩ = some (.map (some mb)) ∧ w3.cell? ⟨bt, 0, none⟩ = some (.int .i64 (i : Int))) := by
    obtain ⟨es, clock, hmb⟩ := TM1.out.map
    have hne : ∀ (k j : Nat) v, wq.cell? ⟨k, j, none⟩ = some v → k ≠ mb := fun k j v h e => by
      subst e
      simp [World.cell?, hmb] at h
    exact ⟨(World.cell?_of_block (turned_other tn (hne _ _ _ c2))).trans c2, (World.cell?_of_block (turned_other tn (hne _ _ _ t0))).trans t0⟩
  clear ht ok l1 T3 tn c2b
  go_simp
  refine hK.out _ _ N3.out (fun hHeld => ?_)
  clear hK K
  try simp only [Act.put, List.setIfInBounds_toArray, List.set_cons_zero, List.set_cons_succ]
  refine wpAnyH_done (by kernel_rfl) ?_ _
  refine NoPanic.normal ?_
  clear hHeld
  go_wp2_with fail
  go_end0
  exact ⟨rfl, D3.out, K3.out⟩

end Go.Proofs.Ytpdedeaejlkokaa
