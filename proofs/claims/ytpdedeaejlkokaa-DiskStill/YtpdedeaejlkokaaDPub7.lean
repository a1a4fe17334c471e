/-
  What package disk answers: Crash.
-/
import Derived.Test.YtpdedeaejlkokaaDPub6
namespace Go.Proofs.Ytpdedeaejlkokaa
open Go.RowKit

set_option maxHeartbeats 4000000 in
set_option maxRecDepth 100000 in
theorem cstep15 (B : Nat) (O : Nat → Prop) (g bt bd bk k : Nat) (d : Dk) (vP : Value) (keep : List Bool) (torn : Int) (Y : Option Addr) (nY cY : Nat) (x : Nat × List UInt8) (w : World) (H : DP B O d g vP w) (hB : B ≤ w.heap.size) (hx : x.1 < d.l.length) (hl : x.2.length = 64)
    (hy : Rg qcells w Y keep) (ly : nY = keep.length)
    (h1 : CB w bt 3 (.int .i64 torn)) (h2 : CB w bd 25 (.pointer (some ⟨g, 0, none⟩))) (h3 : CB w bk 32 (.slice Y nY cY)) :
    Calls Try.prog 38 #[.int .i64 (k : Int), .agg (wcells x).toArray, .pointer (some ⟨bt, 0, none⟩), .pointer (some ⟨bd, 0, none⟩), .pointer (some ⟨bk, 0, none⟩)] w fun e w' => e = .returned (.tuple #[]) ∧ DP B O (dkStep keep torn k d x) g vP w' ∧ Kept B O w w' := by
  obtain ⟨ty, hty, hrow⟩ := writeT
  obtain ⟨w1, hw1⟩ : ∃ w1, w1 = w.alloc (.cells (wcells x).toArray 69) := ⟨_, rfl⟩
  have tb : w1.heap[w.heap.size]? = some (.cells (wcells x).toArray 69 (0, 0)) := by rw [hw1]; exact heap_alloc_new w _
  have BA : Below w.heap.size w w1 := by rw [hw1]; exact chain_alloc (Below.refl _ w) _
  have R2 : Hid (w1.rangeAt w.heap.size 0 (wcells x)) := fun j v hj => by
    rw [Lib.cell_of_heap tb, Nat.zero_add]
    simpa using hj
  have t0 : w1.cell? ⟨w.heap.size, 0, none⟩ = some (.int .i64 (x.1 : Int)) := (range_tail R2.out).1
  have WI : Hid ((Try.prog.info? 69).map (·.size) = some (wcells x).length) := by show _ = _; rw [writeI, wcells_len]
  have TY := Lib.hid hty; have RW := Lib.hid hrow
  have ct := (h1.below BA).cell
  have cd := (h2.below BA).cell
  have ck := (h3.below BA).cell
  have lt0 := (Array.getElem?_eq_some_iff.1 tb).1
  have ltd := (h2.below BA).lt
  have HX := Lib.hid hx; have HL := Lib.hid hl; have HBB := Lib.hid (Nat.le_trans hB BA.size); have LY := Lib.hid ly
  have D1 := Lib.hid (H.below BA)
  have K1 := Lib.hid (Kept.below (O := O) BA hB)
  have HW := Lib.hid hB
  have YR := Lib.hid (hy.below BA)
  have NBT : Hid (¬ O w.heap.size) := fun q => by have := (H.lt _ q).2; omega
  have i0 : (0 : Int) ≤ (k : Int) := Int.natCast_nonneg _
  clear hty hrow tb BA H hB hx hl hy ly h1 h2 h3
  subst hw1
  go_enter Try.func38, Try.ntmps38
  by_cases kt : (k : Int) = torn
  · have b1 : ((k : Int) == torn) = true := by simp [kt]
    have KT := Lib.hid kt
    clear kt ck
    go_wp2_with fail
    generalize w.alloc (.cells (wcells x).toArray 69) = w1 at D1 K1 R2 t0 ct cd lt0 ltd HBB YR ⊢
    obtain ⟨bx, hbx⟩ : ∃ bx, bx = w.heap.size := ⟨_, rfl⟩
    rw [← hbx] at R2 t0 lt0 NBT ⊢
    clear hbx
    obtain ⟨A, A', c, c', mb, e2, q1, r1, r2, tm, om, _⟩ := D1.out.var
    obtain ⟨c0, c1, c2, c3, fr⟩ := pcell q1
    have lg := (D1.out.lt g D1.out.own).2
    have TM1 := Lib.hid tm
    clear e2 q1 r1 r2 c0 c1 c3 fr tm ct
    refine wp_region_noPanic ?_
    refine wp_region_held_drew (S := fun w' => w'.cell? ⟨g, 2, none⟩ = some (.map (some mb)) ∧ w'.cell? ⟨bx, 0, none⟩ = some (.int .i64 (x.1 : Int)) ∧ w'.cell? ⟨bd, 0, none⟩ = some (.pointer (some ⟨g, 0, none⟩))) (by kernel_rfl) ⟨c2, t0, cd⟩ (fun hHeld => ?_)
    have hd := below_drew w1
    replace c2 := (hd.cell (p := ⟨g, 2, none⟩) lg).trans c2
    replace t0 := (hd.cell (p := ⟨bx, 0, none⟩) lt0).trans t0
    replace cd := (hd.cell (p := ⟨bd, 0, none⟩) ltd).trans cd
    replace TM1 := Lib.hid (TM1.out.stay (hd.block mb (D1.out.lt mb om).2))
    replace D1 := Lib.hid (D1.out.below hd)
    replace K1 := Lib.hid (Kept.more K1.out HW.out hd)
    generalize w1.drew = wq at hHeld c2 t0 cd D1 K1 TM1 ⊢
    clear hd lg
    refine wpAnyH_take (i := 0) (v := ?vw1) (by simp only [List.getElem?_toArray, List.getElem?_cons_zero]; rfl) (by kernel_rfl) (by kernel_rfl) (by kernel_rfl) (fun _ _ _ h => h) (Or.inl ⟨by rfl, ?yw1⟩) (by assumption) ?rw1
    case yw1 => (intro w hSw; (try dsimp only at hSw); go_simp; first | done | with_reducible rfl)
    simp only [Act.put, List.setIfInBounds_toArray, List.set_cons_zero, List.set_cons_succ]
    refine wpAnyH_take (i := 1) (v := ?vw2) (by simp only [List.getElem?_toArray, List.getElem?_cons_zero, List.getElem?_cons_succ]; rfl) (by kernel_rfl) (by kernel_rfl) (by kernel_rfl) (fun _ _ _ h => h) (Or.inl ⟨by rfl, ?yw2⟩) (by assumption) ?rw2
    case yw2 => (intro w hSw; (try dsimp only at hSw); go_simp; first | done | with_reducible rfl)
    simp only [Act.put, List.setIfInBounds_toArray, List.set_cons_zero, List.set_cons_succ]
    refine wpAnyH_take (i := 2) (v := ?vw3) (by simp only [List.getElem?_toArray, List.getElem?_cons_zero, List.getElem?_cons_succ]; rfl) (by kernel_rfl) (by kernel_rfl) (by kernel_rfl) (fun _ _ _ h => h) (Or.inl ⟨by rfl, ?yw3⟩) (by assumption) ?rw3
    case yw3 => (intro w hSw; (try dsimp only at hSw); go_simp; first | done | with_reducible rfl)
    simp only [Act.put, List.setIfInBounds_toArray, List.set_cons_zero, List.set_cons_succ]
    refine wpAnyH_take (i := 3) (v := ?vw4) (by simp only [List.getElem?_toArray, List.getElem?_cons_zero, List.getElem?_cons_succ]; rfl) (by kernel_rfl) (by kernel_rfl) (by kernel_rfl) (fun _ _ _ h => h) (Or.inl ⟨by rfl, ?yw4⟩) (by assumption) ?rw4
    case yw4 => (intro w hSw; (try dsimp only at hSw); go_simp; first | done | with_reducible rfl)
    simp only [Act.put, List.setIfInBounds_toArray, List.set_cons_zero, List.set_cons_succ]
    refine wpAnyH_take (i := 4) (v := ?vw5) (by simp only [List.getElem?_toArray, List.getElem?_cons_zero, List.getElem?_cons_succ]; rfl) (by kernel_rfl) (by kernel_rfl) (by kernel_rfl) (fun _ _ _ h => h) (Or.inl ⟨by rfl, ?yw5⟩) (by assumption) ?rw5
    case yw5 => (intro w hSw; (try dsimp only at hSw); go_simp; first | done | with_reducible rfl)
    simp only [Act.put, List.setIfInBounds_toArray, List.set_cons_zero, List.set_cons_succ]
    refine wpAnyH_take (i := 5) (v := ?vw6) (by simp only [List.getElem?_toArray, List.getElem?_cons_zero, List.getElem?_cons_succ]; rfl) (by kernel_rfl) (by kernel_rfl) (by kernel_rfl) (fun _ _ _ h => h) (Or.inl ⟨by rfl, ?yw6⟩) (by assumption) ?rw6
    case yw6 => (intro w hSw; (try dsimp only at hSw); go_simp; first | done | with_reducible rfl)
    simp only [Act.put, List.setIfInBounds_toArray, List.set_cons_zero, List.set_cons_succ]
    refine wpAnyH_ready (rs := [6]) (by kernel_rfl) (by simp) ?_
    refine AllReadyH.cons (by simp only [List.getElem?_toArray, List.getElem?_cons_zero, List.getElem?_cons_succ]; rfl) (fun K hK => ?_) AllReadyH.nil
    obtain ⟨m, ok, hm⟩ := D1.out.ok
    have l1 : d.t.length = d.l.length := by rw [ok.l, ok.t]
    obtain ⟨w3, hput, T3, tn⟩ := TM1.out.put (i := x.1) (by have := HX.out; omega) (by rw [ok.t]; omega)
    have D3 := Lib.hid (D1.out.setT c2 tn T3).1
    have K3 := Lib.hid (K1.out.turned tn (Or.inl om) (D1.out.lt mb om).1 (by have := (D1.out.lt mb om); omega))
    have N3 : Hid (w3.cell? ⟨g, 2, none⟩ = some (.map (some mb)) ∧ w3.cell? ⟨bx, 0, none⟩ = some (.int .i64 (x.1 : Int)) ∧ w3.cell? ⟨bd, 0, none⟩ = some (.pointer (some ⟨g, 0, none⟩))) := by
      obtain ⟨es, clock, hmb⟩ := TM1.out.map
      have hne : ∀ (k j : Nat) v, wq.cell? ⟨k, j, none⟩ = some v → k ≠ mb := fun k j v h e => by
        subst e
        simp [World.cell?, hmb] at h
      exact ⟨(World.cell?_of_block (turned_other tn (hne _ _ _ c2))).trans c2, (World.cell?_of_block (turned_other tn (hne _ _ _ t0))).trans t0, (World.cell?_of_block (turned_other tn (hne _ _ _ cd))).trans cd⟩
    clear ok l1 T3 tn
    go_simp
    refine hK.out _ _ N3.out (fun hHeld => ?_)
    clear hK K
    try simp only [Act.put, List.setIfInBounds_toArray, List.set_cons_zero, List.set_cons_succ]
    refine wpAnyH_done (by kernel_rfl) ?_ _
    refine NoPanic.normal ?_
    clear hHeld
    go_wp2_with fail
    go_end0
    refine ⟨rfl, ?_, K3.out⟩
    rw [dkStep, if_pos KT.out]
    exact D3.out
  · have b1 : ((k : Int) == torn) = false := by simpa using kt
    have KT := Lib.hid kt
    clear kt
    by_cases ky : k < nY
    · have ky0 : decide ((k : Int) < (nY : Int)) = true := decide_eq_true (by omega)
      have ky1 : (k : Int) < (nY : Int) := by omega
      obtain ⟨bY, oY, rfl, lY, qY⟩ := YR.out (by rw [← LY.out]; omega)
      have y1 := q_cell qY (k := k) (by rw [← LY.out]; exact ky)
      cases hv : keep.getD k false with
      | true =>
        rw [hv] at y1
        have E : Hid (dkStep keep torn k d x = dkLay d x) := by show _ = _; rw [dkStep, if_neg KT.out, if_pos hv]
        have CL := Lib.hid (lay15 B O g d vP x.1 x.2 _ (w.alloc (.cells (wcells x).toArray 69)) D1.out HBB.out HX.out HL.out rfl)
        clear hv qY lY YR t0
        go_wp2_with (first | refine wpList_load_mid rfl 69 _ rfl w.heap.size 0 rfl (wcells x) ty R2.out TY.out RW.out WI.out ?_ | fail)
        refine CL.out.mono ?_
        rintro e w5 ⟨rfl, h1, h2⟩
        have D5 := Lib.hid h1
        have K5 : Hid (Kept B O w w5) := K1.out.next h2 fun b q => Or.inl q
        clear h1 h2
        go_wp2_with fail
        go_end0
        exact ⟨rfl, by rw [E.out]; exact D5.out, K5.out⟩
      | false =>
        rw [hv] at y1
        have E : Hid (dkStep keep torn k d x = d) := by show _ = _; rw [dkStep, if_neg KT.out, if_neg (by rw [hv]; decide)]
        clear hv qY lY YR t0
        go_wp2_with fail
        go_end0
        exact ⟨rfl, by rw [E.out]; exact D1.out, K1.out⟩
    · have ky0 : decide ((k : Int) < (nY : Int)) = false := decide_eq_false (by omega)
      have ky1 : decide (k < nY) = false := decide_eq_false ky
      have E : Hid (dkStep keep torn k d x = d) := by
        show _ = _
        rw [dkStep, if_neg KT.out, if_neg (by rw [List.getD_eq_getElem?_getD, List.getElem?_eq_none (by rw [← LY.out]; omega)]; decide)]
      clear ky t0
      go_wp2_with fail
      go_end0
      exact ⟨rfl, by rw [E.out]; exact D1.out, K1.out⟩

set_option maxHeartbeats 2000000 in
set_option maxRecDepth 100000 in
theorem crash15 (B : Nat) (O : Nat → Prop) (g m : Nat) (d : Dk) (keep : List Bool) (torn : Int) (Y : Option Addr) (nY cY : Nat) (w : World) (H : DI B O d g w) (hB : B ≤ w.heap.size) (_ok : DkOk m d) (_hm : m ≤ 5000) (hp : d.p.length ≤ 100000) (hy : Rg qcells w Y keep) (ly : nY = keep.length) (hY : 0 < keep.length → ∀ a, Y = some a → ¬ O a.block) :
    Calls Try.prog 22 #[.pointer (some ⟨g, 0, none⟩), .slice Y nY cY, .int .i64 torn] w (DTo B O g (dkCrash d keep torn) (.tuple #[]) w) := by
  obtain ⟨vP, H⟩ := H
  have HLT := Lib.hid H.lt; have HBB := Lib.hid hB
  obtain ⟨o1, ho1⟩ : ∃ o, o = Obj.cells #[.pointer (some ⟨g, 0, none⟩)] 25 := ⟨_, rfl⟩
  obtain ⟨o2, ho2⟩ : ∃ o, o = Obj.cells #[.slice Y nY cY] 32 := ⟨_, rfl⟩
  obtain ⟨o3, ho3⟩ : ∃ o, o = Obj.cells #[.int .i64 torn] 3 := ⟨_, rfl⟩
  have s1 : (w.alloc o1).heap.size = w.heap.size + 1 := by simp
  have s2 : ((w.alloc o1).alloc o2).heap.size = w.heap.size + 2 := by simp
  have s3 : (((w.alloc o1).alloc o2).alloc o3).heap.size = w.heap.size + 3 := by simp
  have BA : Below w.heap.size w (((w.alloc o1).alloc o2).alloc o3) := chain_alloc (chain_alloc (chain_alloc (Below.refl _ w) o1) o2) o3
  have C1 : CB (((w.alloc o1).alloc o2).alloc o3) w.heap.size 25 (.pointer (some ⟨g, 0, none⟩)) := by
    have a : CB (w.alloc o1) w.heap.size 25 (.pointer (some ⟨g, 0, none⟩)) := by rw [ho1]; exact heap_alloc_new w _
    exact (a.below (chain_alloc (Below.refl _ _) o2)).below (chain_alloc (Below.refl _ _) o3)
  have C2 : CB (((w.alloc o1).alloc o2).alloc o3) (w.heap.size + 1) 32 (.slice Y nY cY) := by
    have a : CB ((w.alloc o1).alloc o2) (w.heap.size + 1) 32 (.slice Y nY cY) := by rw [← s1, ho2]; exact heap_alloc_new _ _
    exact a.below (chain_alloc (Below.refl _ _) o3)
  have C3 : CB (((w.alloc o1).alloc o2).alloc o3) (w.heap.size + 2) 3 (.int .i64 torn) := by rw [← s2, ho3]; exact heap_alloc_new _ _
  have NO : ∀ j, ¬ O (w.heap.size + j) := fun j q => by have := (H.lt _ q).2; omega
  have D1 := H.below BA
  have K1 := Lib.hid (Kept.below (O := O) BA hB)
  have cb := C1.cell
  have hB3 : B ≤ (((w.alloc o1).alloc o2).alloc o3).heap.size := by rw [s3]; omega
  have CS := Lib.hid (settle15 B O g d vP 38 #[.pointer (some ⟨w.heap.size + 2, 0, none⟩), .pointer (some ⟨w.heap.size, 0, none⟩), .pointer (some ⟨w.heap.size + 1, 0, none⟩)] (fun k => dkRun keep torn 0 (d.p.take k) d) (((w.alloc o1).alloc o2).alloc o3) D1 hB3 hp (by intro args w; go_simp) rfl (fun k => (run_p _ _ _ _ _).1) (fun k x C w1 hx hC h1 h2 => by
    subst hC
    obtain ⟨m, ok, _⟩ := H.ok
    have X := ok.p x (List.mem_of_getElem? hx)
    have := cstep15 B O g (w.heap.size + 2) w.heap.size (w.heap.size + 1) k _ vP keep torn Y nY cY x w1 h1 (Nat.le_trans hB3 h2.1.size) (by rw [(run_p _ _ _ _ _).2.1, ok.l]; exact X.1) X.2 ((hy.below BA).keptO h2 hY) ly (C3.keep (NO 2) h2) (C1.keep (NO 0) h2) (C2.keep (NO 1) h2)
    rw [run_next hx]
    exact this))
  have C0 := Lib.hid C1; have NO0 := Lib.hid (NO 0)
  have hmf := hmf15
  clear H hB hp hy ly hY D1 C1 C2 C3 NO BA
  subst ho1 ho2 ho3
  go_enter Try.func22, Try.ntmps22
  go_wp2_with fail
  refine CS.out.mono ?_
  rintro e w5 ⟨rfl, h1, h2⟩
  have D5 : Hid (DP B O { dkRun keep torn 0 d.p d with p := [] } g (.slice none 0 0) w5) := by
    rw [List.take_length] at h1
    exact h1
  have K5 : Hid (Kept B O w w5) := K1.out.next h2 fun b q => Or.inl q
  have cb5 := (C0.out.keep NO0.out h2).cell
  clear h1 h2 cb CS C0
  go_wp2_with fail
  refine (fuse15 B O g _ (-1) w5 ⟨_, D5.out⟩).mono ?_
  rintro e w6 ⟨rfl, h1, h2⟩
  have D6 := Lib.hid h1
  have K6 : Hid (Kept B O w w6) := K5.out.next h2 fun b q => Or.inl q
  have Z6 := Lib.hid h2.1.size
  clear h1 h2
  go_wp2_with fail
  go_end0
  refine ⟨rfl, ?_, K6.out⟩
  have h := D6.out
  refine h.grow (fun b q => ?_) (fun b q => ?_)
  · rcases q with q | q
    · exact Or.inl q
    · exact Or.inr ⟨Nat.le_trans K5.out.1.size q.1, q.2⟩
  · rcases q with q | q
    · exact ⟨(HLT.out b q).1, Nat.lt_of_lt_of_le (HLT.out b q).2 K6.out.1.size⟩
    · exact ⟨Nat.le_trans HBB.out q.1, q.2⟩

end Go.Proofs.Ytpdedeaejlkokaa
