/-
  What package disk answers: Sync.
-/
import Derived.Test.YtpdedeaejlkokaaDPub5
namespace Go.Proofs.Ytpdedeaejlkokaa
open Go.RowKit

theorem hmf15 : ∀ (fn : Fn) (first cap : Array Value) (w : World), (Instr.makeFunc fn first cap).run Try.prog w = .ok (.func fn first cap) w := fun _ _ _ _ => rfl
/-- A variable that is no part of a disk, behind what keeps all but the disk. -/
theorem CB.keep {B : Nat} {O : Nat → Prop} {w w' : World} {b T : Nat} {v : Value} (H : CB w b T v) (hn : ¬ O b) (k : Kept B O w w') : CB w' b T v := (k.2 b H.lt hn).trans H

set_option maxHeartbeats 2000000 in
set_option maxRecDepth 100000 in
theorem clay15 (B : Nat) (O : Nat → Prop) (g bd k : Nat) (d : Dk) (vP : Value) (x : Nat × List UInt8) (w : World) (H : DP B O d g vP w) (hB : B ≤ w.heap.size) (hx : x.1 < d.l.length) (hl : x.2.length = 64) (hb : CB w bd 25 (.pointer (some ⟨g, 0, none⟩))) :
    Calls Try.prog 36 #[.int .i64 (k : Int), .agg (wcells x).toArray, .pointer (some ⟨bd, 0, none⟩)] w fun e w' => e = .returned (.tuple #[]) ∧ DP B O (dkLay d x) g vP w' ∧ Kept B O w w' := by
  obtain ⟨ty, hty, hrow⟩ := writeT
  have tb := heap_alloc_new w (.cells (wcells x).toArray 69)
  have BA := chain_alloc (Below.refl _ w) (.cells (wcells x).toArray 69)
  have R2 : Hid ((w.alloc (.cells (wcells x).toArray 69)).rangeAt w.heap.size 0 (wcells x)) := fun j v hj => by
    rw [Lib.cell_of_heap tb, Nat.zero_add]
    simpa using hj
  have WI : Hid ((Try.prog.info? 69).map (·.size) = some (wcells x).length) := by show _ = _; rw [writeI, wcells_len]
  have TY := Lib.hid hty; have RW := Lib.hid hrow
  have cb := (hb.below BA).cell
  have CL := Lib.hid (lay15 B O g d vP x.1 x.2 _ (w.alloc (.cells (wcells x).toArray 69)) (H.below BA) (Nat.le_trans hB BA.size) hx hl rfl)
  have K1 := Lib.hid (Kept.below (O := O) BA hB)
  clear hty hrow tb BA hb H hB hx hl
  go_enter Try.func36, Try.ntmps36
  go_wp2_with (first | refine wpList_load_mid rfl 69 _ rfl w.heap.size 0 rfl (wcells x) ty R2.out TY.out RW.out WI.out ?_ | fail)
  refine CL.out.mono ?_
  rintro e w5 ⟨rfl, h1, h2⟩
  have D5 := Lib.hid h1
  have K5 : Hid (Kept B O w w5) := K1.out.next h2 fun b q => Or.inl q
  clear h1 h2
  go_wp2_with fail
  go_end0
  exact ⟨rfl, D5.out, K5.out⟩

theorem lays_next15 {d : Dk} {k : Nat} {x : Nat × List UInt8} (hk : d.p[k]? = some x) : (d.p.take (k + 1)).foldl dkLay d = dkLay ((d.p.take k).foldl dkLay d) x := lays_next hk d
set_option maxHeartbeats 2000000 in
set_option maxRecDepth 100000 in
theorem csync15 (B : Nat) (O : Nat → Prop) (g bd : Nat) (d : Dk) (vP : Value) (w : World) (H : DP B O d g vP w) (hB : B ≤ w.heap.size) (hp : d.p.length ≤ 100000) (hb : CB w bd 25 (.pointer (some ⟨g, 0, none⟩))) (hn : ¬ O bd) :
    Calls Try.prog 34 #[.pointer (some ⟨bd, 0, none⟩)] w fun e w' => e = .returned (.int .i64 0) ∧ DI B O { d.p.foldl dkLay d with p := [] } g w' ∧ Kept B O w w' := by
  have CS := Lib.hid (settle15 B O g d vP 36 #[.pointer (some ⟨bd, 0, none⟩)] (fun k => (d.p.take k).foldl dkLay d) w H hB hp (by intro args w; go_simp) rfl (fun k => (lays_p _ _).1) (fun k x C w1 hx hC h1 h2 => by
    subst hC
    obtain ⟨m, ok, _⟩ := H.ok
    have X := ok.p x (List.mem_of_getElem? hx)
    have := clay15 B O g bd k _ vP x w1 h1 (Nat.le_trans hB h2.1.size) (by rw [(lays_p _ _).2.1, ok.l]; exact X.1) X.2 (hb.keep hn h2)
    rw [lays_next15 hx]
    exact this))
  have hmf := hmf15
  have cb := hb.cell
  clear H hB hp hb hn
  go_enter Try.func34, Try.ntmps34
  go_wp2_with fail
  refine CS.out.mono ?_
  rintro e w1 ⟨rfl, h1, h2⟩
  have D1 := Lib.hid h1; have K1 := Lib.hid h2
  clear h1 h2
  go_wp2_with fail
  go_ret
  exact ⟨rfl, ⟨.slice none 0 0, by have := D1.out; rw [List.take_length] at this; exact this⟩, K1.out⟩

theorem DI.of {B : Nat} {O : Nat → Prop} {d : Dk} {g : Nat} {w0 w : World} (H : DI B O d g w) (h1 : ∀ b, O b → B ≤ b ∧ b < w0.heap.size) (h2 : B ≤ w0.heap.size) : DI B (Grow O w0 w) d g w := H.imp fun _ h => h.grown h1 h2

set_option maxHeartbeats 2000000 in
set_option maxRecDepth 100000 in
theorem sync15 (B : Nat) (O : Nat → Prop) (g m : Nat) (d : Dk) (w : World) (H : DI B O d g w) (hB : B ≤ w.heap.size) (_ok : DkOk m d) (_hm : m ≤ 5000) (hp : d.p.length ≤ 100000) (hf : d.f ≤ 9223372036854775807) :
    Calls Try.prog 21 #[.pointer (some ⟨g, 0, none⟩)] w (DTo B O g (dkSync d).1 (.int .i64 (dkSync d).2) w) := by
  obtain ⟨vP, H⟩ := H
  have HLT := Lib.hid H.lt; have HBB := Lib.hid hB
  obtain ⟨w1, hw1⟩ : ∃ w1, w1 = w.alloc (.cells #[.pointer (some ⟨g, 0, none⟩)] 25) := ⟨_, rfl⟩
  have hb : CB w1 w.heap.size 25 (.pointer (some ⟨g, 0, none⟩)) := by rw [hw1]; exact heap_alloc_new w _
  have BA : Below w.heap.size w w1 := by rw [hw1]; exact chain_alloc (Below.refl _ w) _
  have NO : ¬ O w.heap.size := fun q => by have := (H.lt _ q).2; omega
  have D1 := H.below BA
  have cb := hb.cell
  have K1 := Lib.hid (Kept.below (O := O) BA hB)
  have CL := Lib.hid (call15 B O g d vP 34 #[.pointer (some ⟨w.heap.size, 0, none⟩)] w1 (fun e w' => e = .returned (.int .i64 (dkSync d).2) ∧ DI B O (dkSync d).1 g w' ∧ Kept B O w w') D1 hf (by intro args w; go_simp)
    (fun f0 => by
      have E : dkSync d = (d, 42) := if_pos f0
      rw [E]
      exact ⟨rfl, ⟨_, D1⟩, K1.out⟩)
    (fun f0 w2 h1 h2 h3 => by
      have E : dkSync d = ({ d.p.foldl dkLay (dkTick d) with p := [] }, 0) := if_neg f0
      refine (csync15 B O g w.heap.size (dkTick d) vP w2 h1 (Nat.le_trans hB (Nat.le_trans BA.size h2.1.size)) (by rw [tick_p]; exact hp) (hb.keep NO h2) NO).mono ?_
      rintro e w3 ⟨rfl, h4, h5⟩
      rw [tick_p] at h4
      exact ⟨0, rfl, by rw [E], by rw [E]; exact h4, (K1.out.next h2 fun b q => Or.inl q).next h5 fun b q => Or.inl q⟩))
  have hmf := hmf15
  clear H hB hp hf D1 hb BA NO
  go_enter Try.func21, Try.ntmps21
  go_wp2_with fail
  rw [← hw1]
  clear hw1
  go_wp2_with fail
  refine CL.out.mono ?_
  rintro e w5 ⟨⟨rfl, h1, h2⟩, _⟩
  have D5 := Lib.hid h1; have K5 := Lib.hid h2
  clear h1 h2
  go_wp2_with fail
  go_ret
  exact ⟨rfl, D5.out.of HLT.out HBB.out, K5.out⟩

end Go.Proofs.Ytpdedeaejlkokaa
