/-
  The fixed questions of layer 10.
-/
import Derived.Test.YtdigdfkecnddiaaHPub
import Derived.Test.YtdigdfkecnddiaaHRef
namespace Go.Proofs.Ytdigdfkecnddiaa
open Go.RowKit

set_option maxHeartbeats 4000000 in
set_option maxRecDepth 100000 in
theorem great10 (X Y : Option Addr) (cX cY nx ny : Nat) (r : Bool) (hr : (decide (4200 < (nx : Int)) || decide (4200 < (ny : Int))) = r) (w : World) :
    Calls Try.prog 36 #[.slice X nx cX, .slice Y ny cY] w fun e w' => e = .returned (.bool r) ∧ Below w.heap.size w w' := by
  by_cases h1 : 4200 < nx
  · have d1 : decide (4200 < (nx : Int)) = true := decide_eq_true (by omega)
    rw [d1] at hr
    subst hr
    clear h1
    go_enter Try.func36, Try.ntmps36
    go_wp2_with fail
    go_ret
    exact ⟨rfl, Below.refl _ _⟩
  · have d1 : decide (4200 < (nx : Int)) = false := decide_eq_false (by omega)
    rw [d1, Bool.false_or] at hr
    clear h1
    by_cases h2 : 4200 < ny
    · have d2 : decide (4200 < (ny : Int)) = true := decide_eq_true (by omega)
      rw [d2] at hr
      subst hr
      clear h2
      go_enter Try.func36, Try.ntmps36
      go_wp2_with fail
      go_ret
      exact ⟨rfl, Below.refl _ _⟩
    · have d2 : decide (4200 < (ny : Int)) = false := decide_eq_false (by omega)
      rw [d2] at hr
      subst hr
      clear h2
      go_enter Try.func36, Try.ntmps36
      go_wp2_with fail
      go_ret
      exact ⟨rfl, Below.refl _ _⟩

theorem h10a : splA 0 [5] = [16294208416658607535] := by kernel_rfl
theorem h10b : splB 0 [5] = [2152535657050944086] := by kernel_rfl
theorem h10c : addR [16294208416658607535] [2152535657050944086] = [5] := by kernel_rfl
theorem h10d : splA 0 (List.replicate 4097 0) = [] := splA_no (by rw [List.length_replicate]; decide)
theorem h10e : splB 0 (List.replicate 4097 0) = [] := splB_no (by rw [List.length_replicate]; decide)
theorem h10f : partN 0 [5] = [5] := by kernel_rfl
theorem h10g : partN 1 [5] = [0] := by kernel_rfl

set_option maxHeartbeats 4000000 in
set_option maxRecDepth 100000 in
theorem head10_any (w : World) : Calls Try.prog 35 #[] w fun e w' => e = .returned (.bool true) ∧ Below w.heap.size w w' := by
  obtain ⟨i0, hi, hz0, hz1, hz2⟩ := info_parts Try.info23
  have hmk : ∀ w : World, (Instr.makeSlice 22 (.int .i64 4097) (.int .i64 4097)).run Try.prog w = .ok (.slice (some ⟨w.heap.size, 0, none⟩) 4097 4097) (w.alloc (.cells (madeCells #[.int .u64 0] 4097) 23)) := fun w => by
    have := run_make (P := Try.prog) w 22 23 i0 _ Try.underlying22 hi hz0 .i64 .i64 4097 4097 (by omega) (Int.le_refl _) (by rw [hz2]; omega) (by omega)
    rw [hz1, Nat.mul_one] at this
    exact this
  go_enter Try.func35, Try.ntmps35
  go_wp2_with fail
  refine (split10 0 (some ⟨w.heap.size, 0, none⟩) 1 1 [5] _ (rg_block (heap_alloc_new w _) rfl) rfl (by decide)).mono ?_
  rintro e w1 ⟨Aa, ka, na, Ab, kb, nb, rfl, h1, h2, h3, h4, hb, h5, h6, h7, h8⟩
  rw [h10a] at h1 h2
  rw [h10b] at h3 h4
  obtain rfl : na = 1 := h1
  obtain rfl : nb = 1 := h3
  have Ra := Lib.hid h2; have Rb := Lib.hid h4
  have B1 := Lib.hid (chain (chain_alloc (Below.refl _ w) _) hb)
  clear h2 h4 hb h5 h6 h7 h8
  go_wp2_with fail
  refine (split10 0 (some ⟨w1.heap.size, 0, none⟩) 4097 4097 (List.replicate 4097 0) _ (rg_made w1 4097 _) (by rw [List.length_replicate]) (by decide)).mono ?_
  rintro e w2 ⟨Ac, kc, nc, Ad, kd, nd, rfl, h1, h2, h3, h4, hb, h5, h6, h7, h8⟩
  rw [h10d] at h1
  rw [h10e] at h3
  obtain rfl : nc = 0 := h1
  obtain rfl : nd = 0 := h3
  have hb2 := chain (chain_alloc (Below.refl _ w1) _) hb
  replace Ra := Lib.hid (Ra.out.below hb2)
  replace Rb := Lib.hid (Rb.out.below hb2)
  have B2 := Lib.hid (chain B1.out hb2)
  clear h2 h4 hb hb2 h5 h6 h7 h8 B1 hmk
  go_wp2_with fail
  refine (ssame Aa _ ka _ 1 1 [16294208416658607535] [16294208416658607535] _ (Ra.out.alloc _) (rg_block (heap_alloc_new w2 _) rfl) rfl rfl (by decide) rfl).mono ?_
  rintro e w3 ⟨rfl, hb⟩
  have hb2 := chain (chain_alloc (Below.refl _ w2) _) hb
  replace Ra := Lib.hid (Ra.out.below hb2)
  replace Rb := Lib.hid (Rb.out.below hb2)
  have B3 := Lib.hid (chain B2.out hb2)
  clear hb hb2 B2
  go_wp2_with fail
  refine (ssame Ab _ kb _ 1 1 [2152535657050944086] [2152535657050944086] _ (Rb.out.alloc _) (rg_block (heap_alloc_new w3 _) rfl) rfl rfl (by decide) rfl).mono ?_
  rintro e w4 ⟨rfl, hb⟩
  have hb2 := chain (chain_alloc (Below.refl _ w3) _) hb
  replace Ra := Lib.hid (Ra.out.below hb2)
  replace Rb := Lib.hid (Rb.out.below hb2)
  have B4 := Lib.hid (chain B3.out hb2)
  clear hb hb2 B3
  go_wp2_with fail
  refine (join10 Aa Ab ka kb 1 1 [16294208416658607535] [2152535657050944086] _ Ra.out Rb.out rfl rfl (by decide)).mono ?_
  rintro e w5 ⟨Ae, ke, ne, rfl, h1, h2, hb, h4, h5⟩
  rw [h10c] at h1 h2
  obtain rfl : ne = 1 := h1
  have Re := Lib.hid h2
  have B5 := Lib.hid (chain B4.out hb)
  clear h2 hb h4 h5 B4 Ra Rb
  go_wp2_with fail
  refine (ssame Ae _ ke _ 1 1 [5] [5] _ (Re.out.alloc _) (rg_block (heap_alloc_new w5 _) rfl) rfl rfl (by decide) rfl).mono ?_
  rintro e w6 ⟨rfl, hb⟩
  have B6 := Lib.hid (chain B5.out (chain (chain_alloc (Below.refl _ w5) _) hb))
  clear hb B5 Re
  go_wp2_with fail
  refine (part10 0 (some ⟨w6.heap.size, 0, none⟩) 1 1 [5] _ (rg_block (heap_alloc_new w6 _) rfl) rfl (by decide)).mono ?_
  rintro e w7 ⟨Af, kf, nf, rfl, h1, h2, hb, h4, h5⟩
  rw [h10f] at h1 h2
  obtain rfl : nf = 1 := h1
  have Rf := Lib.hid h2
  have B7 := Lib.hid (chain B6.out (chain (chain_alloc (Below.refl _ w6) _) hb))
  clear h2 hb h4 h5 B6
  go_wp2_with fail
  refine (ssame Af _ kf _ 1 1 [5] [5] _ (Rf.out.alloc _) (rg_block (heap_alloc_new w7 _) rfl) rfl rfl (by decide) rfl).mono ?_
  rintro e w8 ⟨rfl, hb⟩
  have B8 := Lib.hid (chain B7.out (chain (chain_alloc (Below.refl _ w7) _) hb))
  clear hb B7 Rf
  go_wp2_with fail
  refine (part10 1 (some ⟨w8.heap.size, 0, none⟩) 1 1 [5] _ (rg_block (heap_alloc_new w8 _) rfl) rfl (by decide)).mono ?_
  rintro e w9 ⟨Ag, kg, ng, rfl, h1, h2, hb, h4, h5⟩
  rw [h10g] at h1 h2
  obtain rfl : ng = 1 := h1
  have Rg1 := Lib.hid h2
  have B9 := Lib.hid (chain B8.out (chain (chain_alloc (Below.refl _ w8) _) hb))
  clear h2 hb h4 h5 B8
  go_wp2_with fail
  refine (ssame Ag _ kg _ 1 1 [0] [0] _ (Rg1.out.alloc _) (rg_block (heap_alloc_new w9 _) rfl) rfl rfl (by decide) rfl).mono ?_
  rintro e w10 ⟨rfl, hb⟩
  have B10 := Lib.hid (chain B9.out (chain (chain_alloc (Below.refl _ w9) _) hb))
  clear hb B9 Rg1
  go_wp2_with fail
  go_ret
  exact ⟨rfl, B10.out⟩

end Go.Proofs.Ytdigdfkecnddiaa
