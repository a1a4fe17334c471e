/-
  ChunkFirst: of two chunks of one position the first one counts; what is no chunk's bytes is passed over.
-/
import Derived.Test.YtlllinpaclodaaaCHead
namespace Go.Proofs.Ytlllinpaclodaaa
open Go.RowKit

set_option maxHeartbeats 8000000 in
set_option maxRecDepth 100000 in
theorem law_cfirst (h : Int) (a c : UInt64) (Aj : Option Addr) (cj nj : Nat) (xj : List UInt8) (w : World) (bh : 0 ≤ h ∧ h ≤ 65535) (hj : Rg bcells w Aj xj) (lj : nj = xj.length) (kj : nj ≤ cj) :
    Calls Try.prog 7 #[.int .u16 h, .int .u64 (uz a), .int .u64 (uz c), .slice Aj nj cj] w fun e w' => e = .returned (.bool true) ∧ Below w.heap.size w w' := by
  have Rj := Lib.hid hj; have Mj := Lib.hid lj; have Kj := Lib.hid kj
  clear hj lj kj
  obtain ⟨h0, h1⟩ := bh
  obtain ⟨p, hp⟩ : ∃ p : Nat, h % 60000 = p := ⟨(h % 60000).toNat, by omega⟩
  have p6 : p < 60000 := by omega
  by_cases g0 : 900 < nj
  · skip
    have d0 : decide (900 < (nj : Int)) = true := decide_eq_true (by omega)
    clear g0
    go_enter Try.func7, Try.ntmps7
    go_wp2_with fail
    refine (head14_any _).mono ?_
    rintro e w1 ⟨rfl, hb⟩
    have B1 := Lib.hid hb
    replace Rj := Lib.hid (Rj.out.below hb)
    clear hb
    go_wp2_with fail
    go_ret
    exact ⟨rfl, B1.out⟩
  have d0 : decide (900 < (nj : Int)) = false := decide_eq_false (by omega)
  have j9 : nj ≤ 900 := by omega
  have F1 := Lib.hid (first_one p6 a c)
  clear g0
  rcases okj : okGet xj with _ | _
  · skip
    have F2 := Lib.hid (first_two p6 a c okj)
    have Z := get_no okj
    have Z1 := Lib.hid Z.1; have Z2 := Lib.hid Z.2; have Z3 := Lib.hid okj
    clear Z okj
    go_enter Try.func7, Try.ntmps7
    go_wp2_with fail
    refine (head14_any _).mono ?_
    rintro e w1 ⟨rfl, hb⟩
    have B1 := Lib.hid hb
    replace Rj := Lib.hid (Rj.out.below hb)
    clear hb
    go_wp2_with fail
    refine (get14 Aj cj nj (xj) _ Rj.out Mj.out (by omega)).mono ?_
    rintro e w2 ⟨Ag, kg, ng, rfl, h1, h2, hb, h4, h5⟩
    rw [Z2.out] at h1 h2
    rw [Z1.out, Z3.out]
    have Mg := Lib.hid h1; have Rg := Lib.hid h2; have Kg := Lib.hid h4
    clear h1 h2 h4 h5
    have B2 := Lib.hid (chain B1.out hb)
    replace Rj := Lib.hid (Rj.out.below hb)
    clear hb B1
    clear Rg
    go_wp2_with fail
    refine (put14 (p : Int) (some ⟨w2.heap.size, 0, none⟩) 1 1 [a] _ (rg_block (heap_alloc_new w2 _) rfl) rfl (by decide)).mono ?_
    rintro e w3 ⟨Ap, kp, np, rfl, h1, h2, hb, h4, h5, h6⟩
    have Mp := Lib.hid h1; have Rp := Lib.hid h2; have Kp := Lib.hid h4
    clear h1 h2 h4 h5 h6
    replace hb := chain (chain_alloc (Below.refl _ w2) _) hb
    have B3 := Lib.hid (chain B2.out hb)
    replace Rj := Lib.hid (Rj.out.below hb)
    clear hb B2
    go_wp2_with fail
    refine (put14 (p : Int) (some ⟨w3.heap.size, 0, none⟩) 1 1 [c] _ (rg_block (heap_alloc_new w3 _) rfl) rfl (by decide)).mono ?_
    rintro e w4 ⟨Aq, kq, nq, rfl, h1, h2, hb, h4, h5, h6⟩
    have Mq := Lib.hid h1; have Rq := Lib.hid h2; have Kq := Lib.hid h4
    clear h1 h2 h4 h5 h6
    replace hb := chain (chain_alloc (Below.refl _ w3) _) hb
    have B4 := Lib.hid (chain B3.out hb)
    replace Rj := Lib.hid (Rj.out.below hb)
    replace Rp := Lib.hid (Rp.out.below hb)
    clear hb B3
    go_wp2_with fail
    refine (gather14 (p : Int) 1 (some ⟨w4.heap.size, 0, none⟩) 2 2 [putC p [a], putC p [c]] _ (br_lit (HBs.two (HB.mk Mp.out Kp.out Rp.out) (HB.mk Mq.out Kq.out Rq.out)) rfl) rfl (by decide) (fun b hb => by simp only [List.mem_cons, List.not_mem_nil, or_false] at hb; rcases hb with rfl | rfl <;> exact Nat.le_trans (put_max _ _) (by decide))).mono ?_
    rintro e w5 ⟨Ax, kx, nx, rfl, h1, h2, hb, h4, h5⟩
    rw [F1.out.2] at h1 h2
    rw [F1.out.1]
    have Mx := Lib.hid h1; have Rx := Lib.hid h2; have Kx := Lib.hid h4
    clear h1 h2 h4 h5
    replace hb := chain (chain_alloc (Below.refl _ w4) _) hb
    have B5 := Lib.hid (chain B4.out hb)
    replace Rj := Lib.hid (Rj.out.below hb)
    replace Rp := Lib.hid (Rp.out.below hb)
    replace Rq := Lib.hid (Rq.out.below hb)
    clear hb B4
    clear Rp
    clear Rq
    go_wp2_with fail
    refine (put14 (p : Int) (some ⟨w5.heap.size, 0, none⟩) 1 1 [a] _ (rg_block (heap_alloc_new w5 _) rfl) rfl (by decide)).mono ?_
    rintro e w6 ⟨Ar, kr, nr, rfl, h1, h2, hb, h4, h5, h6⟩
    have Mr := Lib.hid h1; have Rr := Lib.hid h2; have Kr := Lib.hid h4
    clear h1 h2 h4 h5 h6
    replace hb := chain (chain_alloc (Below.refl _ w5) _) hb
    have B6 := Lib.hid (chain B5.out hb)
    replace Rj := Lib.hid (Rj.out.below hb)
    replace Rx := Lib.hid (Rx.out.below hb)
    clear hb B5
    go_wp2_with fail
    refine (put14 (p : Int) (some ⟨w6.heap.size, 0, none⟩) 2 2 [c, c] _ (rg_block (heap_alloc_new w6 _) rfl) rfl (by decide)).mono ?_
    rintro e w7 ⟨At, kt, nt, rfl, h1, h2, hb, h4, h5, h6⟩
    have Mt := Lib.hid h1; have Rt := Lib.hid h2; have Kt := Lib.hid h4
    clear h1 h2 h4 h5 h6
    replace hb := chain (chain_alloc (Below.refl _ w6) _) hb
    have B7 := Lib.hid (chain B6.out hb)
    replace Rj := Lib.hid (Rj.out.below hb)
    replace Rx := Lib.hid (Rx.out.below hb)
    replace Rr := Lib.hid (Rr.out.below hb)
    clear hb B6
    go_wp2_with fail
    refine (gather14 (p : Int) 2 (some ⟨w7.heap.size, 0, none⟩) 4 4 [xj, putC p [a], xj, putC p [c, c]] _ (br_lit (HBs.four (HB.mk Mj.out Kj.out Rj.out) (HB.mk Mr.out Kr.out Rr.out) (HB.mk Mj.out Kj.out Rj.out) (HB.mk Mt.out Kt.out Rt.out)) rfl) rfl (by decide) (fun b hb => by simp only [List.mem_cons, List.not_mem_nil, or_false] at hb; rcases hb with rfl | rfl | rfl | rfl <;> first | exact Nat.le_trans (put_max _ _) (by decide) | (rw [← Mj.out]; omega))).mono ?_
    rintro e w8 ⟨Ay, ky, ny, rfl, h1, h2, hb, h4, h5⟩
    rw [F2.out.2] at h1 h2
    rw [F2.out.1]
    have My := Lib.hid h1; have Ry := Lib.hid h2; have Ky := Lib.hid h4
    clear h1 h2 h4 h5
    replace hb := chain (chain_alloc (Below.refl _ w7) _) hb
    have B8 := Lib.hid (chain B7.out hb)
    replace Rj := Lib.hid (Rj.out.below hb)
    replace Rx := Lib.hid (Rx.out.below hb)
    replace Rr := Lib.hid (Rr.out.below hb)
    replace Rt := Lib.hid (Rt.out.below hb)
    clear hb B7
    clear Rr
    clear Rt
    clear Rj
    go_wp2_with fail
    refine (ssame Ax (some ⟨w8.heap.size, 0, none⟩) kx 1 nx 1 [a] [a] _ (Rx.out.below (chain_alloc (Below.refl _ w8) _)) (rg_block (heap_alloc_new w8 _) rfl) Mx.out rfl (by rw [Mx.out]; simp) rfl).mono ?_
    rintro e w9 ⟨rfl, hb⟩
    replace hb := chain (chain_alloc (Below.refl _ w8) _) hb
    have B9 := Lib.hid (chain B8.out hb)
    replace Rx := Lib.hid (Rx.out.below hb)
    replace Ry := Lib.hid (Ry.out.below hb)
    clear hb B8
    go_wp2_with fail
    refine (ssame Ay (some ⟨w9.heap.size, 0, none⟩) ky 2 ny 2 [a, c] [a, c] _ (Ry.out.below (chain_alloc (Below.refl _ w9) _)) (rg_block (heap_alloc_new w9 _) rfl) My.out rfl (by rw [My.out]; simp) rfl).mono ?_
    rintro e w10 ⟨rfl, hb⟩
    replace hb := chain (chain_alloc (Below.refl _ w9) _) hb
    have B10 := Lib.hid (chain B9.out hb)
    replace Rx := Lib.hid (Rx.out.below hb)
    replace Ry := Lib.hid (Ry.out.below hb)
    clear hb B9
    go_wp2_with fail
    go_ret
    exact ⟨rfl, B10.out⟩
  · skip
    have Z3 := Lib.hid okj
    clear okj
    go_enter Try.func7, Try.ntmps7
    go_wp2_with fail
    refine (head14_any _).mono ?_
    rintro e w1 ⟨rfl, hb⟩
    have B1 := Lib.hid hb
    replace Rj := Lib.hid (Rj.out.below hb)
    clear hb
    go_wp2_with fail
    refine (get14 Aj cj nj (xj) _ Rj.out Mj.out (by omega)).mono ?_
    rintro e w2 ⟨Ag, kg, ng, rfl, h1, h2, hb, h4, h5⟩
    rw [Z3.out]
    have Mg := Lib.hid h1; have Rg := Lib.hid h2; have Kg := Lib.hid h4
    clear h1 h2 h4 h5
    have B2 := Lib.hid (chain B1.out hb)
    replace Rj := Lib.hid (Rj.out.below hb)
    clear hb B1
    clear Rg
    go_wp2_with fail
    refine (put14 (p : Int) (some ⟨w2.heap.size, 0, none⟩) 1 1 [a] _ (rg_block (heap_alloc_new w2 _) rfl) rfl (by decide)).mono ?_
    rintro e w3 ⟨Ap, kp, np, rfl, h1, h2, hb, h4, h5, h6⟩
    have Mp := Lib.hid h1; have Rp := Lib.hid h2; have Kp := Lib.hid h4
    clear h1 h2 h4 h5 h6
    replace hb := chain (chain_alloc (Below.refl _ w2) _) hb
    have B3 := Lib.hid (chain B2.out hb)
    replace Rj := Lib.hid (Rj.out.below hb)
    clear hb B2
    go_wp2_with fail
    refine (put14 (p : Int) (some ⟨w3.heap.size, 0, none⟩) 1 1 [c] _ (rg_block (heap_alloc_new w3 _) rfl) rfl (by decide)).mono ?_
    rintro e w4 ⟨Aq, kq, nq, rfl, h1, h2, hb, h4, h5, h6⟩
    have Mq := Lib.hid h1; have Rq := Lib.hid h2; have Kq := Lib.hid h4
    clear h1 h2 h4 h5 h6
    replace hb := chain (chain_alloc (Below.refl _ w3) _) hb
    have B4 := Lib.hid (chain B3.out hb)
    replace Rj := Lib.hid (Rj.out.below hb)
    replace Rp := Lib.hid (Rp.out.below hb)
    clear hb B3
    go_wp2_with fail
    refine (gather14 (p : Int) 1 (some ⟨w4.heap.size, 0, none⟩) 2 2 [putC p [a], putC p [c]] _ (br_lit (HBs.two (HB.mk Mp.out Kp.out Rp.out) (HB.mk Mq.out Kq.out Rq.out)) rfl) rfl (by decide) (fun b hb => by simp only [List.mem_cons, List.not_mem_nil, or_false] at hb; rcases hb with rfl | rfl <;> exact Nat.le_trans (put_max _ _) (by decide))).mono ?_
    rintro e w5 ⟨Ax, kx, nx, rfl, h1, h2, hb, h4, h5⟩
    rw [F1.out.2] at h1 h2
    rw [F1.out.1]
    have Mx := Lib.hid h1; have Rx := Lib.hid h2; have Kx := Lib.hid h4
    clear h1 h2 h4 h5
    replace hb := chain (chain_alloc (Below.refl _ w4) _) hb
    have B5 := Lib.hid (chain B4.out hb)
    replace Rj := Lib.hid (Rj.out.below hb)
    replace Rp := Lib.hid (Rp.out.below hb)
    replace Rq := Lib.hid (Rq.out.below hb)
    clear hb B4
    clear Rp
    clear Rq
    go_wp2_with fail
    refine (ssame Ax (some ⟨w5.heap.size, 0, none⟩) kx 1 nx 1 [a] [a] _ (Rx.out.below (chain_alloc (Below.refl _ w5) _)) (rg_block (heap_alloc_new w5 _) rfl) Mx.out rfl (by rw [Mx.out]; simp) rfl).mono ?_
    rintro e w6 ⟨rfl, hb⟩
    replace hb := chain (chain_alloc (Below.refl _ w5) _) hb
    have B6 := Lib.hid (chain B5.out hb)
    replace Rj := Lib.hid (Rj.out.below hb)
    replace Rx := Lib.hid (Rx.out.below hb)
    clear hb B5
    go_wp2_with fail
    go_ret
    exact ⟨rfl, B6.out⟩

end Go.Proofs.Ytlllinpaclodaaa
