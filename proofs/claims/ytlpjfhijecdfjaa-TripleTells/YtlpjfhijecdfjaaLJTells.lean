/-
  TripleTells: any party's part of any triple, and any row, are the document's.
-/
import Derived.Test.YtlpjfhijecdfjaaJHead
namespace Go.Proofs.Ytlpjfhijecdfjaa
open Go.RowKit

set_option maxHeartbeats 4000000 in
set_option maxRecDepth 100000 in
theorem law_jtells (s : UInt64) (a : Int) (i : UInt64) (m : Int) (w : World) :
    Calls Try.prog 3 #[.int .u64 (uz s), .int .i64 a, .int .u64 (uz i), .int .i64 m] w fun e w' => e = .returned (.bool true) ∧ Below w.heap.size w w' := by
  obtain ⟨t, ht⟩ : ∃ t, t = halfU s a i := ⟨_, rfl⟩
  have C0 : Hid (∀ w, Calls Try.prog 11 #[.int .u64 (uz s), .int .i64 a, .int .u64 (uz i)] w fun e w' => e = .returned (tpv t) ∧ Below w.heap.size w w') := fun w => by rw [ht]; exact half11 s a i w
  have C1 : Hid (∀ w, Calls Try.prog 12 #[.int .u64 (uz s), .int .i64 a, .int .u64 (uz i)] w fun e w' => e = .returned (tpv t) ∧ Below w.heap.size w w') := fun w => by rw [ht]; exact rhalf11 s a i w
  have heq := tp_eq t
  clear ht
  go_enter Try.func3, Try.ntmps3
  go_wp2_with fail
  refine (head11_any _).mono ?_
  rintro e w1 ⟨rfl, hb⟩
  have B1 := Lib.hid hb
  clear hb
  go_wp2_with fail
  refine (C0.out _).mono ?_
  rintro e w2 ⟨rfl, hb⟩
  have B2 := Lib.hid (chain B1.out hb)
  clear hb B1
  unfold tpv
  go_wp2_with fail
  refine (C1.out _).mono ?_
  rintro e w3 ⟨rfl, hb⟩
  have B3 := Lib.hid (chain B2.out hb)
  clear hb B2
  unfold tpv
  go_wp2_with fail
  refine (row11 s a i m _).mono ?_
  rintro e w4 ⟨Ap, kp, np, rfl, h1, h2, hb, h4, h5⟩
  have Mp := Lib.hid h1; have Rp := Lib.hid h2
  clear h1 h2 h4 h5
  have B4 := Lib.hid (chain B3.out hb)
  clear hb B3
  go_wp2_with fail
  refine (rrow11 s a i m _).mono ?_
  rintro e w5 ⟨Aq, kq, nq, rfl, h1, h2, hb, h4, h5⟩
  have Mq := Lib.hid h1; have Rq := Lib.hid h2
  clear h1 h2 h4 h5
  have B5 := Lib.hid (chain B4.out hb)
  replace Rp := Lib.hid (Rp.out.below hb)
  clear hb B4
  obtain rfl : nq = np := Mq.out.trans Mp.out.symm
  go_wp2_with fail
  refine (rsame11 Ap Aq kp kq nq (rowTN s a i m) _ Rp.out Rq.out Mq.out (by rw [Mq.out]; have := trown_le s a i m; omega)).mono ?_
  rintro e w6 ⟨rfl, hb⟩
  have B6 := Lib.hid (chain B5.out hb)
  replace Rp := Lib.hid (Rp.out.below hb)
  replace Rq := Lib.hid (Rq.out.below hb)
  clear hb B5
  go_wp2_with fail
  go_ret
  exact ⟨rfl, B6.out⟩

end Go.Proofs.Ytlpjfhijecdfjaa
