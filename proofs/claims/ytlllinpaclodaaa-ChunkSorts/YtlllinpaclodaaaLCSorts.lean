/-
  ChunkSorts: the bytes of chunks of one number stand in the order of their positions, and those of one position in that of their numbers.
-/
import Derived.Test.YtlllinpaclodaaaCHead
namespace Go.Proofs.Ytlllinpaclodaaa
open Go.RowKit

theorem one_ok {a : Int} (h : 0 ≤ a ∧ a ≤ 65535) : okPut a 1 = true := ok_put.2 ⟨h.1, h.2, by decide, by decide, by omega⟩
theorem one_laid {a : Int} (h : 0 ≤ a ∧ a ≤ 65535) (x : UInt64) : putC a [x] = beN 2 a.toNat ++ be8 x := by
  rw [put_yes (one_ok h)]; unfold laidC; simp
theorem one_size {a : Int} (h : 0 ≤ a ∧ a ≤ 65535) (x : UInt64) : (tx (putC a [x])).size = 10 := by
  rw [tx_size, put_len (one_ok h)]; rfl
theorem one_less {a o : Int} (h : 0 ≤ a ∧ a ≤ 65535) (k : 0 ≤ o ∧ o ≤ 65535) (x y : UInt64) : Op.bytesLess (tx (putC a [x])).toList (tx (putC o [y])).toList = (decide (a < o) || (a == o) && decide (uz x < uz y)) := by
  rw [tx_list, tx_list, one_laid h, one_laid k, less_be 2 _ _ _ _ (by have := h.2; show _ < 256 ^ 2; omega) (by have := k.2; show _ < 256 ^ 2; omega)]
  have e1 : decide (a.toNat < o.toNat) = decide (a < o) := decide_eq_decide.2 (by omega)
  have e2 : (a.toNat == o.toNat) = (a == o) := by rw [Bool.eq_iff_iff, beq_iff_eq, beq_iff_eq]; omega
  have e3 : Op.bytesLess (be8 x) (be8 y) = decide (uz x < uz y) := by
    have := less_be 8 x.toNat y.toNat [] [] (by have := x.toNat_lt; show _ < 256 ^ 8; omega) (by have := y.toNat_lt; show _ < 256 ^ 8; omega)
    rw [List.append_nil, List.append_nil, less_nil, Bool.and_false, Bool.or_false] at this
    unfold be8
    rw [this]
    exact decide_eq_decide.2 (by unfold uz; omega)
  rw [e1, e2, e3]

set_option maxHeartbeats 8000000 in
set_option maxRecDepth 100000 in
theorem law_csorts (a o : Int) (x y : UInt64) (w : World) (ba : 0 ≤ a ∧ a ≤ 65535) (bo : 0 ≤ o ∧ o ≤ 65535) :
    Calls Try.prog 9 #[.int .u16 a, .int .u16 o, .int .u64 (uz x), .int .u64 (uz y)] w fun e w' => e = .returned (.bool true) ∧ Below w.heap.size w w' := by
  have LS := Lib.hid (one_less ba bo x y)
  have LA := Lib.hid (one_size ba x); have LB := Lib.hid (one_size bo y)
  obtain ⟨a0, a1⟩ := ba
  obtain ⟨o0, o1⟩ := bo
  by_cases h0 : a < o
  · skip
    have d0 : decide (a < o) = true := decide_eq_true h0
    replace LS : Hid (Op.bytesLess (tx (putC a [x])).toList (tx (putC o [y])).toList = true) := by show _ = _; rw [LS.out, d0]; rfl
    clear h0
    go_enter Try.func9, Try.ntmps9
    go_wp2_with fail
    refine (head14_any _).mono ?_
    rintro e w1 ⟨rfl, hb⟩
    have B1 := Lib.hid hb
    clear hb
    go_wp2_with fail
    refine (put14 a (some ⟨w1.heap.size, 0, none⟩) 1 1 [x] _ (rg_block (heap_alloc_new w1 _) rfl) rfl (by decide)).mono ?_
    rintro e w2 ⟨Ap, kp, np, rfl, h1, h2, hb, h4, h5, h6⟩
    have Mp := Lib.hid h1; have Rp := Lib.hid h2; have Kp := Lib.hid h4
    clear h1 h2 h4 h5 h6
    replace hb := chain (chain_alloc (Below.refl _ w1) _) hb
    have B2 := Lib.hid (chain B1.out hb)
    clear hb B1
    have tp := text_of (c := kp) Rp.out Mp.out
    go_wp2_with fail
    refine (put14 o (some ⟨w2.heap.size, 0, none⟩) 1 1 [y] _ (rg_block (heap_alloc_new w2 _) rfl) rfl (by decide)).mono ?_
    rintro e w3 ⟨Aq, kq, nq, rfl, h1, h2, hb, h4, h5, h6⟩
    have Mq := Lib.hid h1; have Rq := Lib.hid h2; have Kq := Lib.hid h4
    clear h1 h2 h4 h5 h6
    replace hb := chain (chain_alloc (Below.refl _ w2) _) hb
    have B3 := Lib.hid (chain B2.out hb)
    replace Rp := Lib.hid (Rp.out.below hb)
    clear tp
    clear hb B2
    have tp := text_of (c := kp) Rp.out Mp.out
    have tq := text_of (c := kq) Rq.out Mq.out
    have ls := LS.out; have la := LA.out; have lb := LB.out
    go_wp2_with fail
    go_ret
    exact ⟨rfl, B3.out⟩
  have d0 : decide (a < o) = false := decide_eq_false h0
  by_cases h1 : a = o
  · skip
    have D1 := Lib.hid h1
    have d1 : (a == o) = true := by simpa using h1
    clear h1
    by_cases h2 : uz x < uz y
    · skip
      have d2 : decide (uz x < uz y) = true := decide_eq_true h2
      replace LS : Hid (Op.bytesLess (tx (putC a [x])).toList (tx (putC o [y])).toList = true) := by show _ = _; rw [LS.out, d0, d1, d2]; rfl
      have D2 := Lib.hid d2
      clear h0 h2 d1 d2
      go_enter Try.func9, Try.ntmps9
      go_wp2_with fail
      refine (head14_any _).mono ?_
      rintro e w1 ⟨rfl, hb⟩
      have B1 := Lib.hid hb
      clear hb
      go_wp2_with fail
      refine (put14 a (some ⟨w1.heap.size, 0, none⟩) 1 1 [x] _ (rg_block (heap_alloc_new w1 _) rfl) rfl (by decide)).mono ?_
      rintro e w2 ⟨Ap, kp, np, rfl, h1, h2, hb, h4, h5, h6⟩
      have Mp := Lib.hid h1; have Rp := Lib.hid h2; have Kp := Lib.hid h4
      clear h1 h2 h4 h5 h6
      replace hb := chain (chain_alloc (Below.refl _ w1) _) hb
      have B2 := Lib.hid (chain B1.out hb)
      clear hb B1
      have tp := text_of (c := kp) Rp.out Mp.out
      go_wp2_with fail
      refine (put14 o (some ⟨w2.heap.size, 0, none⟩) 1 1 [y] _ (rg_block (heap_alloc_new w2 _) rfl) rfl (by decide)).mono ?_
      rintro e w3 ⟨Aq, kq, nq, rfl, h1, h2, hb, h4, h5, h6⟩
      have Mq := Lib.hid h1; have Rq := Lib.hid h2; have Kq := Lib.hid h4
      clear h1 h2 h4 h5 h6
      replace hb := chain (chain_alloc (Below.refl _ w2) _) hb
      have B3 := Lib.hid (chain B2.out hb)
      replace Rp := Lib.hid (Rp.out.below hb)
      clear tp
      clear hb B2
      have tp := text_of (c := kp) Rp.out Mp.out
      have tq := text_of (c := kq) Rq.out Mq.out
      have ls := LS.out; have la := LA.out; have lb := LB.out; have d1 : (a == o) = true := by simpa using D1.out
      have d2 := D2.out
      go_wp2_with fail
      go_ret
      exact ⟨rfl, B3.out⟩
    · skip
      have d2 : decide (uz x < uz y) = false := decide_eq_false h2
      replace LS : Hid (Op.bytesLess (tx (putC a [x])).toList (tx (putC o [y])).toList = false) := by show _ = _; rw [LS.out, d0, d1, d2]; rfl
      have D2 := Lib.hid d2
      clear h0 h2 d1 d2
      go_enter Try.func9, Try.ntmps9
      go_wp2_with fail
      refine (head14_any _).mono ?_
      rintro e w1 ⟨rfl, hb⟩
      have B1 := Lib.hid hb
      clear hb
      go_wp2_with fail
      refine (put14 a (some ⟨w1.heap.size, 0, none⟩) 1 1 [x] _ (rg_block (heap_alloc_new w1 _) rfl) rfl (by decide)).mono ?_
      rintro e w2 ⟨Ap, kp, np, rfl, h1, h2, hb, h4, h5, h6⟩
      have Mp := Lib.hid h1; have Rp := Lib.hid h2; have Kp := Lib.hid h4
      clear h1 h2 h4 h5 h6
      replace hb := chain (chain_alloc (Below.refl _ w1) _) hb
      have B2 := Lib.hid (chain B1.out hb)
      clear hb B1
      have tp := text_of (c := kp) Rp.out Mp.out
      go_wp2_with fail
      refine (put14 o (some ⟨w2.heap.size, 0, none⟩) 1 1 [y] _ (rg_block (heap_alloc_new w2 _) rfl) rfl (by decide)).mono ?_
      rintro e w3 ⟨Aq, kq, nq, rfl, h1, h2, hb, h4, h5, h6⟩
      have Mq := Lib.hid h1; have Rq := Lib.hid h2; have Kq := Lib.hid h4
      clear h1 h2 h4 h5 h6
      replace hb := chain (chain_alloc (Below.refl _ w2) _) hb
      have B3 := Lib.hid (chain B2.out hb)
      replace Rp := Lib.hid (Rp.out.below hb)
      clear tp
      clear hb B2
      have tp := text_of (c := kp) Rp.out Mp.out
      have tq := text_of (c := kq) Rq.out Mq.out
      have ls := LS.out; have la := LA.out; have lb := LB.out; have d1 : (a == o) = true := by simpa using D1.out
      have d2 := D2.out
      go_wp2_with fail
      go_ret
      exact ⟨rfl, B3.out⟩
  · skip
    have d1 : (a == o) = false := by simpa using h1
    replace LS : Hid (Op.bytesLess (tx (putC a [x])).toList (tx (putC o [y])).toList = false) := by show _ = _; rw [LS.out, d0, d1]; rfl
    have D1 := Lib.hid d1
    clear h0 h1 d1
    go_enter Try.func9, Try.ntmps9
    go_wp2_with fail
    refine (head14_any _).mono ?_
    rintro e w1 ⟨rfl, hb⟩
    have B1 := Lib.hid hb
    clear hb
    go_wp2_with fail
    refine (put14 a (some ⟨w1.heap.size, 0, none⟩) 1 1 [x] _ (rg_block (heap_alloc_new w1 _) rfl) rfl (by decide)).mono ?_
    rintro e w2 ⟨Ap, kp, np, rfl, h1, h2, hb, h4, h5, h6⟩
    have Mp := Lib.hid h1; have Rp := Lib.hid h2; have Kp := Lib.hid h4
    clear h1 h2 h4 h5 h6
    replace hb := chain (chain_alloc (Below.refl _ w1) _) hb
    have B2 := Lib.hid (chain B1.out hb)
    clear hb B1
    have tp := text_of (c := kp) Rp.out Mp.out
    go_wp2_with fail
    refine (put14 o (some ⟨w2.heap.size, 0, none⟩) 1 1 [y] _ (rg_block (heap_alloc_new w2 _) rfl) rfl (by decide)).mono ?_
    rintro e w3 ⟨Aq, kq, nq, rfl, h1, h2, hb, h4, h5, h6⟩
    have Mq := Lib.hid h1; have Rq := Lib.hid h2; have Kq := Lib.hid h4
    clear h1 h2 h4 h5 h6
    replace hb := chain (chain_alloc (Below.refl _ w2) _) hb
    have B3 := Lib.hid (chain B2.out hb)
    replace Rp := Lib.hid (Rp.out.below hb)
    clear tp
    clear hb B2
    have tp := text_of (c := kp) Rp.out Mp.out
    have tq := text_of (c := kq) Rq.out Mq.out
    have ls := LS.out; have la := LA.out; have lb := LB.out; have d1 : ¬ a = o := by simpa using D1.out
    go_wp2_with fail
    go_ret
    exact ⟨rfl, B3.out⟩

end Go.Proofs.Ytlllinpaclodaaa
