/-
  What package sector answers: Get.
-/
import Derived.Test.YtjokaaekliapmaaDoorQPub3
import Derived.Test.YtjokaaekliapmaaDoorQPub4
import Derived.Test.YtjokaaekliapmaaDoorQSame
namespace Go.Proofs.YtjokaaekliapmaaDoor
open Go.RowKit

def NV (w : World) (z : Nat) (v : Array Value) : Prop := w.heap[z]? = some (.cells v 34 (0, 0))
theorem NV.lt {w : World} {z : Nat} {v : Array Value} (H : NV w z v) : z < w.heap.size := (Array.getElem?_eq_some_iff.1 H).1
theorem NV.below {w w' : World} {z : Nat} {v : Array Value} (H : NV w z v) (hb : Below w.heap.size w w') : NV w' z v := (hb.block z H.lt).trans H
theorem NV.cells {w : World} {z : Nat} {a b c d e : Value} (H : NV w z #[a, b, c, d, e]) : w.cell? ⟨z, 0, none⟩ = some a ∧ w.cell? ⟨z, 1, none⟩ = some b ∧ w.cell? ⟨z, 2, none⟩ = some c ∧ w.cell? ⟨z, 3, none⟩ = some d ∧ w.cell? ⟨z, 4, none⟩ = some e := by
  refine ⟨?_, ?_, ?_, ?_, ?_⟩ <;> (rw [Lib.cell_of_heap H]; rfl)
theorem get_end16 {b : List UInt8} {w V : World} {z : Nat} {tmps : Array Value} (hE : okQ b = false) (hQ : QV V z #[.int .i64 0, .int .i64 0, .int .i64 0, .int .i64 0, .slice none 0 0]) (hB : Below w.heap.size w V) (h2 : tmps.getD 2 undef = .pointer (some ⟨z, 0, none⟩) := by rfl) (h3 : tmps.getD 3 undef = .bool false := by rfl) :
    bodyPost Tryd.prog Tryd.f10 (QTo b w) .ret { tmps := tmps, defers := [] } V := by
  obtain ⟨y0, y1, y2, y3, y4, _⟩ := hQ.cells
  have h2' : tmps[2]?.getD undef = .pointer (some ⟨z, 0, none⟩) := by simpa using h2
  have h3' : tmps[3]?.getD undef = .bool false := by simpa using h3
  exact bodyPost_ret (v := .tuple #[.agg #[.int .i64 0, .int .i64 0, .int .i64 0, .int .i64 0, .slice none 0 0], .bool false]) (by simp [results, Tryd.results10, go_sem, h2', h3', y0, y1, y2, y3, y4]) rfl (qto_none hE hB)
theorem cut_behind (bA oA cA k : Nat) (hc : 64 ≤ cA) (hk : k ≤ 50) : ∃ o', (∀ w, (Instr.slice 22 (.slice (some ⟨bA, oA + 14, none⟩) 50 (cA - 14)) (some (.int .i64 (k : Int))) none none).run Tryd.prog w = .ok (.slice (some ⟨bA, o', none⟩) (50 - k) (cA - 14 - k)) w) ∧ (o' = oA + 14 + k ∨ 50 - k = 0) := by
  obtain ⟨c, hc2⟩ : ∃ c, c = cA - 14 := ⟨_, rfl⟩
  rw [← hc2]
  have hc3 : 50 ≤ c := by omega
  clear hc2
  by_cases e : c = k
  · refine ⟨oA + 14, fun w => ?_, .inr (by omega)⟩
    have e2 : (k : Int) ≤ 50 := by omega
    have e3 : k ≤ 50 := hk
    go_simp
  · refine ⟨oA + 14 + k, fun w => ?_, .inl rfl⟩
    have e2 : (k : Int) ≤ 50 := by omega
    go_simp
theorem part_four (b : List UInt8) : partR b 5 0 0 = iw (rdN (b.take 8)) ∧ partR b 5 0 1 = (rdN ((b.drop 8).take 2) : Nat) ∧ partR b 5 0 2 = (rdN ((b.drop 10).take 1) : Nat) ∧ partR b 5 0 3 = (rdN ((b.drop 11).take 2) : Nat) ∧ partR b 5 0 4 = (rdN ((b.drop 13).take 1) : Nat) := by
  have h : ∀ o m, m ≤ 2 → iw (rdN ((b.drop o).take m)) = (rdN ((b.drop o).take m) : Nat) := fun o m hm => iw_small (by
    have := rd_lt ((b.drop o).take m)
    have h2 : ((b.drop o).take m).length ≤ 2 := by rw [List.length_take]; omega
    have h3 : 256 ^ ((b.drop o).take m).length ≤ 256 ^ 2 := Nat.pow_le_pow_right (by decide) h2
    omega)
  refine ⟨?_, ?_, ?_, ?_, ?_⟩
  · rw [part_done b (by decide)]; show iw (rdN ((b.drop 0).take 8)) = _; rw [List.drop_zero]
  · rw [part_done b (by decide)]; exact h 8 2 (by decide)
  · rw [part_done b (by decide)]; exact h 10 1 (by decide)
  · rw [part_done b (by decide)]; exact h 11 2 (by decide)
  · rw [part_done b (by decide)]; exact h 13 1 (by decide)
/-- A first number of 64 bits is right where the one without sign is. -/
theorem right_iw (b : List UInt8) (hl : b.length = 64) : rightQ ⟨iw (rdN (b.take 8)), (rdN ((b.drop 8).take 2) : Nat), (rdN ((b.drop 10).take 1) : Nat), (rdN ((b.drop 11).take 2) : Nat), (b.drop 14).take (rdN ((b.drop 13).take 1))⟩ = rightQ (secQ b) := by
  have h8 := rd_lt (b.take 8)
  rw [List.length_take, hl] at h8
  have h8 : rdN (b.take 8) < 18446744073709551616 := h8
  by_cases h : rdN (b.take 8) < 9223372036854775808
  · rw [iw_small h]; rfl
  · have n := iw_big (Nat.le_of_not_lt h) h8
    rw [right_no (fun z => by have := z.1; dsimp only at this; omega), right_no (fun z => by have := z.2.1; unfold secQ at this; dsimp only at this; omega)]
theorem right_sec {b : List UInt8} (h : rightQ (secQ b) = true) : iw (rdN (b.take 8)) = (rdN (b.take 8) : Nat) := iw_small (by
  have := (right_q.1 h).2.1
  unfold secQ at this
  dsimp only at this
  omega)

set_option maxHeartbeats 16000000 in
set_option maxRecDepth 100000 in
theorem get16 (A : Option Addr) (cA n : Nat) (b : List UInt8) (w : World) (hx : Rg bcells w A b) (lx : n = b.length) (hc : n ≤ cA) (_hn : n ≤ 1000000) (hT : Wd w := by first | assumption | exact Hid.out (by assumption) | exact Wd.below (Hid.out (by assumption)) (Hid.out (by assumption)) | exact Wd.below (by assumption) (Hid.out (by assumption))) :
    Calls Tryd.prog 10 #[.slice A n cA] w (QTo b w) := by
  have HX := Lib.hid hx; have LX := Lib.hid lx; have HT := Lib.hid hT; have HC := Lib.hid hc
  clear hx lx hT hc
  by_cases n64 : n = 64
  case neg =>
    have b0 : ((n : Int) != 64) = true := by simp; omega
    have E := Lib.hid (okq_len (l := b) (by rw [← LX.out]; exact n64))
    clear n64
    go_enter Tryd.func10, Tryd.ntmps10
    go_wp2_with fail
    exact get_end16 E.out (heap_alloc_new w _) (chain_alloc (Below.refl _ w) _)
  subst n64
  have b0 : (((64 : Nat) : Int) != 64) = false := by simp
  obtain ⟨bA, oA, rfl, lA, qA⟩ := HX.out (by rw [← LX.out]; decide)
  obtain ⟨e0, e1, e2, e3, e4⟩ := part_four b
  have CR : Hid (∀ w, Rg bcells w (some ⟨bA, oA, none⟩) b → Wd w → Calls Tryd.prog 17 #[.slice (some ⟨bA, oA, none⟩) 64 cA] w fun e w' => e = .returned (.tuple #[.agg #[.int .i64 (iw (rdN (b.take 8))), .int .i64 (rdN ((b.drop 8).take 2) : Nat), .int .i64 (rdN ((b.drop 10).take 1) : Nat), .int .i64 (rdN ((b.drop 11).take 2) : Nat), .int .i64 (rdN ((b.drop 13).take 1) : Nat)], .slice (some ⟨bA, oA + 14, none⟩) 50 (cA - 14)]) ∧ Below w.heap.size w w') := fun w h1 h2 => by
    have := read16 bA oA cA b w h1 LX.out.symm HC.out h2
    unfold ReadTo at this
    rw [e0, e1, e2, e3, e4] at this
    exact this
  have RQ := right_iw b LX.out.symm
  have k255 : rdN ((b.drop 13).take 1) < 256 := by
    have := rd_lt ((b.drop 13).take 1)
    have h2 : ((b.drop 13).take 1).length ≤ 1 := by rw [List.length_take]; omega
    have h3 : 256 ^ ((b.drop 13).take 1).length ≤ 256 ^ 1 := Nat.pow_le_pow_right (by decide) h2
    omega
  obtain ⟨k, hk⟩ : ∃ k, k = rdN ((b.drop 13).take 1) := ⟨_, rfl⟩
  obtain ⟨g, hg⟩ : ∃ g, g = iw (rdN (b.take 8)) := ⟨_, rfl⟩
  obtain ⟨P, hP⟩ : ∃ P, P = rdN ((b.drop 8).take 2) := ⟨_, rfl⟩
  obtain ⟨t, ht⟩ : ∃ t, t = rdN ((b.drop 10).take 1) := ⟨_, rfl⟩
  obtain ⟨Kn, hK⟩ : ∃ K, K = rdN ((b.drop 11).take 2) := ⟨_, rfl⟩
  rw [← hk, ← hg, ← hP, ← ht, ← hK] at CR RQ
  rw [← hk] at k255
  have SQ : Hid (rightQ (secQ b) = true → secQ b = ⟨g, (P : Int), (t : Int), (Kn : Int), (b.drop 14).take k⟩) := fun z => by
    rw [hg, hP, ht, hK, hk, right_sec z]; rfl
  have RK : Hid (rdN ((b.drop 13).take 1) = k) := hk.symm
  have RQH := Lib.hid RQ
  clear e0 e1 e2 e3 e4 RQ hg hP ht hK hk qA lA
  by_cases k50 : 50 < k
  case pos =>
    have d1 : decide ((k : Int) > 50) = true := decide_eq_true (by omega)
    have d2 : decide ((50 : Int) < (k : Int)) = true := decide_eq_true (by omega)
    have E := Lib.hid (okq_long (l := b) (by rw [RK.out]; exact k50))
    clear k50 k255
    go_enter Tryd.func10, Tryd.ntmps10
    go_wp2_with fail
    have Q1 : QV (w.alloc (.cells #[.int .i64 0, .int .i64 0, .int .i64 0, .int .i64 0, .slice none 0 0] 24)) w.heap.size #[.int .i64 0, .int .i64 0, .int .i64 0, .int .i64 0, .slice none 0 0] := heap_alloc_new w _
    have hb := chain_alloc (Below.refl _ w) (.cells #[.int .i64 0, .int .i64 0, .int .i64 0, .int .i64 0, .slice none 0 0] 24)
    obtain ⟨zr, hzr⟩ : ∃ z, z = w.heap.size := ⟨_, rfl⟩
    have HZR := Lib.hid hzr
    rw [← hzr] at Q1 ⊢
    generalize w.alloc (.cells #[.int .i64 0, .int .i64 0, .int .i64 0, .int .i64 0, .slice none 0 0] 24) = w1 at Q1 hb ⊢
    clear hzr
    refine (CR.out _ (HX.out.below hb) (HT.out.below hb)).mono ?_
    rintro e w2 ⟨rfl, hb2⟩
    have QR := Lib.hid (Q1.below hb2)
    have B2 := Lib.hid (chain hb hb2)
    obtain ⟨r0, r1, r2, r3, r4, fr⟩ := QR.out.cells
    have f0 := fr 0; have f1 := fr 1; have f2 := fr 2; have f3 := fr 3; have f4 := fr 4
    have lr := QR.out.lt
    clear Q1 hb hb2 CR fr
    go_wp2_with fail
    have Q3 := (QR.out.sets (a' := .int .i64 0) (b' := .int .i64 0) (c' := .int .i64 0) (d' := .int .i64 0) (e' := .slice none 0 0))
    have B3 := below_sets5 B2.out (Nat.le_of_eq HZR.out.symm) (.int .i64 0) (.int .i64 0) (.int .i64 0) (.int .i64 0) (.slice none 0 0)
    exact get_end16 E.out (Q3.below (chain_alloc (Below.refl _ _) _)) (chain_alloc B3 _)
  have d1 : decide ((k : Int) > 50) = false := decide_eq_false (by omega)
  have d2 : decide ((50 : Int) < (k : Int)) = false := decide_eq_false (by omega)
  obtain ⟨o', sb, ho⟩ := cut_behind bA oA cA k HC.out (Nat.le_of_not_lt k50)
  have K50 : Hid (k ≤ 50) := Nat.le_of_not_lt k50
  have RB : Hid (∀ v, Rg bcells v (some ⟨bA, oA, none⟩) b → Rg bcells v (some ⟨bA, o', none⟩) (b.drop (14 + k))) := fun v hv => by
    rcases ho with rfl | e
    · have := rg_cut16 hv (14 + k) (50 - k)
      rw [← Nat.add_assoc, List.take_of_length_le (by rw [List.length_drop, ← LX.out]; omega)] at this
      exact this
    · intro h0
      rw [List.length_drop, ← LX.out] at h0
      omega
  have LB : Hid (50 - k = (b.drop (14 + k)).length) := by show _ = _; rw [List.length_drop, ← LX.out]; omega
  have CN : Hid (∀ v, Rg bcells v (some ⟨bA, oA, none⟩) b → Calls Tryd.prog 18 #[.slice (some ⟨bA, o', none⟩) (50 - k) (cA - 14 - k)] v fun e w' => e = .returned (.bool ((b.drop (14 + k)).all fun b => b == 0)) ∧ Below v.heap.size v w') := fun v hv => noughts16 bA o' (50 - k) (cA - 14 - k) (b.drop (14 + k)) v (RB.out v hv) LB.out (by omega)
  have NN : Hid (((b.drop (14 + k)).all fun b => b == 0) = true ↔ ∀ x ∈ b.drop (14 + k), x = 0) := by show _ ↔ _; simp
  obtain ⟨r, hr⟩ : ∃ r, r = ((b.drop (14 + k)).all fun b => b == 0) := ⟨_, rfl⟩
  rw [← hr] at CN NN
  clear hr ho k50 k255 RB LB
  go_enter Tryd.func10, Tryd.ntmps10
  go_wp2_with fail
  have Q1 : QV (w.alloc (.cells #[.int .i64 0, .int .i64 0, .int .i64 0, .int .i64 0, .slice none 0 0] 24)) w.heap.size #[.int .i64 0, .int .i64 0, .int .i64 0, .int .i64 0, .slice none 0 0] := heap_alloc_new w _
  have hb := chain_alloc (Below.refl _ w) (.cells #[.int .i64 0, .int .i64 0, .int .i64 0, .int .i64 0, .slice none 0 0] 24)
  obtain ⟨zr, hzr⟩ : ∃ z, z = w.heap.size := ⟨_, rfl⟩
  have HZR := Lib.hid hzr
  rw [← hzr] at Q1 ⊢
  generalize w.alloc (.cells #[.int .i64 0, .int .i64 0, .int .i64 0, .int .i64 0, .slice none 0 0] 24) = w1 at Q1 hb ⊢
  clear hzr
  refine (CR.out _ (HX.out.below hb) (HT.out.below hb)).mono ?_
  rintro e w2 ⟨rfl, hb2⟩
  have QR := Lib.hid (Q1.below hb2)
  have B2 := Lib.hid (chain hb hb2)
  obtain ⟨r0, r1, r2, r3, r4, fr⟩ := QR.out.cells
  have f0 := fr 0; have f1 := fr 1; have f2 := fr 2; have f3 := fr 3; have f4 := fr 4
  have lr := QR.out.lt
  clear Q1 hb hb2 CR fr
  go_wp2_with fail
  have N3 : NV (w2.alloc (.cells #[.int .i64 g, .int .i64 (P : Int), .int .i64 (t : Int), .int .i64 (Kn : Int), .int .i64 (k : Int)] 34)) w2.heap.size #[.int .i64 g, .int .i64 (P : Int), .int .i64 (t : Int), .int .i64 (Kn : Int), .int .i64 (k : Int)] := heap_alloc_new w2 _
  have hb := chain_alloc (Below.refl _ w2) (.cells #[.int .i64 g, .int .i64 (P : Int), .int .i64 (t : Int), .int .i64 (Kn : Int), .int .i64 (k : Int)] 34)
  obtain ⟨zn, hzn⟩ : ∃ z, z = w2.heap.size := ⟨_, rfl⟩
  rw [← hzn] at N3 ⊢
  generalize w2.alloc (.cells #[.int .i64 g, .int .i64 (P : Int), .int .i64 (t : Int), .int .i64 (Kn : Int), .int .i64 (k : Int)] 34) = w3 at N3 hb ⊢
  replace QR := Lib.hid (QR.out.below hb)
  have B3 := Lib.hid (chain B2.out hb)
  clear hb hzn B2 r0 r1 r2 r3 r4 f0 f1 f2 f3 f4 lr
  refine (CN.out _ (HX.out.below B3.out)).mono ?_
  rintro e w4 ⟨rfl, hb⟩
  have NX := Lib.hid (N3.below hb)
  replace QR := Lib.hid (QR.out.below hb)
  have B4 := Lib.hid (chain B3.out hb)
  clear hb N3 B3 CN
  rcases r with _ | _
  · have E : Hid (okQ b = false) := okq_no (fun ⟨_, _, z, _⟩ => by rw [RK.out] at z; exact absurd (NN.2 z) (by decide))
    obtain ⟨r0, r1, r2, r3, r4, fr⟩ := QR.out.cells
    have f0 := fr 0; have f1 := fr 1; have f2 := fr 2; have f3 := fr 3; have f4 := fr 4
    clear fr NN
    go_wp2_with fail
    exact get_end16 E.out QR.out.sets (below_sets5 B4.out (Nat.le_of_eq HZR.out.symm) _ _ _ _ _)
  have NZ : Hid (∀ x ∈ b.drop (14 + k), x = 0) := NN.1 rfl
  have R14 : Hid (∀ v, Below w4.heap.size w4 v → Rg bcells v (some ⟨bA, oA + 14, none⟩) ((b.drop 14).take k)) := fun v hv => rg_cut16 ((HX.out.below B4.out).below hv) 14 k
  have L14 : Hid (k = ((b.drop 14).take k).length) := by have := K50.out; show _ = _; rw [List.length_take, List.length_drop, ← LX.out]; omega
  have CC : Hid (∀ v, Below w4.heap.size w4 v → Calls Tryd.prog 19 #[.slice (some ⟨bA, oA + 14, none⟩) k (cA - 14)] v fun e w' => ∃ A' c', e = .returned (.slice A' k c') ∧ OB16 w' w4.heap.size A' k c' ((b.drop 14).take k) ∧ Below v.heap.size v w') := fun v hv => by
    refine (clone16 bA (oA + 14) k (cA - 14) ((b.drop 14).take k) v (R14.out v hv) L14.out (by have := K50.out; omega)).mono ?_
    rintro e w' ⟨A', c', he, ho, hb⟩
    exact ⟨A', c', he, own_base ho hv.size, hb⟩
  have sc : ∀ v, (Instr.slice 22 (.slice (some ⟨bA, oA + 14, none⟩) 50 (cA - 14)) none (some (.int .i64 (k : Int))) none).run Tryd.prog v = .ok (.slice (some ⟨bA, oA + 14, none⟩) k (cA - 14)) v := fun v => cut_to4 bA (oA + 14) 50 (cA - 14) k K50.out (by have := HC.out; omega) v
  obtain ⟨n0, n1, n2, n3, n4⟩ := NX.out.cells
  have ln0 := NX.out.lt
  have ln1 := ln0; have ln2 := ln0; have ln3 := ln0
  clear NN d1 d2
  go_upto_region 7 with fail
  go_cut [7] (fun s7 wx => ∃ (z : Nat) (A' : Option Addr) (c' : Nat), s7 = .pointer (some ⟨z, 0, none⟩) ∧ Hid (QV wx z #[.int .i64 g, .int .i64 (P : Int), .int .i64 (t : Int), .int .i64 (Kn : Int), .slice A' k c']) ∧ Hid (OB16 wx w4.heap.size A' k c' ((b.drop 14).take k)) ∧ Hid (Below w4.heap.size w4 wx) ∧ Hid (w4.heap.size ≤ z))
  case first =>
    refine wp_region_noPanic ?_
    refine wp_region_held_drew (S := fun w' => w'.cell? ⟨zn, 0, none⟩ = some (.int .i64 g) ∧ w'.cell? ⟨zn, 1, none⟩ = some (.int .i64 (P : Int)) ∧ w'.cell? ⟨zn, 2, none⟩ = some (.int .i64 (t : Int)) ∧ w'.cell? ⟨zn, 3, none⟩ = some (.int .i64 (Kn : Int))) (by kernel_rfl) ⟨n0, n1, n2, n3⟩ (fun hHeld => ?_)
    have hd := below_drew w4
    replace n0 := (hd.cell (p := ⟨zn, 0, none⟩) ln0).trans n0
    replace ln0 := Nat.lt_of_lt_of_le ln0 hd.size
    replace n1 := (hd.cell (p := ⟨zn, 1, none⟩) ln1).trans n1
    replace ln1 := Nat.lt_of_lt_of_le ln1 hd.size
    replace n2 := (hd.cell (p := ⟨zn, 2, none⟩) ln2).trans n2
    replace ln2 := Nat.lt_of_lt_of_le ln2 hd.size
    replace n3 := (hd.cell (p := ⟨zn, 3, none⟩) ln3).trans n3
    replace ln3 := Nat.lt_of_lt_of_le ln3 hd.size
    generalize w4.drew = wq1 at hHeld hd n0 ln0 n1 ln1 n2 ln2 n3 ln3 ⊢
    have BD : Hid (Below wq1.heap.size wq1 wq1) := Below.refl _ _
    refine wpAnyH_take (i := 0) (v := ?vv1001) (by simp only [List.getElem?_toArray, List.getElem?_cons_zero]; rfl) (by kernel_rfl) (by kernel_rfl) (by kernel_rfl) (fun _ _ _ h => h) (Or.inl ⟨by rfl, ?yy1001⟩) (by assumption) ?rr1001
    case yy1001 => (intro w hSw; (try dsimp only at hSw); go_simp; first | done | with_reducible rfl)
    simp only [Act.put, List.setIfInBounds_toArray, List.set_cons_zero, List.set_cons_succ]
    refine wpAnyH_take (i := 1) (v := ?vv1002) (by simp only [List.getElem?_toArray, List.getElem?_cons_zero, List.getElem?_cons_succ]; rfl) (by kernel_rfl) (by kernel_rfl) (by kernel_rfl) (fun _ _ _ h => h) (Or.inl ⟨by rfl, ?yy1002⟩) (by assumption) ?rr1002
    case yy1002 => (intro w hSw; (try dsimp only at hSw); go_simp; first | done | with_reducible rfl)
    simp only [Act.put, List.setIfInBounds_toArray, List.set_cons_zero, List.set_cons_succ]
    refine wpAnyH_take (i := 2) (v := ?vv1003) (by simp only [List.getElem?_toArray, List.getElem?_cons_zero, List.getElem?_cons_succ]; rfl) (by kernel_rfl) (by kernel_rfl) (by kernel_rfl) (fun _ _ _ h => h) (Or.inl ⟨by rfl, ?yy1003⟩) (by assumption) ?rr1003
    case yy1003 => (intro w hSw; (try dsimp only at hSw); go_simp; first | done | with_reducible rfl)
    simp only [Act.put, List.setIfInBounds_toArray, List.set_cons_zero, List.set_cons_succ]
    refine wpAnyH_take (i := 3) (v := ?vv1004) (by simp only [List.getElem?_toArray, List.getElem?_cons_zero, List.getElem?_cons_succ]; rfl) (by kernel_rfl) (by kernel_rfl) (by kernel_rfl) (fun _ _ _ h => h) (Or.inl ⟨by rfl, ?yy1004⟩) (by assumption) ?rr1004
    case yy1004 => (intro w hSw; (try dsimp only at hSw); go_simp; first | done | with_reducible rfl)
    simp only [Act.put, List.setIfInBounds_toArray, List.set_cons_zero, List.set_cons_succ]
    refine wpAnyH_take (i := 4) (v := ?vv1005) (by simp only [List.getElem?_toArray, List.getElem?_cons_zero, List.getElem?_cons_succ]; rfl) (by kernel_rfl) (by kernel_rfl) (by kernel_rfl) (fun _ _ _ h => h) (Or.inl ⟨by rfl, ?yy1005⟩) (by assumption) ?rr1005
    case yy1005 => (intro w hSw; (try dsimp only at hSw); go_simp; first | done | with_reducible rfl)
    simp only [Act.put, List.setIfInBounds_toArray, List.set_cons_zero, List.set_cons_succ]
    refine wpAnyH_take (i := 5) (v := ?vv1006) (by simp only [List.getElem?_toArray, List.getElem?_cons_zero, List.getElem?_cons_succ]; rfl) (by kernel_rfl) (by kernel_rfl) (by kernel_rfl) (fun _ _ _ h => h) (Or.inl ⟨by rfl, ?yy1006⟩) (by assumption) ?rr1006
    case yy1006 => (intro w hSw; (try dsimp only at hSw); go_simp; first | done | with_reducible rfl)
    simp only [Act.put, List.setIfInBounds_toArray, List.set_cons_zero, List.set_cons_succ]
    refine wpAnyH_take (i := 6) (v := ?vv1007) (by simp only [List.getElem?_toArray, List.getElem?_cons_zero, List.getElem?_cons_succ]; rfl) (by kernel_rfl) (by kernel_rfl) (by kernel_rfl) (fun _ _ _ h => h) (Or.inl ⟨by rfl, ?yy1007⟩) (by assumption) ?rr1007
    case yy1007 => (intro w hSw; (try dsimp only at hSw); go_simp; first | done | with_reducible rfl)
    simp only [Act.put, List.setIfInBounds_toArray, List.set_cons_zero, List.set_cons_succ]
    refine wpAnyH_take (i := 7) (v := ?vv1008) (by simp only [List.getElem?_toArray, List.getElem?_cons_zero, List.getElem?_cons_succ]; rfl) (by kernel_rfl) (by kernel_rfl) (by kernel_rfl) (fun _ _ _ h => h) (Or.inl ⟨by rfl, ?yy1008⟩) (by assumption) ?rr1008
    case yy1008 => (intro w hSw; (try dsimp only at hSw); go_simp; first | done | with_reducible rfl)
    simp only [Act.put, List.setIfInBounds_toArray, List.set_cons_zero, List.set_cons_succ]
    refine wpAnyH_take (i := 8) (v := ?vv1009) (by simp only [List.getElem?_toArray, List.getElem?_cons_zero, List.getElem?_cons_succ]; rfl) (by kernel_rfl) (by kernel_rfl) (by kernel_rfl) (fun _ _ _ h => h) (Or.inl ⟨by rfl, ?yy1009⟩) (by assumption) ?rr1009
    case yy1009 => (intro w hSw; (try dsimp only at hSw); go_simp; first | done | with_reducible rfl)
    simp only [Act.put, List.setIfInBounds_toArray, List.set_cons_zero, List.set_cons_succ]
    refine wpAnyH_take (i := 9) (v := ?vv1010) (by simp only [List.getElem?_toArray, List.getElem?_cons_zero, List.getElem?_cons_succ]; rfl) (by kernel_rfl) (by kernel_rfl) (by kernel_rfl) (fun _ _ _ h => h) (Or.inl ⟨by rfl, ?yy1010⟩) (by assumption) ?rr1010
    case yy1010 => (intro w hSw; (try dsimp only at hSw); go_simp; first | done | with_reducible rfl)
    simp only [Act.put, List.setIfInBounds_toArray, List.set_cons_zero, List.set_cons_succ]
    refine wpAnyH_take (i := 10) (v := ?vv1011) (by simp only [List.getElem?_toArray, List.getElem?_cons_zero, List.getElem?_cons_succ]; rfl) (by kernel_rfl) (by kernel_rfl) (by kernel_rfl) (fun _ _ _ h => h) (Or.inl ⟨by rfl, ?yy1011⟩) (by assumption) ?rr1011
    case yy1011 => (intro w hSw; (try dsimp only at hSw); go_simp; first | done | with_reducible rfl)
    simp only [Act.put, List.setIfInBounds_toArray, List.set_cons_zero, List.set_cons_succ]
    refine wpAnyH_ready (rs := [11, 13]) (by kernel_rfl) (by simp) ?_
    refine AllReadyH.cons (by simp only [List.getElem?_toArray, List.getElem?_cons_zero, List.getElem?_cons_succ]; rfl) (fun K hK => ?_) ?_
    · skip
      go_simp
      go_at_call 19
      (with_reducible refine ((CC.out _ (chain hd BD.out))).mono ?_)
      rintro e wq2 ⟨A', c', rfl, ho, hb⟩
      clear hHeld
      replace BD := Lib.hid (chain BD.out hb)
      have QY := Lib.hid ho
      clear ho
      clear hb
      go_wp2_with fail
      refine hK.out _ _ ⟨(BD.out.cell (p := ⟨zn, 0, none⟩) ln0).trans n0, (BD.out.cell (p := ⟨zn, 1, none⟩) ln1).trans n1, (BD.out.cell (p := ⟨zn, 2, none⟩) ln2).trans n2, (BD.out.cell (p := ⟨zn, 3, none⟩) ln3).trans n3⟩ (fun hHeld => ?_)
      clear hK K
      try simp only [Act.put, List.setIfInBounds_toArray, List.set_cons_zero, List.set_cons_succ]
      refine wpAnyH_take (i := 12) (v := ?vv1012) (by simp only [List.getElem?_toArray, List.getElem?_cons_zero, List.getElem?_cons_succ]; rfl) (by kernel_rfl) (by kernel_rfl) (by kernel_rfl) (fun _ _ _ h => h) (Or.inl ⟨by rfl, ?yy1012⟩) (by assumption) ?rr1012
      case yy1012 => (intro w hSw; (try dsimp only at hSw); go_simp; first | done | with_reducible rfl)
      simp only [Act.put, List.setIfInBounds_toArray, List.set_cons_zero, List.set_cons_succ]
      refine wpAnyH_ready (rs := [13]) (by kernel_rfl) (by simp) ?_
      refine AllReadyH.cons (by simp only [List.getElem?_toArray, List.getElem?_cons_zero, List.getElem?_cons_succ]; rfl) (fun K hK => ?_) ?_
      · skip
        go_simp
        clear hHeld
        obtain ⟨z, hB⟩ : ∃ b, b = wq2.heap.size := ⟨_, rfl⟩
        have zl : wq1.heap.size ≤ z := by rw [hB]; exact BD.out.size
        have Rz : Hid (QV (wq2.alloc (.cells #[.int .i64 0, .int .i64 0, .int .i64 0, .int .i64 0, .slice none 0 0] 24)) z #[.int .i64 0, .int .i64 0, .int .i64 0, .int .i64 0, .slice none 0 0]) := by rw [hB]; exact heap_alloc_new wq2 _
        rw [← hB]
        clear hB
        replace BD := Lib.hid (chain_alloc BD.out (.cells #[.int .i64 0, .int .i64 0, .int .i64 0, .int .i64 0, .slice none 0 0] 24))
        replace QY := Lib.hid (QY.out.below (chain_alloc (Below.refl _ wq2) (.cells #[.int .i64 0, .int .i64 0, .int .i64 0, .int .i64 0, .slice none 0 0] 24)))
        refine hK.out _ _ ⟨(BD.out.cell (p := ⟨zn, 0, none⟩) ln0).trans n0, (BD.out.cell (p := ⟨zn, 1, none⟩) ln1).trans n1, (BD.out.cell (p := ⟨zn, 2, none⟩) ln2).trans n2, (BD.out.cell (p := ⟨zn, 3, none⟩) ln3).trans n3⟩ (fun hHeld => ?_)
        clear hK K
        try simp only [Act.put, List.setIfInBounds_toArray, List.set_cons_zero, List.set_cons_succ]
        generalize wq2.alloc (.cells #[.int .i64 0, .int .i64 0, .int .i64 0, .int .i64 0, .slice none 0 0] 24) = wq3 at hHeld Rz BD QY ⊢
        refine wpAnyH_ready (rs := [14]) (by kernel_rfl) (by simp) ?_
        refine AllReadyH.cons (by simp only [List.getElem?_toArray, List.getElem?_cons_zero, List.getElem?_cons_succ]; rfl) (fun K hK => ?_) ?_
        · skip
          obtain ⟨z0, z1, z2, z3, z4, fz⟩ := Rz.out.cells
          have f0 := fz 0
          have f1 := fz 1
          have f2 := fz 2
          have f3 := fz 3
          have f4 := fz 4
          have rz' := Lib.hid Rz.out
          go_simp
          clear hHeld z0 z1 z2 z3 z4 fz f0 f1 f2 f3 f4
          have hS := Lib.hid (sets16 g (P : Int) (t : Int) (Kn : Int) (.slice A' k c') Rz.out QY.out BD.out zl)
          refine hK.out _ _ ⟨(hS.out.2.2.cell (p := ⟨zn, 0, none⟩) ln0).trans n0, (hS.out.2.2.cell (p := ⟨zn, 1, none⟩) ln1).trans n1, (hS.out.2.2.cell (p := ⟨zn, 2, none⟩) ln2).trans n2, (hS.out.2.2.cell (p := ⟨zn, 3, none⟩) ln3).trans n3⟩ (fun hHeld => ?_)
          clear hK K
          try simp only [Act.put, List.setIfInBounds_toArray, List.set_cons_zero, List.set_cons_succ]
          generalize (((((wq3.setCell ⟨z, 0, none⟩ (.int .i64 g)).setCell ⟨z, 1, none⟩ (.int .i64 (P : Int))).setCell ⟨z, 2, none⟩ (.int .i64 (t : Int))).setCell ⟨z, 3, none⟩ (.int .i64 (Kn : Int))).setCell ⟨z, 4, none⟩ (.slice A' k c')) = wq4 at hHeld hS ⊢
          clear rz'
          refine wpAnyH_done (by kernel_rfl) ?_ _
          refine NoPanic.normal ?_
          clear hHeld
          go_wp2_with fail
          go_meet
          exact ⟨z, A', c', rfl, hS.out.1, hS.out.2.1, chain hd hS.out.2.2, Nat.le_trans hd.size zl⟩
        exact AllReadyH.nil
      exact AllReadyH.nil
    refine AllReadyH.cons (by simp only [List.getElem?_toArray, List.getElem?_cons_zero, List.getElem?_cons_succ]; rfl) (fun K hK => ?_) ?_
    · skip
      go_simp
      clear hHeld
      obtain ⟨z, hB⟩ : ∃ b, b = wq1.heap.size := ⟨_, rfl⟩
      have zl : wq1.heap.size ≤ z := by rw [hB]; exact BD.out.size
      have Rz : Hid (QV (wq1.alloc (.cells #[.int .i64 0, .int .i64 0, .int .i64 0, .int .i64 0, .slice none 0 0] 24)) z #[.int .i64 0, .int .i64 0, .int .i64 0, .int .i64 0, .slice none 0 0]) := by rw [hB]; exact heap_alloc_new wq1 _
      rw [← hB]
      clear hB
      replace BD := Lib.hid (chain_alloc BD.out (.cells #[.int .i64 0, .int .i64 0, .int .i64 0, .int .i64 0, .slice none 0 0] 24))
      refine hK.out _ _ ⟨(BD.out.cell (p := ⟨zn, 0, none⟩) ln0).trans n0, (BD.out.cell (p := ⟨zn, 1, none⟩) ln1).trans n1, (BD.out.cell (p := ⟨zn, 2, none⟩) ln2).trans n2, (BD.out.cell (p := ⟨zn, 3, none⟩) ln3).trans n3⟩ (fun hHeld => ?_)
      clear hK K
      try simp only [Act.put, List.setIfInBounds_toArray, List.set_cons_zero, List.set_cons_succ]
      generalize wq1.alloc (.cells #[.int .i64 0, .int .i64 0, .int .i64 0, .int .i64 0, .slice none 0 0] 24) = wq5 at hHeld Rz BD ⊢
      refine wpAnyH_ready (rs := [11]) (by kernel_rfl) (by simp) ?_
      refine AllReadyH.cons (by simp only [List.getElem?_toArray, List.getElem?_cons_zero, List.getElem?_cons_succ]; rfl) (fun K hK => ?_) ?_
      · skip
        go_simp
        go_at_call 19
        (with_reducible refine ((CC.out _ (chain hd BD.out))).mono ?_)
        rintro e wq6 ⟨A', c', rfl, ho, hb⟩
        clear hHeld
        replace BD := Lib.hid (chain BD.out hb)
        have QY := Lib.hid ho
        clear ho
        replace Rz := Lib.hid (Rz.out.below hb)
        clear hb
        go_wp2_with fail
        refine hK.out _ _ ⟨(BD.out.cell (p := ⟨zn, 0, none⟩) ln0).trans n0, (BD.out.cell (p := ⟨zn, 1, none⟩) ln1).trans n1, (BD.out.cell (p := ⟨zn, 2, none⟩) ln2).trans n2, (BD.out.cell (p := ⟨zn, 3, none⟩) ln3).trans n3⟩ (fun hHeld => ?_)
        clear hK K
        try simp only [Act.put, List.setIfInBounds_toArray, List.set_cons_zero, List.set_cons_succ]
        refine wpAnyH_take (i := 12) (v := ?vv1013) (by simp only [List.getElem?_toArray, List.getElem?_cons_zero, List.getElem?_cons_succ]; rfl) (by kernel_rfl) (by kernel_rfl) (by kernel_rfl) (fun _ _ _ h => h) (Or.inl ⟨by rfl, ?yy1013⟩) (by assumption) ?rr1013
        case yy1013 => (intro w hSw; (try dsimp only at hSw); go_simp; first | done | with_reducible rfl)
        simp only [Act.put, List.setIfInBounds_toArray, List.set_cons_zero, List.set_cons_succ]
        refine wpAnyH_ready (rs := [14]) (by kernel_rfl) (by simp) ?_
        refine AllReadyH.cons (by simp only [List.getElem?_toArray, List.getElem?_cons_zero, List.getElem?_cons_succ]; rfl) (fun K hK => ?_) ?_
        · skip
          obtain ⟨z0, z1, z2, z3, z4, fz⟩ := Rz.out.cells
          have f0 := fz 0
          have f1 := fz 1
          have f2 := fz 2
          have f3 := fz 3
          have f4 := fz 4
          have rz' := Lib.hid Rz.out
          go_simp
          clear hHeld z0 z1 z2 z3 z4 fz f0 f1 f2 f3 f4
          have hS := Lib.hid (sets16 g (P : Int) (t : Int) (Kn : Int) (.slice A' k c') Rz.out QY.out BD.out zl)
          refine hK.out _ _ ⟨(hS.out.2.2.cell (p := ⟨zn, 0, none⟩) ln0).trans n0, (hS.out.2.2.cell (p := ⟨zn, 1, none⟩) ln1).trans n1, (hS.out.2.2.cell (p := ⟨zn, 2, none⟩) ln2).trans n2, (hS.out.2.2.cell (p := ⟨zn, 3, none⟩) ln3).trans n3⟩ (fun hHeld => ?_)
          clear hK K
          try simp only [Act.put, List.setIfInBounds_toArray, List.set_cons_zero, List.set_cons_succ]
          generalize (((((wq6.setCell ⟨z, 0, none⟩ (.int .i64 g)).setCell ⟨z, 1, none⟩ (.int .i64 (P : Int))).setCell ⟨z, 2, none⟩ (.int .i64 (t : Int))).setCell ⟨z, 3, none⟩ (.int .i64 (Kn : Int))).setCell ⟨z, 4, none⟩ (.slice A' k c')) = wq7 at hHeld hS ⊢
          clear rz'
          refine wpAnyH_done (by kernel_rfl) ?_ _
          refine NoPanic.normal ?_
          clear hHeld
          go_wp2_with fail
          go_meet
          exact ⟨z, A', c', rfl, hS.out.1, hS.out.2.1, chain hd hS.out.2.2, Nat.le_trans hd.size zl⟩
        exact AllReadyH.nil
      exact AllReadyH.nil
    exact AllReadyH.nil
  case rest =>
    obtain ⟨z, A', c', rfl, QZ, OY, BX, ZL⟩ := hcut
    have Q2 := Lib.hid (QR.out.below BX.out)
    have B5 := Lib.hid (chain B4.out BX.out)
    have W4 : Hid (w.heap.size ≤ w4.heap.size) := B4.out.size
    have CRR : Hid (∀ v, Calls Tryd.prog 12 #[.agg #[.int .i64 g, .int .i64 (P : Int), .int .i64 (t : Int), .int .i64 (Kn : Int), .slice A' k c']] v fun e w' => e = .returned (.bool (rightQ (secQ b))) ∧ Below v.heap.size v w') := fun v => by
      have := right16 ⟨g, (P : Int), (t : Int), (Kn : Int), (b.drop 14).take k⟩ A' k c' v L14.out
      rw [RQH.out] at this
      exact this
    clear CC R14 n0 n1 n2 n3 n4 ln0 ln1 ln2 ln3 sc sb
    obtain ⟨z0, z1, z2, z3, z4, _⟩ := QZ.out.cells
    have zl := QZ.out.lt
    go_wp2_with fail
    refine (CRR.out _).mono ?_
    rintro e w5 ⟨rfl, hb⟩
    have Q5 := Lib.hid (Q2.out.below hb)
    have QZq := Lib.hid (QZ.out.below hb)
    have B6 := Lib.hid (chain B5.out hb)
    have OY5 := Lib.hid (OY.out.below hb)
    obtain ⟨r0, r1, r2, r3, r4, fr⟩ := Q5.out.cells
    have f0 := fr 0; have f1 := fr 1; have f2 := fr 2; have f3 := fr 3; have f4 := fr 4
    clear hb fr z0 z1 z2 z3 z4 zl CRR
    cases hr : rightQ (secQ b) with
    | false =>
      have E : Hid (okQ b = false) := okq_no (fun ⟨_, _, _, h⟩ => by rw [hr] at h; cases h)
      clear hr
      go_wp2_with fail
      exact get_end16 E.out Q5.out.sets (below_sets5 B6.out (Nat.le_of_eq HZR.out.symm) _ _ _ _ _)
    | true =>
      have E : Hid (okQ b = true) := ok_q.2 ⟨LX.out.symm, by rw [RK.out]; exact K50.out, by rw [RK.out]; exact NZ.out, hr⟩
      have e := Lib.hid (SQ.out hr)
      obtain ⟨z0, z1, z2, z3, z4, _⟩ := QZq.out.cells
      have zl := QZq.out.lt
      clear hr
      go_wp2_with fail
      have hS := sets16 g (P : Int) (t : Int) (Kn : Int) (.slice A' k c') Q5.out OY5.out B6.out (Nat.le_of_eq HZR.out.symm)
      generalize (((((w5.setCell ⟨zr, 0, none⟩ (.int .i64 g)).setCell ⟨zr, 1, none⟩ (.int .i64 (P : Int))).setCell ⟨zr, 2, none⟩ (.int .i64 (t : Int))).setCell ⟨zr, 3, none⟩ (.int .i64 (Kn : Int))).setCell ⟨zr, 4, none⟩ (.slice A' k c')) = V at hS ⊢
      obtain ⟨s0, s1, s2, s3, s4, _⟩ := hS.1.cells
      have hnew := own_new hS.2.1
      obtain ⟨A2, c2, e2, _, hR, hc2, _⟩ := own_cap bcells_len (by decide) hS.2.1
      injection e2 with e2 _ e3
      subst e2 e3
      have e := e.out
      refine bodyPost_ret (v := .tuple #[secv (secQ b) A' k c', .bool true]) (by rw [e]; simp [results, Tryd.results10, go_sem, secv, s0, s1, s2, s3, s4]) rfl ?_
      exact ⟨A', c', k, by rw [getq_yes E.out, E.out], by rw [getq_yes E.out, e]; exact L14.out, by rw [getq_yes E.out, e]; exact hR, hS.2.2, hc2, fun a q => Nat.le_trans W4.out (hnew a q)⟩

end Go.Proofs.YtjokaaekliapmaaDoor
