/-
  The fixed questions of the laws of layer 15.
-/
import Derived.Test.YtpdedeaejlkokaaDHead
namespace Go.Proofs.Ytpdedeaejlkokaa
open Go.RowKit

/-- The disks that the fixed questions go through. -/
def hk0 : Dk := dkNew 3
def hk1 : Dk := (dkWrite hk0 0 (fillB 1)).1
def hk2 : Dk := (dkSync hk1).1
def hk3 : Dk := (dkWrite hk2 0 (fillB 2)).1
def hk4 : Dk := (dkWrite hk3 1 (fillB 3)).1
def hk5 : Dk := (dkWrite hk4 2 (fillB 4)).1
def hk6 : Dk := dkFuse hk5 0
def hk7 : Dk := dkCrash hk6 [false, true, true] 2
theorem hw1 : dkWrite hk0 0 (fillB 1) = (hk1, 0) := by kernel_rfl
theorem hw2 : dkSync hk1 = (hk2, 0) := by kernel_rfl
theorem hw3 : dkWrite hk2 0 (fillB 2) = (hk3, 0) := by kernel_rfl
theorem hw4 : dkWrite hk3 1 (fillB 3) = (hk4, 0) := by kernel_rfl
theorem hw5 : dkWrite hk4 2 (fillB 4) = (hk5, 0) := by kernel_rfl
theorem hw6 : dkWrite hk5 3 (fillB 5) = (hk5, 3) := by kernel_rfl
theorem hw7 : dkWrite hk5 1 [] = (hk5, 1) := by kernel_rfl
theorem hw8 : dkSync hk6 = (hk6, 42) := by kernel_rfl
theorem hr0 : dkRead hk7 0 = (fillB 1, 0) := by kernel_rfl
theorem hr1 : dkRead hk7 1 = (fillB 3, 0) := by kernel_rfl
theorem hr2 : dkRead hk7 2 = ([], 41) := by kernel_rfl
theorem hr3 : dkRead hk7 3 = ([], 3) := by kernel_rfl
theorem fill_one (w : World) : Calls Try.prog 24 #[.int .u8 1] w (RowNew bcells (fillB 1) w) := fill15n 1 w
theorem fill_three (w : World) : Calls Try.prog 24 #[.int .u8 3] w (RowNew bcells (fillB 3) w) := fill15n 3 w
theorem ho0 : DkOk 3 hk0 := dk_new 3
theorem ho1 : DkOk 3 hk1 := ho0.write _ _
theorem ho2 : DkOk 3 hk2 := ho1.sync
theorem ho3 : DkOk 3 hk3 := ho2.write _ _
theorem ho4 : DkOk 3 hk4 := ho3.write _ _
theorem ho5 : DkOk 3 hk5 := ho4.write _ _
theorem ho6 : DkOk 3 hk6 := ho5.fuse _
theorem ho7 : DkOk 3 hk7 := ho6.crash _ _

set_option maxHeartbeats 8000000 in
set_option maxRecDepth 100000 in
theorem head15 (w : World) : Calls Try.prog 10 #[] w fun e w' => e = .returned (.bool true) ∧ Below w.heap.size w w' := by
  go_enter Try.func10, Try.ntmps10
  have B0 : Hid (Below w.heap.size w w) := Below.refl _ _
  have QB : Hid (w.heap.size ≤ w.heap.size) := Nat.le_refl _
  go_wp2_with fail
  refine (new15_yes 3 (by omega) _).mono ?_
  rintro e w1 ⟨gd, Od, rfl, hD, hb⟩
  have Sd : Hid (w.heap.size ≤ w1.heap.size) := hb.size
  have B1 := Lib.hid (chain B0.out hb)
  clear hb B0
  have Dd := Lib.hid hD
  clear hD
  go_wp2_with fail
  refine (new15_no (-1) (by omega) _).mono ?_
  rintro e w2 ⟨rfl, hb⟩
  have B2 := Lib.hid (chain B1.out hb)
  replace Dd := Lib.hid (Dd.out.below hb)
  replace Sd := Lib.hid (Nat.le_trans Sd.out hb.size)
  clear hb B1
  go_wp2_with fail
  refine (new15_no (4097) (by omega) _).mono ?_
  rintro e w3 ⟨rfl, hb⟩
  have B3 := Lib.hid (chain B2.out hb)
  replace Dd := Lib.hid (Dd.out.below hb)
  replace Sd := Lib.hid (Nat.le_trans Sd.out hb.size)
  clear hb B2
  go_wp2_with fail
  refine (fill15 (1) _).mono ?_
  rintro e w4 ⟨v, rfl, hv, hb⟩
  obtain ⟨Ap, cp, rfl, h1, h2, _, _⟩ := own_cap bcells_len (by decide) hv
  have Zp : ∀ a, Ap = some a → w3.heap.size ≤ a.block ∧ a.block < w4.heap.size := fun a q => hv.lt a.block (by rw [q]; rfl)
  have Rp := Lib.hid h2
  have Lp : Hid (∀ a, Ap = some a → a.block < w4.heap.size) := fun a q => (Zp a q).2
  have Ndp : Hid (∀ a, Ap = some a → ¬ Od a.block) := fun a q z => by have := (Zp a q).1; have := (Dd.out.lt _ z).2; omega
  clear h1 h2 hv Zp
  have B4 := Lib.hid (chain B3.out hb)
  replace Dd := Lib.hid (Dd.out.below hb)
  replace Sd := Lib.hid (Nat.le_trans Sd.out hb.size)
  clear hb B3
  go_wp2_with fail
  refine (write15 _ _ _ hk0 0 Ap _ cp (fillB 1) _ Dd.out Sd.out Rp.out rfl (fun _ => Ndp.out) ⟨by decide, by decide⟩ ⟨by decide, by decide⟩).mono ?_
  rintro e w5 ⟨rfl, hD, hK⟩
  have B5 := Lib.hid (B4.out.trans (hK.1.mono QB.out))
  replace Rp := Lib.hid (Rp.out.keptO hK (fun _ => Ndp.out))
  replace Ndp : Hid (∀ a, Ap = some a → ¬ Grow Od w4 w5 a.block) := fun a q z => by rcases z with z | z; exact Ndp.out a q z; have := Lp.out a q; omega
  replace Lp : Hid (∀ a, Ap = some a → a.block < w5.heap.size) := fun a q => Nat.lt_of_lt_of_le (Lp.out a q) hK.1.size
  have oe : ∃ O, O = Grow Od w4 w5 := ⟨_, rfl⟩
  obtain ⟨O9, hO⟩ := oe
  rw [← hO] at hD
  rw [← hO] at Ndp
  replace Dd := Lib.hid hD
  replace Sd := Lib.hid (Nat.le_trans Sd.out hK.1.size)
  clear  hD hK hO B4 Od
  obtain ⟨Od, hO⟩ : ∃ O, O = O9 := ⟨_, rfl⟩
  subst hO
  rw [hw1] at Dd ⊢
  go_wp2_with fail
  clear Rp Lp Ndp
  refine (sync15 _ _ _ 3 hk1 _ Dd.out Sd.out ho1 (by decide) (by decide) (by decide)).mono ?_
  rintro e w6 ⟨rfl, hD, hK⟩
  have B6 := Lib.hid (B5.out.trans (hK.1.mono QB.out))
  have oe : ∃ O, O = Grow Od w5 w6 := ⟨_, rfl⟩
  obtain ⟨O9, hO⟩ := oe
  rw [← hO] at hD
  replace Dd := Lib.hid hD
  replace Sd := Lib.hid (Nat.le_trans Sd.out hK.1.size)
  clear  hD hK hO B5 Od
  obtain ⟨Od, hO⟩ : ∃ O, O = O9 := ⟨_, rfl⟩
  subst hO
  rw [hw2] at Dd ⊢
  try dsimp only at Dd
  go_wp2_with fail
  refine (fill15 (2) _).mono ?_
  rintro e w7 ⟨v, rfl, hv, hb⟩
  obtain ⟨Ap2, cp2, rfl, h1, h2, _, _⟩ := own_cap bcells_len (by decide) hv
  have Zp2 : ∀ a, Ap2 = some a → w6.heap.size ≤ a.block ∧ a.block < w7.heap.size := fun a q => hv.lt a.block (by rw [q]; rfl)
  have Rp2 := Lib.hid h2
  have Lp2 : Hid (∀ a, Ap2 = some a → a.block < w7.heap.size) := fun a q => (Zp2 a q).2
  have Ndp2 : Hid (∀ a, Ap2 = some a → ¬ Od a.block) := fun a q z => by have := (Zp2 a q).1; have := (Dd.out.lt _ z).2; omega
  clear h1 h2 hv Zp2
  have B7 := Lib.hid (chain B6.out hb)
  replace Dd := Lib.hid (Dd.out.below hb)
  replace Sd := Lib.hid (Nat.le_trans Sd.out hb.size)
  clear hb B6
  go_wp2_with fail
  refine (write15 _ _ _ hk2 0 Ap2 _ cp2 (fillB 2) _ Dd.out Sd.out Rp2.out rfl (fun _ => Ndp2.out) ⟨by decide, by decide⟩ ⟨by decide, by decide⟩).mono ?_
  rintro e w8 ⟨rfl, hD, hK⟩
  have B8 := Lib.hid (B7.out.trans (hK.1.mono QB.out))
  replace Rp2 := Lib.hid (Rp2.out.keptO hK (fun _ => Ndp2.out))
  replace Ndp2 : Hid (∀ a, Ap2 = some a → ¬ Grow Od w7 w8 a.block) := fun a q z => by rcases z with z | z; exact Ndp2.out a q z; have := Lp2.out a q; omega
  replace Lp2 : Hid (∀ a, Ap2 = some a → a.block < w8.heap.size) := fun a q => Nat.lt_of_lt_of_le (Lp2.out a q) hK.1.size
  have oe : ∃ O, O = Grow Od w7 w8 := ⟨_, rfl⟩
  obtain ⟨O9, hO⟩ := oe
  rw [← hO] at hD
  rw [← hO] at Ndp2
  replace Dd := Lib.hid hD
  replace Sd := Lib.hid (Nat.le_trans Sd.out hK.1.size)
  clear  hD hK hO B7 Od
  obtain ⟨Od, hO⟩ : ∃ O, O = O9 := ⟨_, rfl⟩
  subst hO
  rw [hw3] at Dd ⊢
  try dsimp only at Dd
  clear Rp2 Lp2 Ndp2
  go_wp2_with fail
  refine (fill15 (3) _).mono ?_
  rintro e w9 ⟨v, rfl, hv, hb⟩
  obtain ⟨Ap3, cp3, rfl, h1, h2, _, _⟩ := own_cap bcells_len (by decide) hv
  have Zp3 : ∀ a, Ap3 = some a → w8.heap.size ≤ a.block ∧ a.block < w9.heap.size := fun a q => hv.lt a.block (by rw [q]; rfl)
  have Rp3 := Lib.hid h2
  have Lp3 : Hid (∀ a, Ap3 = some a → a.block < w9.heap.size) := fun a q => (Zp3 a q).2
  have Ndp3 : Hid (∀ a, Ap3 = some a → ¬ Od a.block) := fun a q z => by have := (Zp3 a q).1; have := (Dd.out.lt _ z).2; omega
  clear h1 h2 hv Zp3
  have B9 := Lib.hid (chain B8.out hb)
  replace Dd := Lib.hid (Dd.out.below hb)
  replace Sd := Lib.hid (Nat.le_trans Sd.out hb.size)
  clear hb B8
  go_wp2_with fail
  refine (write15 _ _ _ hk3 1 Ap3 _ cp3 (fillB 3) _ Dd.out Sd.out Rp3.out rfl (fun _ => Ndp3.out) ⟨by decide, by decide⟩ ⟨by decide, by decide⟩).mono ?_
  rintro e w10 ⟨rfl, hD, hK⟩
  have B10 := Lib.hid (B9.out.trans (hK.1.mono QB.out))
  replace Rp3 := Lib.hid (Rp3.out.keptO hK (fun _ => Ndp3.out))
  replace Ndp3 : Hid (∀ a, Ap3 = some a → ¬ Grow Od w9 w10 a.block) := fun a q z => by rcases z with z | z; exact Ndp3.out a q z; have := Lp3.out a q; omega
  replace Lp3 : Hid (∀ a, Ap3 = some a → a.block < w10.heap.size) := fun a q => Nat.lt_of_lt_of_le (Lp3.out a q) hK.1.size
  have oe : ∃ O, O = Grow Od w9 w10 := ⟨_, rfl⟩
  obtain ⟨O9, hO⟩ := oe
  rw [← hO] at hD
  rw [← hO] at Ndp3
  replace Dd := Lib.hid hD
  replace Sd := Lib.hid (Nat.le_trans Sd.out hK.1.size)
  clear  hD hK hO B9 Od
  obtain ⟨Od, hO⟩ : ∃ O, O = O9 := ⟨_, rfl⟩
  subst hO
  rw [hw4] at Dd ⊢
  try dsimp only at Dd
  clear Rp3 Lp3 Ndp3
  go_wp2_with fail
  refine (fill15 (4) _).mono ?_
  rintro e w11 ⟨v, rfl, hv, hb⟩
  obtain ⟨Ap4, cp4, rfl, h1, h2, _, _⟩ := own_cap bcells_len (by decide) hv
  have Zp4 : ∀ a, Ap4 = some a → w10.heap.size ≤ a.block ∧ a.block < w11.heap.size := fun a q => hv.lt a.block (by rw [q]; rfl)
  have Rp4 := Lib.hid h2
  have Lp4 : Hid (∀ a, Ap4 = some a → a.block < w11.heap.size) := fun a q => (Zp4 a q).2
  have Ndp4 : Hid (∀ a, Ap4 = some a → ¬ Od a.block) := fun a q z => by have := (Zp4 a q).1; have := (Dd.out.lt _ z).2; omega
  clear h1 h2 hv Zp4
  have B11 := Lib.hid (chain B10.out hb)
  replace Dd := Lib.hid (Dd.out.below hb)
  replace Sd := Lib.hid (Nat.le_trans Sd.out hb.size)
  clear hb B10
  go_wp2_with fail
  refine (write15 _ _ _ hk4 2 Ap4 _ cp4 (fillB 4) _ Dd.out Sd.out Rp4.out rfl (fun _ => Ndp4.out) ⟨by decide, by decide⟩ ⟨by decide, by decide⟩).mono ?_
  rintro e w12 ⟨rfl, hD, hK⟩
  have B12 := Lib.hid (B11.out.trans (hK.1.mono QB.out))
  replace Rp4 := Lib.hid (Rp4.out.keptO hK (fun _ => Ndp4.out))
  replace Ndp4 : Hid (∀ a, Ap4 = some a → ¬ Grow Od w11 w12 a.block) := fun a q z => by rcases z with z | z; exact Ndp4.out a q z; have := Lp4.out a q; omega
  replace Lp4 : Hid (∀ a, Ap4 = some a → a.block < w12.heap.size) := fun a q => Nat.lt_of_lt_of_le (Lp4.out a q) hK.1.size
  have oe : ∃ O, O = Grow Od w11 w12 := ⟨_, rfl⟩
  obtain ⟨O9, hO⟩ := oe
  rw [← hO] at hD
  rw [← hO] at Ndp4
  replace Dd := Lib.hid hD
  replace Sd := Lib.hid (Nat.le_trans Sd.out hK.1.size)
  clear  hD hK hO B11 Od
  obtain ⟨Od, hO⟩ : ∃ O, O = O9 := ⟨_, rfl⟩
  subst hO
  rw [hw5] at Dd ⊢
  try dsimp only at Dd
  clear Rp4 Lp4 Ndp4
  go_wp2_with fail
  refine (fill15 (5) _).mono ?_
  rintro e w13 ⟨v, rfl, hv, hb⟩
  obtain ⟨Ap5, cp5, rfl, h1, h2, _, _⟩ := own_cap bcells_len (by decide) hv
  have Zp5 : ∀ a, Ap5 = some a → w12.heap.size ≤ a.block ∧ a.block < w13.heap.size := fun a q => hv.lt a.block (by rw [q]; rfl)
  have Rp5 := Lib.hid h2
  have Lp5 : Hid (∀ a, Ap5 = some a → a.block < w13.heap.size) := fun a q => (Zp5 a q).2
  have Ndp5 : Hid (∀ a, Ap5 = some a → ¬ Od a.block) := fun a q z => by have := (Zp5 a q).1; have := (Dd.out.lt _ z).2; omega
  clear h1 h2 hv Zp5
  have B13 := Lib.hid (chain B12.out hb)
  replace Dd := Lib.hid (Dd.out.below hb)
  replace Sd := Lib.hid (Nat.le_trans Sd.out hb.size)
  clear hb B12
  go_wp2_with fail
  refine (write15 _ _ _ hk5 3 Ap5 _ cp5 (fillB 5) _ Dd.out Sd.out Rp5.out rfl (fun _ => Ndp5.out) ⟨by decide, by decide⟩ ⟨by decide, by decide⟩).mono ?_
  rintro e w14 ⟨rfl, hD, hK⟩
  have B14 := Lib.hid (B13.out.trans (hK.1.mono QB.out))
  replace Rp5 := Lib.hid (Rp5.out.keptO hK (fun _ => Ndp5.out))
  replace Ndp5 : Hid (∀ a, Ap5 = some a → ¬ Grow Od w13 w14 a.block) := fun a q z => by rcases z with z | z; exact Ndp5.out a q z; have := Lp5.out a q; omega
  replace Lp5 : Hid (∀ a, Ap5 = some a → a.block < w14.heap.size) := fun a q => Nat.lt_of_lt_of_le (Lp5.out a q) hK.1.size
  have oe : ∃ O, O = Grow Od w13 w14 := ⟨_, rfl⟩
  obtain ⟨O9, hO⟩ := oe
  rw [← hO] at hD
  rw [← hO] at Ndp5
  replace Dd := Lib.hid hD
  replace Sd := Lib.hid (Nat.le_trans Sd.out hK.1.size)
  clear  hD hK hO B13 Od
  obtain ⟨Od, hO⟩ : ∃ O, O = O9 := ⟨_, rfl⟩
  subst hO
  rw [hw6] at Dd ⊢
  try dsimp only at Dd
  clear Rp5 Lp5 Ndp5
  go_wp2_with fail
  refine (write15 _ _ _ hk5 1 none _ 0 [] _ Dd.out Sd.out (Rg.nil _ _ _) rfl (fun _ a q => by cases q) ⟨by decide, by decide⟩ ⟨by decide, by decide⟩).mono ?_
  rintro e w15 ⟨rfl, hD, hK⟩
  have B15 := Lib.hid (B14.out.trans (hK.1.mono QB.out))
  have oe : ∃ O, O = Grow Od w14 w15 := ⟨_, rfl⟩
  obtain ⟨O9, hO⟩ := oe
  rw [← hO] at hD
  replace Dd := Lib.hid hD
  replace Sd := Lib.hid (Nat.le_trans Sd.out hK.1.size)
  clear  hD hK hO B14 Od
  obtain ⟨Od, hO⟩ : ∃ O, O = O9 := ⟨_, rfl⟩
  subst hO
  rw [hw7] at Dd ⊢
  try dsimp only at Dd
  go_wp2_with fail
  refine (pend15 _ _ _ _ _ Dd.out).mono ?_
  rintro e w16 ⟨rfl, hb⟩
  have B16 := Lib.hid (chain B15.out hb)
  replace Dd := Lib.hid (Dd.out.below hb)
  replace Sd := Lib.hid (Nat.le_trans Sd.out hb.size)
  clear hb B15
  rw [show hk5.p.length = 3 from rfl]
  go_wp2_with fail
  refine (fuse15 _ _ _ hk5 0 _ Dd.out).mono ?_
  rintro e w17 ⟨rfl, hD, hK⟩
  have B17 := Lib.hid (B16.out.trans (hK.1.mono QB.out))
  have oe : ∃ O, O = Grow Od w16 w17 := ⟨_, rfl⟩
  obtain ⟨O9, hO⟩ := oe
  rw [← hO] at hD
  replace Dd := Lib.hid hD
  replace Sd := Lib.hid (Nat.le_trans Sd.out hK.1.size)
  clear  hD hK hO B16 Od
  obtain ⟨Od, hO⟩ : ∃ O, O = O9 := ⟨_, rfl⟩
  subst hO
  replace Dd : Hid (DI _ _ hk6 _ _) := Dd
  go_wp2_with fail
  refine (sync15 _ _ _ 3 hk6 _ Dd.out Sd.out ho6 (by decide) (by decide) (by decide)).mono ?_
  rintro e w18 ⟨rfl, hD, hK⟩
  have B18 := Lib.hid (B17.out.trans (hK.1.mono QB.out))
  have oe : ∃ O, O = Grow Od w17 w18 := ⟨_, rfl⟩
  obtain ⟨O9, hO⟩ := oe
  rw [← hO] at hD
  replace Dd := Lib.hid hD
  replace Sd := Lib.hid (Nat.le_trans Sd.out hK.1.size)
  clear  hD hK hO B17 Od
  obtain ⟨Od, hO⟩ : ∃ O, O = O9 := ⟨_, rfl⟩
  subst hO
  rw [hw8] at Dd ⊢
  try dsimp only at Dd
  go_wp2_with fail
  have hb := chain_alloc (Below.refl _ w18) (.cells #[.bool false, .bool true, .bool true] 4)
  have rk : Rg qcells (w18.alloc (.cells #[.bool false, .bool true, .bool true] 4)) (some ⟨w18.heap.size, 0, none⟩) [false, true, true] := rg_block (heap_alloc_new w18 _) rfl
  obtain ⟨kb, hkb⟩ : ∃ k, k = w18.heap.size := ⟨_, rfl⟩
  have NK : Hid (∀ a, some (⟨kb, 0, none⟩ : Addr) = some a → ¬ Od a.block) := fun a q z => by obtain rfl := Option.some.inj q; have := (Dd.out.lt _ z).2; dsimp only at this; omega
  rw [← hkb] at rk ⊢
  generalize w18.alloc (.cells #[.bool false, .bool true, .bool true] 4) = w19 at hb rk ⊢
  have RK := Lib.hid rk
  clear rk hkb
  have B19 := Lib.hid (chain B18.out hb)
  replace Dd := Lib.hid (Dd.out.below hb)
  replace Sd := Lib.hid (Nat.le_trans Sd.out hb.size)
  clear hb B18
  refine (crash15 _ _ _ 3 hk6 [false, true, true] 2 (some ⟨kb, 0, none⟩) 3 3 _ Dd.out Sd.out ho6 (by decide) (by decide) RK.out rfl (fun _ => NK.out)).mono ?_
  rintro e w20 ⟨rfl, hD, hK⟩
  have B20 := Lib.hid (B19.out.trans (hK.1.mono QB.out))
  have oe : ∃ O, O = Grow Od w19 w20 := ⟨_, rfl⟩
  obtain ⟨O9, hO⟩ := oe
  rw [← hO] at hD
  replace Dd := Lib.hid hD
  replace Sd := Lib.hid (Nat.le_trans Sd.out hK.1.size)
  clear NK RK hD hK hO B19 Od
  obtain ⟨Od, hO⟩ : ∃ O, O = O9 := ⟨_, rfl⟩
  subst hO
  replace Dd : Hid (DI _ _ hk7 _ _) := Dd
  go_wp2_with fail
  refine (read15 _ _ _ 3 hk7 0 _ Dd.out ho7 (by decide) (by decide)).mono ?_
  rintro e w21 ⟨Ax0, nx0, cx0, rfl, h1, h2, hb, h3, h4, h5⟩
  rw [hr0] at h1 h2 ⊢
  have Rx0 := Lib.hid h2; have Mx0 := Lib.hid h1
  clear h1 h2 h3 h4 h5
  have B21 := Lib.hid (chain B20.out hb)
  replace Dd := Lib.hid (Dd.out.below hb)
  replace Sd := Lib.hid (Nat.le_trans Sd.out hb.size)
  clear hb B20
  go_wp2_with fail
  refine (read15 _ _ _ 3 hk7 1 _ Dd.out ho7 (by decide) (by decide)).mono ?_
  rintro e w22 ⟨Ax1, nx1, cx1, rfl, h1, h2, hb, h3, h4, h5⟩
  rw [hr1] at h1 h2 ⊢
  have Rx1 := Lib.hid h2; have Mx1 := Lib.hid h1
  clear h1 h2 h3 h4 h5
  have B22 := Lib.hid (chain B21.out hb)
  replace Dd := Lib.hid (Dd.out.below hb)
  replace Sd := Lib.hid (Nat.le_trans Sd.out hb.size)
  replace Rx0 := Lib.hid (Rx0.out.below hb)
  clear hb B21
  go_wp2_with fail
  refine (read15 _ _ _ 3 hk7 2 _ Dd.out ho7 (by decide) (by decide)).mono ?_
  rintro e w23 ⟨Ax2, nx2, cx2, rfl, h1, h2, hb, h3, h4, h5⟩
  rw [hr2] at h1 h2 ⊢
  have Rx2 := Lib.hid h2; have Mx2 := Lib.hid h1
  clear h1 h2 h3 h4 h5
  have B23 := Lib.hid (chain B22.out hb)
  replace Dd := Lib.hid (Dd.out.below hb)
  replace Sd := Lib.hid (Nat.le_trans Sd.out hb.size)
  replace Rx0 := Lib.hid (Rx0.out.below hb)
  replace Rx1 := Lib.hid (Rx1.out.below hb)
  clear hb B22
  go_wp2_with fail
  refine (read15 _ _ _ 3 hk7 3 _ Dd.out ho7 (by decide) (by decide)).mono ?_
  rintro e w24 ⟨Ax3, nx3, cx3, rfl, h1, h2, hb, h3, h4, h5⟩
  rw [hr3] at h1 h2 ⊢
  have Rx3 := Lib.hid h2; have Mx3 := Lib.hid h1
  clear h1 h2 h3 h4 h5
  have B24 := Lib.hid (chain B23.out hb)
  replace Dd := Lib.hid (Dd.out.below hb)
  replace Sd := Lib.hid (Nat.le_trans Sd.out hb.size)
  replace Rx0 := Lib.hid (Rx0.out.below hb)
  replace Rx1 := Lib.hid (Rx1.out.below hb)
  replace Rx2 := Lib.hid (Rx2.out.below hb)
  clear hb B23
  go_wp2_with fail
  simp only [List.append]
  have CP : Hid (∀ v : World, DI w.heap.size Od hk7 gd v → Calls Try.prog 16 #[.pointer (some ⟨gd, 0, none⟩)] v fun e w' => e = .returned (.int .i64 0) ∧ Below v.heap.size v w') := fun v h => pend15 _ _ _ hk7 v h
  have CS : Hid (∀ v : World, DI w.heap.size Od hk7 gd v → Calls Try.prog 18 #[.pointer (some ⟨gd, 0, none⟩)] v fun e w' => e = .returned (.int .i64 3) ∧ Below v.heap.size v w') := fun v h => sect15 _ _ _ hk7 v h
  clear Rx2 Rx3 Mx2 Mx3
  have tx0 := text_of (c := cx0) Rx0.out Mx0.out
  have tx1 := text_of (c := cx1) Rx1.out Mx1.out
  refine wp_region_noPanic ?_
  refine wp_region_held_drew (S := fun w' => Below w24.drew.heap.size w24.drew w') (by kernel_rfl) (Below.refl _ _) (fun hHeld => ?_)
  have hb := below_drew w24
  generalize w24.drew = w25 at hb hHeld ⊢
  replace Dd := Lib.hid (Dd.out.below hb)
  have B25 := Lib.hid (chain B24.out hb)
  replace Rx0 := Lib.hid (Rx0.out.below hb)
  replace Rx1 := Lib.hid (Rx1.out.below hb)
  clear tx0 tx1
  clear hb B24
  clear hHeld
  have hHeld : Below w25.heap.size w25 w25 := Below.refl _ _
  refine wpAnyH_take (i := 0) (v := ?vv1) (by simp only [List.getElem?_toArray, List.getElem?_cons_zero]; rfl) (by kernel_rfl) (by kernel_rfl) (by kernel_rfl) (fun _ _ _ h => h) (Or.inl ⟨by rfl, ?yy1⟩) (by assumption) ?rr1
  case yy1 => (intro w' hSw; go_simp; first | done | with_reducible rfl)
  simp only [Act.put, List.setIfInBounds_toArray, List.set_cons_zero, List.set_cons_succ]
  refine wpAnyH_take (i := 1) (v := ?vv2) (by simp only [List.getElem?_toArray, List.getElem?_cons_zero, List.getElem?_cons_succ]; rfl) (by kernel_rfl) (by kernel_rfl) (by kernel_rfl) (fun _ _ _ h => h) (Or.inl ⟨by rfl, ?yy2⟩) (by assumption) ?rr2
  case yy2 => (intro w' hSw; go_simp; first | done | with_reducible rfl)
  simp only [Act.put, List.setIfInBounds_toArray, List.set_cons_zero, List.set_cons_succ]
  refine wpAnyH_take (i := 2) (v := ?vv3) (by simp only [List.getElem?_toArray, List.getElem?_cons_zero, List.getElem?_cons_succ]; rfl) (by kernel_rfl) (by kernel_rfl) (by kernel_rfl) (fun _ _ _ h => h) (Or.inl ⟨by rfl, ?yy3⟩) (by assumption) ?rr3
  case yy3 => (intro w' hSw; go_simp; first | done | with_reducible rfl)
  simp only [Act.put, List.setIfInBounds_toArray, List.set_cons_zero, List.set_cons_succ]
  refine wpAnyH_take (i := 3) (v := ?vv4) (by simp only [List.getElem?_toArray, List.getElem?_cons_zero, List.getElem?_cons_succ]; rfl) (by kernel_rfl) (by kernel_rfl) (by kernel_rfl) (fun _ _ _ h => h) (Or.inl ⟨by rfl, ?yy4⟩) (by assumption) ?rr4
  case yy4 => (intro w' hSw; go_simp; first | done | with_reducible rfl)
  simp only [Act.put, List.setIfInBounds_toArray, List.set_cons_zero, List.set_cons_succ]
  refine wpAnyH_take (i := 4) (v := ?vv5) (by simp only [List.getElem?_toArray, List.getElem?_cons_zero, List.getElem?_cons_succ]; rfl) (by kernel_rfl) (by kernel_rfl) (by kernel_rfl) (fun _ _ _ h => h) (Or.inl ⟨by rfl, ?yy5⟩) (by assumption) ?rr5
  case yy5 => (intro w' hSw; go_simp; first | done | with_reducible rfl)
  simp only [Act.put, List.setIfInBounds_toArray, List.set_cons_zero, List.set_cons_succ]
  refine wpAnyH_take (i := 5) (v := ?vv6) (by simp only [List.getElem?_toArray, List.getElem?_cons_zero, List.getElem?_cons_succ]; rfl) (by kernel_rfl) (by kernel_rfl) (by kernel_rfl) (fun _ _ _ h => h) (Or.inl ⟨by rfl, ?yy6⟩) (by assumption) ?rr6
  case yy6 => (intro w' hSw; go_simp; first | done | with_reducible rfl)
  simp only [Act.put, List.setIfInBounds_toArray, List.set_cons_zero, List.set_cons_succ]
  refine wpAnyH_take (i := 6) (v := ?vv7) (by simp only [List.getElem?_toArray, List.getElem?_cons_zero, List.getElem?_cons_succ]; rfl) (by kernel_rfl) (by kernel_rfl) (by kernel_rfl) (fun _ _ _ h => h) (Or.inl ⟨by rfl, ?yy7⟩) (by assumption) ?rr7
  case yy7 => (intro w' hSw; go_simp; first | done | with_reducible rfl)
  simp only [Act.put, List.setIfInBounds_toArray, List.set_cons_zero, List.set_cons_succ]
  refine wpAnyH_take (i := 7) (v := ?vv8) (by simp only [List.getElem?_toArray, List.getElem?_cons_zero, List.getElem?_cons_succ]; rfl) (by kernel_rfl) (by kernel_rfl) (by kernel_rfl) (fun _ _ _ h => h) (Or.inl ⟨by rfl, ?yy8⟩) (by assumption) ?rr8
  case yy8 => (intro w' hSw; go_simp; first | done | with_reducible rfl)
  simp only [Act.put, List.setIfInBounds_toArray, List.set_cons_zero, List.set_cons_succ]
  refine wpAnyH_take (i := 8) (v := ?vv9) (by simp only [List.getElem?_toArray, List.getElem?_cons_zero, List.getElem?_cons_succ]; rfl) (by kernel_rfl) (by kernel_rfl) (by kernel_rfl) (fun _ _ _ h => h) (Or.inl ⟨by rfl, ?yy9⟩) (by assumption) ?rr9
  case yy9 => (intro w' hSw; go_simp; first | done | with_reducible rfl)
  simp only [Act.put, List.setIfInBounds_toArray, List.set_cons_zero, List.set_cons_succ]
  refine wpAnyH_take (i := 9) (v := ?vv10) (by simp only [List.getElem?_toArray, List.getElem?_cons_zero, List.getElem?_cons_succ]; rfl) (by kernel_rfl) (by kernel_rfl) (by kernel_rfl) (fun _ _ _ h => h) (Or.inl ⟨by rfl, ?yy10⟩) (by assumption) ?rr10
  case yy10 => (intro w' hSw; go_simp; first | done | with_reducible rfl)
  simp only [Act.put, List.setIfInBounds_toArray, List.set_cons_zero, List.set_cons_succ]
  refine wpAnyH_take (i := 10) (v := ?vv11) (by simp only [List.getElem?_toArray, List.getElem?_cons_zero, List.getElem?_cons_succ]; rfl) (by kernel_rfl) (by kernel_rfl) (by kernel_rfl) (fun _ _ _ h => h) (Or.inl ⟨by rfl, ?yy11⟩) (by assumption) ?rr11
  case yy11 => (intro w' hSw; go_simp; first | done | with_reducible rfl)
  simp only [Act.put, List.setIfInBounds_toArray, List.set_cons_zero, List.set_cons_succ]
  refine wpAnyH_take (i := 11) (v := ?vv12) (by simp only [List.getElem?_toArray, List.getElem?_cons_zero, List.getElem?_cons_succ]; rfl) (by kernel_rfl) (by kernel_rfl) (by kernel_rfl) (fun _ _ _ h => h) (Or.inl ⟨by rfl, ?yy12⟩) (by assumption) ?rr12
  case yy12 => (intro w' hSw; go_simp; first | done | with_reducible rfl)
  simp only [Act.put, List.setIfInBounds_toArray, List.set_cons_zero, List.set_cons_succ]
  refine wpAnyH_take (i := 12) (v := ?vv13) (by simp only [List.getElem?_toArray, List.getElem?_cons_zero, List.getElem?_cons_succ]; rfl) (by kernel_rfl) (by kernel_rfl) (by kernel_rfl) (fun _ _ _ h => h) (Or.inl ⟨by rfl, ?yy13⟩) (by assumption) ?rr13
  case yy13 => (intro w' hSw; go_simp; first | done | with_reducible rfl)
  simp only [Act.put, List.setIfInBounds_toArray, List.set_cons_zero, List.set_cons_succ]
  refine wpAnyH_take (i := 13) (v := ?vv14) (by simp only [List.getElem?_toArray, List.getElem?_cons_zero, List.getElem?_cons_succ]; rfl) (by kernel_rfl) (by kernel_rfl) (by kernel_rfl) (fun _ _ _ h => h) (Or.inl ⟨by rfl, ?yy14⟩) (by assumption) ?rr14
  case yy14 => (intro w' hSw; go_simp; first | done | with_reducible rfl)
  simp only [Act.put, List.setIfInBounds_toArray, List.set_cons_zero, List.set_cons_succ]
  refine wpAnyH_take (i := 14) (v := ?vv15) (by simp only [List.getElem?_toArray, List.getElem?_cons_zero, List.getElem?_cons_succ]; rfl) (by kernel_rfl) (by kernel_rfl) (by kernel_rfl) (fun _ _ _ h => h) (Or.inl ⟨by rfl, ?yy15⟩) (by assumption) ?rr15
  case yy15 => (intro w' hSw; go_simp; first | done | with_reducible rfl)
  simp only [Act.put, List.setIfInBounds_toArray, List.set_cons_zero, List.set_cons_succ]
  refine wpAnyH_take (i := 15) (v := ?vv16) (by simp only [List.getElem?_toArray, List.getElem?_cons_zero, List.getElem?_cons_succ]; rfl) (by kernel_rfl) (by kernel_rfl) (by kernel_rfl) (fun _ _ _ h => h) (Or.inl ⟨by rfl, ?yy16⟩) (by assumption) ?rr16
  case yy16 => (intro w' hSw; go_simp; first | done | with_reducible rfl)
  simp only [Act.put, List.setIfInBounds_toArray, List.set_cons_zero, List.set_cons_succ]
  refine wpAnyH_take (i := 16) (v := ?vv17) (by simp only [List.getElem?_toArray, List.getElem?_cons_zero, List.getElem?_cons_succ]; rfl) (by kernel_rfl) (by kernel_rfl) (by kernel_rfl) (fun _ _ _ h => h) (Or.inl ⟨by rfl, ?yy17⟩) (by assumption) ?rr17
  case yy17 => (intro w' hSw; go_simp; first | done | with_reducible rfl)
  simp only [Act.put, List.setIfInBounds_toArray, List.set_cons_zero, List.set_cons_succ]
  refine wpAnyH_take (i := 17) (v := ?vv18) (by simp only [List.getElem?_toArray, List.getElem?_cons_zero, List.getElem?_cons_succ]; rfl) (by kernel_rfl) (by kernel_rfl) (by kernel_rfl) (fun _ _ _ h => h) (Or.inl ⟨by rfl, ?yy18⟩) (by assumption) ?rr18
  case yy18 => (intro w' hSw; go_simp; first | done | with_reducible rfl)
  simp only [Act.put, List.setIfInBounds_toArray, List.set_cons_zero, List.set_cons_succ]
  refine wpAnyH_take (i := 18) (v := ?vv19) (by simp only [List.getElem?_toArray, List.getElem?_cons_zero, List.getElem?_cons_succ]; rfl) (by kernel_rfl) (by kernel_rfl) (by kernel_rfl) (fun _ _ _ h => h) (Or.inl ⟨by rfl, ?yy19⟩) (by assumption) ?rr19
  case yy19 => (intro w' hSw; go_simp; first | done | with_reducible rfl)
  simp only [Act.put, List.setIfInBounds_toArray, List.set_cons_zero, List.set_cons_succ]
  refine wpAnyH_take (i := 19) (v := ?vv20) (by simp only [List.getElem?_toArray, List.getElem?_cons_zero, List.getElem?_cons_succ]; rfl) (by kernel_rfl) (by kernel_rfl) (by kernel_rfl) (fun _ _ _ h => h) (Or.inl ⟨by rfl, ?yy20⟩) (by assumption) ?rr20
  case yy20 => (intro w' hSw; go_simp; first | done | with_reducible rfl)
  simp only [Act.put, List.setIfInBounds_toArray, List.set_cons_zero, List.set_cons_succ]
  refine wpAnyH_take (i := 20) (v := ?vv21) (by simp only [List.getElem?_toArray, List.getElem?_cons_zero, List.getElem?_cons_succ]; rfl) (by kernel_rfl) (by kernel_rfl) (by kernel_rfl) (fun _ _ _ h => h) (Or.inl ⟨by rfl, ?yy21⟩) (by assumption) ?rr21
  case yy21 => (intro w' hSw; go_simp; first | done | with_reducible rfl)
  simp only [Act.put, List.setIfInBounds_toArray, List.set_cons_zero, List.set_cons_succ]
  refine wpAnyH_take (i := 21) (v := ?vv22) (by simp only [List.getElem?_toArray, List.getElem?_cons_zero, List.getElem?_cons_succ]; rfl) (by kernel_rfl) (by kernel_rfl) (by kernel_rfl) (fun _ _ _ h => h) (Or.inl ⟨by rfl, ?yy22⟩) (by assumption) ?rr22
  case yy22 => (intro w' hSw; go_simp; first | done | with_reducible rfl)
  simp only [Act.put, List.setIfInBounds_toArray, List.set_cons_zero, List.set_cons_succ]
  refine wpAnyH_take (i := 22) (v := ?vv23) (by simp only [List.getElem?_toArray, List.getElem?_cons_zero, List.getElem?_cons_succ]; rfl) (by kernel_rfl) (by kernel_rfl) (by kernel_rfl) (fun _ _ _ h => h) (Or.inl ⟨by rfl, ?yy23⟩) (by assumption) ?rr23
  case yy23 => (intro w' hSw; go_simp; first | done | with_reducible rfl)
  simp only [Act.put, List.setIfInBounds_toArray, List.set_cons_zero, List.set_cons_succ]
  refine wpAnyH_take (i := 23) (v := ?vv24) (by simp only [List.getElem?_toArray, List.getElem?_cons_zero, List.getElem?_cons_succ]; rfl) (by kernel_rfl) (by kernel_rfl) (by kernel_rfl) (fun _ _ _ h => h) (Or.inl ⟨by rfl, ?yy24⟩) (by assumption) ?rr24
  case yy24 => (intro w' hSw; go_simp; first | done | with_reducible rfl)
  simp only [Act.put, List.setIfInBounds_toArray, List.set_cons_zero, List.set_cons_succ]
  refine wpAnyH_take (i := 24) (v := ?vv25) (by simp only [List.getElem?_toArray, List.getElem?_cons_zero, List.getElem?_cons_succ]; rfl) (by kernel_rfl) (by kernel_rfl) (by kernel_rfl) (fun _ _ _ h => h) (Or.inl ⟨by rfl, ?yy25⟩) (by assumption) ?rr25
  case yy25 => (intro w' hSw; go_simp; first | done | with_reducible rfl)
  simp only [Act.put, List.setIfInBounds_toArray, List.set_cons_zero, List.set_cons_succ]
  refine wpAnyH_take (i := 25) (v := ?vv26) (by simp only [List.getElem?_toArray, List.getElem?_cons_zero, List.getElem?_cons_succ]; rfl) (by kernel_rfl) (by kernel_rfl) (by kernel_rfl) (fun _ _ _ h => h) (Or.inl ⟨by rfl, ?yy26⟩) (by assumption) ?rr26
  case yy26 => (intro w' hSw; go_simp; first | done | with_reducible rfl)
  simp only [Act.put, List.setIfInBounds_toArray, List.set_cons_zero, List.set_cons_succ]
  refine wpAnyH_take (i := 26) (v := ?vv27) (by simp only [List.getElem?_toArray, List.getElem?_cons_zero, List.getElem?_cons_succ]; rfl) (by kernel_rfl) (by kernel_rfl) (by kernel_rfl) (fun _ _ _ h => h) (Or.inl ⟨by rfl, ?yy27⟩) (by assumption) ?rr27
  case yy27 => (intro w' hSw; go_simp; first | done | with_reducible rfl)
  simp only [Act.put, List.setIfInBounds_toArray, List.set_cons_zero, List.set_cons_succ]
  refine wpAnyH_take (i := 27) (v := ?vv28) (by simp only [List.getElem?_toArray, List.getElem?_cons_zero, List.getElem?_cons_succ]; rfl) (by kernel_rfl) (by kernel_rfl) (by kernel_rfl) (fun _ _ _ h => h) (Or.inl ⟨by rfl, ?yy28⟩) (by assumption) ?rr28
  case yy28 => (intro w' hSw; go_simp; first | done | with_reducible rfl)
  simp only [Act.put, List.setIfInBounds_toArray, List.set_cons_zero, List.set_cons_succ]
  refine wpAnyH_take (i := 28) (v := ?vv29) (by simp only [List.getElem?_toArray, List.getElem?_cons_zero, List.getElem?_cons_succ]; rfl) (by kernel_rfl) (by kernel_rfl) (by kernel_rfl) (fun _ _ _ h => h) (Or.inl ⟨by rfl, ?yy29⟩) (by assumption) ?rr29
  case yy29 => (intro w' hSw; go_simp; first | done | with_reducible rfl)
  simp only [Act.put, List.setIfInBounds_toArray, List.set_cons_zero, List.set_cons_succ]
  refine wpAnyH_take (i := 29) (v := ?vv30) (by simp only [List.getElem?_toArray, List.getElem?_cons_zero, List.getElem?_cons_succ]; rfl) (by kernel_rfl) (by kernel_rfl) (by kernel_rfl) (fun _ _ _ h => h) (Or.inl ⟨by rfl, ?yy30⟩) (by assumption) ?rr30
  case yy30 => (intro w' hSw; go_simp; first | done | with_reducible rfl)
  simp only [Act.put, List.setIfInBounds_toArray, List.set_cons_zero, List.set_cons_succ]
  refine wpAnyH_take (i := 30) (v := ?vv31) (by simp only [List.getElem?_toArray, List.getElem?_cons_zero, List.getElem?_cons_succ]; rfl) (by kernel_rfl) (by kernel_rfl) (by kernel_rfl) (fun _ _ _ h => h) (Or.inl ⟨by rfl, ?yy31⟩) (by assumption) ?rr31
  case yy31 => (intro w' hSw; go_simp; first | done | with_reducible rfl)
  simp only [Act.put, List.setIfInBounds_toArray, List.set_cons_zero, List.set_cons_succ]
  refine wpAnyH_take (i := 31) (v := ?vv32) (by simp only [List.getElem?_toArray, List.getElem?_cons_zero, List.getElem?_cons_succ]; rfl) (by kernel_rfl) (by kernel_rfl) (by kernel_rfl) (fun _ _ _ h => h) (Or.inl ⟨by rfl, ?yy32⟩) (by assumption) ?rr32
  case yy32 => (intro w' hSw; go_simp; first | done | with_reducible rfl)
  simp only [Act.put, List.setIfInBounds_toArray, List.set_cons_zero, List.set_cons_succ]
  refine wpAnyH_take (i := 32) (v := ?vv33) (by simp only [List.getElem?_toArray, List.getElem?_cons_zero, List.getElem?_cons_succ]; rfl) (by kernel_rfl) (by kernel_rfl) (by kernel_rfl) (fun _ _ _ h => h) (Or.inl ⟨by rfl, ?yy33⟩) (by assumption) ?rr33
  case yy33 => (intro w' hSw; go_simp; first | done | with_reducible rfl)
  simp only [Act.put, List.setIfInBounds_toArray, List.set_cons_zero, List.set_cons_succ]
  refine wpAnyH_take (i := 33) (v := ?vv34) (by simp only [List.getElem?_toArray, List.getElem?_cons_zero, List.getElem?_cons_succ]; rfl) (by kernel_rfl) (by kernel_rfl) (by kernel_rfl) (fun _ _ _ h => h) (Or.inl ⟨by rfl, ?yy34⟩) (by assumption) ?rr34
  case yy34 => (intro w' hSw; go_simp; first | done | with_reducible rfl)
  simp only [Act.put, List.setIfInBounds_toArray, List.set_cons_zero, List.set_cons_succ]
  refine wpAnyH_take (i := 34) (v := ?vv35) (by simp only [List.getElem?_toArray, List.getElem?_cons_zero, List.getElem?_cons_succ]; rfl) (by kernel_rfl) (by kernel_rfl) (by kernel_rfl) (fun _ _ _ h => h) (Or.inl ⟨by rfl, ?yy35⟩) (by assumption) ?rr35
  case yy35 => (intro w' hSw; go_simp; first | done | with_reducible rfl)
  simp only [Act.put, List.setIfInBounds_toArray, List.set_cons_zero, List.set_cons_succ]
  refine wpAnyH_take (i := 35) (v := ?vv36) (by simp only [List.getElem?_toArray, List.getElem?_cons_zero, List.getElem?_cons_succ]; rfl) (by kernel_rfl) (by kernel_rfl) (by kernel_rfl) (fun _ _ _ h => h) (Or.inl ⟨by rfl, ?yy36⟩) (by assumption) ?rr36
  case yy36 => (intro w' hSw; go_simp; first | done | with_reducible rfl)
  simp only [Act.put, List.setIfInBounds_toArray, List.set_cons_zero, List.set_cons_succ]
  refine wpAnyH_take (i := 36) (v := ?vv37) (by simp only [List.getElem?_toArray, List.getElem?_cons_zero, List.getElem?_cons_succ]; rfl) (by kernel_rfl) (by kernel_rfl) (by kernel_rfl) (fun _ _ _ h => h) (Or.inl ⟨by rfl, ?yy37⟩) (by assumption) ?rr37
  case yy37 => (intro w' hSw; have tx0 := text_of (c := cx0) (Rx0.out.below hSw) Mx0.out; have tx1 := text_of (c := cx1) (Rx1.out.below hSw) Mx1.out; go_simp; first | done | with_reducible rfl)
  simp only [Act.put, List.setIfInBounds_toArray, List.set_cons_zero, List.set_cons_succ]
  refine wpAnyH_ready (rs := [37]) (by kernel_rfl) (by simp) ?_
  refine AllReadyH.cons (by simp only [List.getElem?_toArray, List.getElem?_cons_zero, List.getElem?_cons_succ]; rfl) (fun K hK => ?_) AllReadyH.nil
  go_simp
  go_at_call 24
  (with_reducible refine (fill_one _).mono ?_)
  rintro e w26 ⟨Af1, kf1, nf1, rfl, h1, h2, hb, h4, h5, h6⟩
  have Mf1 := Lib.hid h1; have Rf1 := Lib.hid h2; have Kf1 := Lib.hid h4
  clear h1 h2 h4 h5 h6
  have hb0 := hb
  go_wp2_with fail
  refine hK.out _ _ hb0 (fun hHeld => ?_)
  clear hK K hHeld
  refine wpAnyH_more (S' := fun w' => Below w26.heap.size w26 w') (fun _ h => chain hb0 h) _ _ _ _ ?_
  clear hb0
  have hHeld : Below w26.heap.size w26 w26 := Below.refl _ _
  try simp only [Act.put, List.setIfInBounds_toArray, List.set_cons_zero, List.set_cons_succ]
  replace Dd := Lib.hid (Dd.out.below hb)
  have B26 := Lib.hid (chain B25.out hb)
  replace Rx0 := Lib.hid (Rx0.out.below hb)
  replace Rx1 := Lib.hid (Rx1.out.below hb)
  clear hb B25
  refine wpAnyH_take (i := 38) (v := ?vv38) (by simp only [List.getElem?_toArray, List.getElem?_cons_zero, List.getElem?_cons_succ]; rfl) (by kernel_rfl) (by kernel_rfl) (by kernel_rfl) (fun _ _ _ h => h) (Or.inl ⟨by rfl, ?yy38⟩) (by assumption) ?rr38
  case yy38 => (intro w' hSw; have tx0 := text_of (c := cx0) (Rx0.out.below hSw) Mx0.out; have tx1 := text_of (c := cx1) (Rx1.out.below hSw) Mx1.out; have tf1 := text_of (c := kf1) (Rf1.out.below hSw) Mf1.out; go_simp; first | done | with_reducible rfl)
  simp only [Act.put, List.setIfInBounds_toArray, List.set_cons_zero, List.set_cons_succ]
  refine wpAnyH_take (i := 39) (v := ?vv39) (by simp only [List.getElem?_toArray, List.getElem?_cons_zero, List.getElem?_cons_succ]; rfl) (by kernel_rfl) (by kernel_rfl) (by kernel_rfl) (fun _ _ _ h => h) (Or.inl ⟨by rfl, ?yy39⟩) (by assumption) ?rr39
  case yy39 => (intro w' hSw; go_simp; first | done | with_reducible rfl)
  simp only [Act.put, List.setIfInBounds_toArray, List.set_cons_zero, List.set_cons_succ]
  refine wpAnyH_take (i := 40) (v := ?vv40) (by simp only [List.getElem?_toArray, List.getElem?_cons_zero, List.getElem?_cons_succ]; rfl) (by kernel_rfl) (by kernel_rfl) (by kernel_rfl) (fun _ _ _ h => h) (Or.inl ⟨by rfl, ?yy40⟩) (by assumption) ?rr40
  case yy40 => (intro w' hSw; go_simp; first | done | with_reducible rfl)
  simp only [Act.put, List.setIfInBounds_toArray, List.set_cons_zero, List.set_cons_succ]
  refine wpAnyH_take (i := 41) (v := ?vv41) (by simp only [List.getElem?_toArray, List.getElem?_cons_zero, List.getElem?_cons_succ]; rfl) (by kernel_rfl) (by kernel_rfl) (by kernel_rfl) (fun _ _ _ h => h) (Or.inl ⟨by rfl, ?yy41⟩) (by assumption) ?rr41
  case yy41 => (intro w' hSw; go_simp; first | done | with_reducible rfl)
  simp only [Act.put, List.setIfInBounds_toArray, List.set_cons_zero, List.set_cons_succ]
  refine wpAnyH_take (i := 42) (v := ?vv42) (by simp only [List.getElem?_toArray, List.getElem?_cons_zero, List.getElem?_cons_succ]; rfl) (by kernel_rfl) (by kernel_rfl) (by kernel_rfl) (fun _ _ _ h => h) (Or.inl ⟨by rfl, ?yy42⟩) (by assumption) ?rr42
  case yy42 => (intro w' hSw; go_simp; first | done | with_reducible rfl)
  simp only [Act.put, List.setIfInBounds_toArray, List.set_cons_zero, List.set_cons_succ]
  refine wpAnyH_take (i := 43) (v := ?vv43) (by simp only [List.getElem?_toArray, List.getElem?_cons_zero, List.getElem?_cons_succ]; rfl) (by kernel_rfl) (by kernel_rfl) (by kernel_rfl) (fun _ _ _ h => h) (Or.inl ⟨by rfl, ?yy43⟩) (by assumption) ?rr43
  case yy43 => (intro w' hSw; go_simp; first | done | with_reducible rfl)
  simp only [Act.put, List.setIfInBounds_toArray, List.set_cons_zero, List.set_cons_succ]
  refine wpAnyH_take (i := 44) (v := ?vv44) (by simp only [List.getElem?_toArray, List.getElem?_cons_zero, List.getElem?_cons_succ]; rfl) (by kernel_rfl) (by kernel_rfl) (by kernel_rfl) (fun _ _ _ h => h) (Or.inl ⟨by rfl, ?yy44⟩) (by assumption) ?rr44
  case yy44 => (intro w' hSw; go_simp; first | done | with_reducible rfl)
  simp only [Act.put, List.setIfInBounds_toArray, List.set_cons_zero, List.set_cons_succ]
  refine wpAnyH_take (i := 45) (v := ?vv45) (by simp only [List.getElem?_toArray, List.getElem?_cons_zero, List.getElem?_cons_succ]; rfl) (by kernel_rfl) (by kernel_rfl) (by kernel_rfl) (fun _ _ _ h => h) (Or.inl ⟨by rfl, ?yy45⟩) (by assumption) ?rr45
  case yy45 => (intro w' hSw; go_simp; first | done | with_reducible rfl)
  simp only [Act.put, List.setIfInBounds_toArray, List.set_cons_zero, List.set_cons_succ]
  refine wpAnyH_take (i := 46) (v := ?vv46) (by simp only [List.getElem?_toArray, List.getElem?_cons_zero, List.getElem?_cons_succ]; rfl) (by kernel_rfl) (by kernel_rfl) (by kernel_rfl) (fun _ _ _ h => h) (Or.inl ⟨by rfl, ?yy46⟩) (by assumption) ?rr46
  case yy46 => (intro w' hSw; go_simp; first | done | with_reducible rfl)
  simp only [Act.put, List.setIfInBounds_toArray, List.set_cons_zero, List.set_cons_succ]
  refine wpAnyH_take (i := 47) (v := ?vv47) (by simp only [List.getElem?_toArray, List.getElem?_cons_zero, List.getElem?_cons_succ]; rfl) (by kernel_rfl) (by kernel_rfl) (by kernel_rfl) (fun _ _ _ h => h) (Or.inl ⟨by rfl, ?yy47⟩) (by assumption) ?rr47
  case yy47 => (intro w' hSw; have tx0 := text_of (c := cx0) (Rx0.out.below hSw) Mx0.out; have tx1 := text_of (c := cx1) (Rx1.out.below hSw) Mx1.out; have tf1 := text_of (c := kf1) (Rf1.out.below hSw) Mf1.out; go_simp; first | done | with_reducible rfl)
  simp only [Act.put, List.setIfInBounds_toArray, List.set_cons_zero, List.set_cons_succ]
  refine wpAnyH_ready (rs := [48]) (by kernel_rfl) (by simp) ?_
  refine AllReadyH.cons (by simp only [List.getElem?_toArray, List.getElem?_cons_zero, List.getElem?_cons_succ]; rfl) (fun K hK => ?_) AllReadyH.nil
  go_simp
  go_at_call 24
  (with_reducible refine (fill_three _).mono ?_)
  rintro e w27 ⟨Af3, kf3, nf3, rfl, h1, h2, hb, h4, h5, h6⟩
  have Mf3 := Lib.hid h1; have Rf3 := Lib.hid h2; have Kf3 := Lib.hid h4
  clear h1 h2 h4 h5 h6
  have hb0 := hb
  go_wp2_with fail
  refine hK.out _ _ hb0 (fun hHeld => ?_)
  clear hK K hHeld
  refine wpAnyH_more (S' := fun w' => Below w27.heap.size w27 w') (fun _ h => chain hb0 h) _ _ _ _ ?_
  clear hb0
  have hHeld : Below w27.heap.size w27 w27 := Below.refl _ _
  try simp only [Act.put, List.setIfInBounds_toArray, List.set_cons_zero, List.set_cons_succ]
  replace Dd := Lib.hid (Dd.out.below hb)
  have B27 := Lib.hid (chain B26.out hb)
  replace Rx0 := Lib.hid (Rx0.out.below hb)
  replace Rx1 := Lib.hid (Rx1.out.below hb)
  replace Rf1 := Lib.hid (Rf1.out.below hb)
  clear hb B26
  refine wpAnyH_take (i := 49) (v := ?vv48) (by simp only [List.getElem?_toArray, List.getElem?_cons_zero, List.getElem?_cons_succ]; rfl) (by kernel_rfl) (by kernel_rfl) (by kernel_rfl) (fun _ _ _ h => h) (Or.inl ⟨by rfl, ?yy48⟩) (by assumption) ?rr48
  case yy48 => (intro w' hSw; have tx0 := text_of (c := cx0) (Rx0.out.below hSw) Mx0.out; have tx1 := text_of (c := cx1) (Rx1.out.below hSw) Mx1.out; have tf1 := text_of (c := kf1) (Rf1.out.below hSw) Mf1.out; have tf3 := text_of (c := kf3) (Rf3.out.below hSw) Mf3.out; go_simp; first | done | with_reducible rfl)
  simp only [Act.put, List.setIfInBounds_toArray, List.set_cons_zero, List.set_cons_succ]
  refine wpAnyH_take (i := 50) (v := ?vv49) (by simp only [List.getElem?_toArray, List.getElem?_cons_zero, List.getElem?_cons_succ]; rfl) (by kernel_rfl) (by kernel_rfl) (by kernel_rfl) (fun _ _ _ h => h) (Or.inl ⟨by rfl, ?yy49⟩) (by assumption) ?rr49
  case yy49 => (intro w' hSw; go_simp; first | done | with_reducible rfl)
  simp only [Act.put, List.setIfInBounds_toArray, List.set_cons_zero, List.set_cons_succ]
  refine wpAnyH_take (i := 51) (v := ?vv50) (by simp only [List.getElem?_toArray, List.getElem?_cons_zero, List.getElem?_cons_succ]; rfl) (by kernel_rfl) (by kernel_rfl) (by kernel_rfl) (fun _ _ _ h => h) (Or.inl ⟨by rfl, ?yy50⟩) (by assumption) ?rr50
  case yy50 => (intro w' hSw; go_simp; first | done | with_reducible rfl)
  simp only [Act.put, List.setIfInBounds_toArray, List.set_cons_zero, List.set_cons_succ]
  refine wpAnyH_take (i := 52) (v := ?vv51) (by simp only [List.getElem?_toArray, List.getElem?_cons_zero, List.getElem?_cons_succ]; rfl) (by kernel_rfl) (by kernel_rfl) (by kernel_rfl) (fun _ _ _ h => h) (Or.inl ⟨by rfl, ?yy51⟩) (by assumption) ?rr51
  case yy51 => (intro w' hSw; go_simp; first | done | with_reducible rfl)
  simp only [Act.put, List.setIfInBounds_toArray, List.set_cons_zero, List.set_cons_succ]
  refine wpAnyH_take (i := 53) (v := ?vv52) (by simp only [List.getElem?_toArray, List.getElem?_cons_zero, List.getElem?_cons_succ]; rfl) (by kernel_rfl) (by kernel_rfl) (by kernel_rfl) (fun _ _ _ h => h) (Or.inl ⟨by rfl, ?yy52⟩) (by assumption) ?rr52
  case yy52 => (intro w' hSw; go_simp; first | done | with_reducible rfl)
  simp only [Act.put, List.setIfInBounds_toArray, List.set_cons_zero, List.set_cons_succ]
  refine wpAnyH_take (i := 54) (v := ?vv53) (by simp only [List.getElem?_toArray, List.getElem?_cons_zero, List.getElem?_cons_succ]; rfl) (by kernel_rfl) (by kernel_rfl) (by kernel_rfl) (fun _ _ _ h => h) (Or.inl ⟨by rfl, ?yy53⟩) (by assumption) ?rr53
  case yy53 => (intro w' hSw; go_simp; first | done | with_reducible rfl)
  simp only [Act.put, List.setIfInBounds_toArray, List.set_cons_zero, List.set_cons_succ]
  refine wpAnyH_take (i := 55) (v := ?vv54) (by simp only [List.getElem?_toArray, List.getElem?_cons_zero, List.getElem?_cons_succ]; rfl) (by kernel_rfl) (by kernel_rfl) (by kernel_rfl) (fun _ _ _ h => h) (Or.inl ⟨by rfl, ?yy54⟩) (by assumption) ?rr54
  case yy54 => (intro w' hSw; go_simp; first | done | with_reducible rfl)
  simp only [Act.put, List.setIfInBounds_toArray, List.set_cons_zero, List.set_cons_succ]
  refine wpAnyH_take (i := 56) (v := ?vv55) (by simp only [List.getElem?_toArray, List.getElem?_cons_zero, List.getElem?_cons_succ]; rfl) (by kernel_rfl) (by kernel_rfl) (by kernel_rfl) (fun _ _ _ h => h) (Or.inl ⟨by rfl, ?yy55⟩) (by assumption) ?rr55
  case yy55 => (intro w' hSw; go_simp; first | done | with_reducible rfl)
  simp only [Act.put, List.setIfInBounds_toArray, List.set_cons_zero, List.set_cons_succ]
  refine wpAnyH_take (i := 57) (v := ?vv56) (by simp only [List.getElem?_toArray, List.getElem?_cons_zero, List.getElem?_cons_succ]; rfl) (by kernel_rfl) (by kernel_rfl) (by kernel_rfl) (fun _ _ _ h => h) (Or.inl ⟨by rfl, ?yy56⟩) (by assumption) ?rr56
  case yy56 => (intro w' hSw; go_simp; first | done | with_reducible rfl)
  simp only [Act.put, List.setIfInBounds_toArray, List.set_cons_zero, List.set_cons_succ]
  refine wpAnyH_take (i := 58) (v := ?vv57) (by simp only [List.getElem?_toArray, List.getElem?_cons_zero, List.getElem?_cons_succ]; rfl) (by kernel_rfl) (by kernel_rfl) (by kernel_rfl) (fun _ _ _ h => h) (Or.inl ⟨by rfl, ?yy57⟩) (by assumption) ?rr57
  case yy57 => (intro w' hSw; go_simp; first | done | with_reducible rfl)
  simp only [Act.put, List.setIfInBounds_toArray, List.set_cons_zero, List.set_cons_succ]
  refine wpAnyH_take (i := 59) (v := ?vv58) (by simp only [List.getElem?_toArray, List.getElem?_cons_zero, List.getElem?_cons_succ]; rfl) (by kernel_rfl) (by kernel_rfl) (by kernel_rfl) (fun _ _ _ h => h) (Or.inl ⟨by rfl, ?yy58⟩) (by assumption) ?rr58
  case yy58 => (intro w' hSw; go_simp; first | done | with_reducible rfl)
  simp only [Act.put, List.setIfInBounds_toArray, List.set_cons_zero, List.set_cons_succ]
  refine wpAnyH_take (i := 60) (v := ?vv59) (by simp only [List.getElem?_toArray, List.getElem?_cons_zero, List.getElem?_cons_succ]; rfl) (by kernel_rfl) (by kernel_rfl) (by kernel_rfl) (fun _ _ _ h => h) (Or.inl ⟨by rfl, ?yy59⟩) (by assumption) ?rr59
  case yy59 => (intro w' hSw; go_simp; first | done | with_reducible rfl)
  simp only [Act.put, List.setIfInBounds_toArray, List.set_cons_zero, List.set_cons_succ]
  refine wpAnyH_take (i := 61) (v := ?vv60) (by simp only [List.getElem?_toArray, List.getElem?_cons_zero, List.getElem?_cons_succ]; rfl) (by kernel_rfl) (by kernel_rfl) (by kernel_rfl) (fun _ _ _ h => h) (Or.inl ⟨by rfl, ?yy60⟩) (by assumption) ?rr60
  case yy60 => (intro w' hSw; go_simp; first | done | with_reducible rfl)
  simp only [Act.put, List.setIfInBounds_toArray, List.set_cons_zero, List.set_cons_succ]
  refine wpAnyH_take (i := 62) (v := ?vv61) (by simp only [List.getElem?_toArray, List.getElem?_cons_zero, List.getElem?_cons_succ]; rfl) (by kernel_rfl) (by kernel_rfl) (by kernel_rfl) (fun _ _ _ h => h) (Or.inl ⟨by rfl, ?yy61⟩) (by assumption) ?rr61
  case yy61 => (intro w' hSw; go_simp; first | done | with_reducible rfl)
  simp only [Act.put, List.setIfInBounds_toArray, List.set_cons_zero, List.set_cons_succ]
  refine wpAnyH_take (i := 63) (v := ?vv62) (by simp only [List.getElem?_toArray, List.getElem?_cons_zero, List.getElem?_cons_succ]; rfl) (by kernel_rfl) (by kernel_rfl) (by kernel_rfl) (fun _ _ _ h => h) (Or.inl ⟨by rfl, ?yy62⟩) (by assumption) ?rr62
  case yy62 => (intro w' hSw; go_simp; first | done | with_reducible rfl)
  simp only [Act.put, List.setIfInBounds_toArray, List.set_cons_zero, List.set_cons_succ]
  refine wpAnyH_take (i := 64) (v := ?vv63) (by simp only [List.getElem?_toArray, List.getElem?_cons_zero, List.getElem?_cons_succ]; rfl) (by kernel_rfl) (by kernel_rfl) (by kernel_rfl) (fun _ _ _ h => h) (Or.inl ⟨by rfl, ?yy63⟩) (by assumption) ?rr63
  case yy63 => (intro w' hSw; go_simp; first | done | with_reducible rfl)
  simp only [Act.put, List.setIfInBounds_toArray, List.set_cons_zero, List.set_cons_succ]
  refine wpAnyH_take (i := 65) (v := ?vv64) (by simp only [List.getElem?_toArray, List.getElem?_cons_zero, List.getElem?_cons_succ]; rfl) (by kernel_rfl) (by kernel_rfl) (by kernel_rfl) (fun _ _ _ h => h) (Or.inl ⟨by rfl, ?yy64⟩) (by assumption) ?rr64
  case yy64 => (intro w' hSw; go_simp; first | done | with_reducible rfl)
  simp only [Act.put, List.setIfInBounds_toArray, List.set_cons_zero, List.set_cons_succ]
  refine wpAnyH_ready (rs := [66]) (by kernel_rfl) (by simp) ?_
  refine AllReadyH.cons (by simp only [List.getElem?_toArray, List.getElem?_cons_zero, List.getElem?_cons_succ]; rfl) (fun K hK => ?_) AllReadyH.nil
  go_simp
  go_at_call 16
  (with_reducible refine (CP.out _ Dd.out).mono ?_)
  rintro e w28 ⟨rfl, hb⟩
  have hb0 := hb
  go_wp2_with fail
  refine hK.out _ _ hb0 (fun hHeld => ?_)
  clear hK K hHeld
  refine wpAnyH_more (S' := fun w' => Below w28.heap.size w28 w') (fun _ h => chain hb0 h) _ _ _ _ ?_
  clear hb0
  have hHeld : Below w28.heap.size w28 w28 := Below.refl _ _
  try simp only [Act.put, List.setIfInBounds_toArray, List.set_cons_zero, List.set_cons_succ]
  replace Dd := Lib.hid (Dd.out.below hb)
  have B28 := Lib.hid (chain B27.out hb)
  replace Rx0 := Lib.hid (Rx0.out.below hb)
  replace Rx1 := Lib.hid (Rx1.out.below hb)
  replace Rf1 := Lib.hid (Rf1.out.below hb)
  replace Rf3 := Lib.hid (Rf3.out.below hb)
  clear hb B27
  refine wpAnyH_take (i := 67) (v := ?vv65) (by simp only [List.getElem?_toArray, List.getElem?_cons_zero, List.getElem?_cons_succ]; rfl) (by kernel_rfl) (by kernel_rfl) (by kernel_rfl) (fun _ _ _ h => h) (Or.inl ⟨by rfl, ?yy65⟩) (by assumption) ?rr65
  case yy65 => (intro w' hSw; go_simp; first | done | with_reducible rfl)
  simp only [Act.put, List.setIfInBounds_toArray, List.set_cons_zero, List.set_cons_succ]
  refine wpAnyH_take (i := 68) (v := ?vv66) (by simp only [List.getElem?_toArray, List.getElem?_cons_zero, List.getElem?_cons_succ]; rfl) (by kernel_rfl) (by kernel_rfl) (by kernel_rfl) (fun _ _ _ h => h) (Or.inl ⟨by rfl, ?yy66⟩) (by assumption) ?rr66
  case yy66 => (intro w' hSw; go_simp; first | done | with_reducible rfl)
  simp only [Act.put, List.setIfInBounds_toArray, List.set_cons_zero, List.set_cons_succ]
  refine wpAnyH_take (i := 69) (v := ?vv67) (by simp only [List.getElem?_toArray, List.getElem?_cons_zero, List.getElem?_cons_succ]; rfl) (by kernel_rfl) (by kernel_rfl) (by kernel_rfl) (fun _ _ _ h => h) (Or.inl ⟨by rfl, ?yy67⟩) (by assumption) ?rr67
  case yy67 => (intro w' hSw; go_simp; first | done | with_reducible rfl)
  simp only [Act.put, List.setIfInBounds_toArray, List.set_cons_zero, List.set_cons_succ]
  refine wpAnyH_take (i := 70) (v := ?vv68) (by simp only [List.getElem?_toArray, List.getElem?_cons_zero, List.getElem?_cons_succ]; rfl) (by kernel_rfl) (by kernel_rfl) (by kernel_rfl) (fun _ _ _ h => h) (Or.inl ⟨by rfl, ?yy68⟩) (by assumption) ?rr68
  case yy68 => (intro w' hSw; go_simp; first | done | with_reducible rfl)
  simp only [Act.put, List.setIfInBounds_toArray, List.set_cons_zero, List.set_cons_succ]
  refine wpAnyH_ready (rs := [71]) (by kernel_rfl) (by simp) ?_
  refine AllReadyH.cons (by simp only [List.getElem?_toArray, List.getElem?_cons_zero, List.getElem?_cons_succ]; rfl) (fun K hK => ?_) AllReadyH.nil
  go_simp
  go_at_call 18
  (with_reducible refine (CS.out _ Dd.out).mono ?_)
  rintro e w29 ⟨rfl, hb⟩
  have hb0 := hb
  go_wp2_with fail
  refine hK.out _ _ hb0 (fun hHeld => ?_)
  clear hK K hHeld
  refine wpAnyH_more (S' := fun w' => Below w29.heap.size w29 w') (fun _ h => chain hb0 h) _ _ _ _ ?_
  clear hb0
  have hHeld : Below w29.heap.size w29 w29 := Below.refl _ _
  try simp only [Act.put, List.setIfInBounds_toArray, List.set_cons_zero, List.set_cons_succ]
  replace Dd := Lib.hid (Dd.out.below hb)
  have B29 := Lib.hid (chain B28.out hb)
  replace Rx0 := Lib.hid (Rx0.out.below hb)
  replace Rx1 := Lib.hid (Rx1.out.below hb)
  replace Rf1 := Lib.hid (Rf1.out.below hb)
  replace Rf3 := Lib.hid (Rf3.out.below hb)
  clear hb B28
  refine wpAnyH_take (i := 72) (v := ?vv69) (by simp only [List.getElem?_toArray, List.getElem?_cons_zero, List.getElem?_cons_succ]; rfl) (by kernel_rfl) (by kernel_rfl) (by kernel_rfl) (fun _ _ _ h => h) (Or.inl ⟨by rfl, ?yy69⟩) (by assumption) ?rr69
  case yy69 => (intro w' hSw; go_simp; first | done | with_reducible rfl)
  simp only [Act.put, List.setIfInBounds_toArray, List.set_cons_zero, List.set_cons_succ]
  refine wpAnyH_take (i := 73) (v := ?vv70) (by simp only [List.getElem?_toArray, List.getElem?_cons_zero, List.getElem?_cons_succ]; rfl) (by kernel_rfl) (by kernel_rfl) (by kernel_rfl) (fun _ _ _ h => h) (Or.inl ⟨by rfl, ?yy70⟩) (by assumption) ?rr70
  case yy70 => (intro w' hSw; go_simp; first | done | with_reducible rfl)
  simp only [Act.put, List.setIfInBounds_toArray, List.set_cons_zero, List.set_cons_succ]
  refine wpAnyH_take (i := 74) (v := ?vv71) (by simp only [List.getElem?_toArray, List.getElem?_cons_zero, List.getElem?_cons_succ]; rfl) (by kernel_rfl) (by kernel_rfl) (by kernel_rfl) (fun _ _ _ h => h) (Or.inl ⟨by rfl, ?yy71⟩) (by assumption) ?rr71
  case yy71 => (intro w' hSw; go_simp; first | done | with_reducible rfl)
  simp only [Act.put, List.setIfInBounds_toArray, List.set_cons_zero]
  refine wpAnyH_done (by kernel_rfl) ?_ _
  refine NoPanic.normal ?_
  clear hHeld
  have tx0 := text_of (c := cx0) Rx0.out Mx0.out
  have tx1 := text_of (c := cx1) Rx1.out Mx1.out
  have tf1 := text_of (c := kf1) Rf1.out Mf1.out
  have tf3 := text_of (c := kf3) Rf3.out Mf3.out
  go_wp2_with fail
  go_ret
  exact ⟨rfl, B29.out⟩

end Go.Proofs.Ytpdedeaejlkokaa
