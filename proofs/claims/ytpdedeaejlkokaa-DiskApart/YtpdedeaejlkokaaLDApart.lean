/-
  DiskApart: the walk.
-/
import Derived.Test.YtpdedeaejlkokaaDLaw
import Derived.Deep.QuietTactic
import Derived.BigQuiet
namespace Go.Proofs.Ytpdedeaejlkokaa
open Go.RowKit

set_option maxHeartbeats 8000000 in
set_option maxRecDepth 100000 in
theorem law_dapart (i k : Nat) (hi : i ≤ 255) (hk : k ≤ 255) (a b : UInt8) (keep : Bool) (A : Option Addr) (n c : Nat) (os : List Dop) (w : World) (H : Scr w A n c os) : Calls Try.prog 9 #[.slice A n c, .int .u8 (i : Int), .int .u8 (k : Int), .int .u8 (bz a), .int .u8 (bz b), .bool keep] w fun e w' => e = .returned (.bool true) ∧ Below w.heap.size w w' := by
  have HS := Lib.hid H
  obtain ⟨p, hp⟩ : ∃ p, p = i % 6 := ⟨_, rfl⟩
  obtain ⟨q, hq⟩ : ∃ q, q = k % 6 := ⟨_, rfl⟩
  have p6 : Hid (p < 6) := by show p < 6; omega
  have q6 : Hid (q < 6) := by show q < 6; omega
  have m1 : (i : Int).tmod 6 = (p : Int) := by rw [Int.tmod_eq_emod_of_nonneg (by omega)]; omega
  have m2 : (i : Int) % 6 = (p : Int) := by omega
  have m3 : (k : Int).tmod 6 = (q : Int) := by rw [Int.tmod_eq_emod_of_nonneg (by omega)]; omega
  have m4 : (k : Int) % 6 = (q : Int) := by omega
  obtain ⟨za, hza⟩ : ∃ z, z = bz a := ⟨_, rfl⟩
  obtain ⟨zb, hzb⟩ : ∃ z, z = bz b := ⟨_, rfl⟩
  have CA : Hid (∀ v : World, Calls Try.prog 24 #[.int .u8 za] v (RowNew bcells (fillB a) v)) := fun v => by rw [hza]; exact fill15n a v
  have CB : Hid (∀ v : World, Calls Try.prog 24 #[.int .u8 zb] v (RowNew bcells (fillB b) v)) := fun v => by rw [hzb]; exact fill15n b v
  rw [← hza, ← hzb]
  clear H hp hq hza hzb
  go_enter Try.func9, Try.ntmps9
  go_wp2_with fail
  refine (head15 _).mono ?_
  rintro e w1 ⟨rfl, hb⟩
  have B1 := Lib.hid hb
  clear hb
  go_wp2_with fail
  refine (dv_new 6 (by decide) B1.out).mono ?_
  rintro e w2 ⟨g, P, rfl, hD, _⟩
  have D1 := Lib.hid hD
  clear hD
  go_wp2_with fail
  refine (dv_new 6 (by decide) D1.out.bl).mono ?_
  rintro e w3 ⟨h, Q, rfl, hD, hb⟩
  have D2 := Lib.hid hD
  have NN : Hid (∀ b, P b → ¬ Q b) := fun b z y => by have := (D1.out.di.lt b z).2; have := (D2.out.di.lt b y).1; omega
  replace D1 := Lib.hid (D1.out.below hb)
  clear hD hb
  go_wp2_with fail
  refine (great15 A n c os _ (HS.out.r.below D1.out.bl) HS.out.l).mono ?_
  rintro e w4 ⟨bb, rfl, hg, hb⟩
  replace D1 := Lib.hid (D1.out.below hb)
  replace D2 := Lib.hid (D2.out.below hb)
  have HG := Lib.hid hg
  clear hb hg
  cases bb with
  | true =>
    go_wp2_with fail
    go_ret
    exact ⟨rfl, D1.out.bl⟩
  | false =>
    have FT := Lib.hid (HG.out rfl)
    have n3 : n ≤ 300 := by rw [HS.out.l]; exact FT.out.1
    obtain ⟨X, hX⟩ : ∃ X, X = w1.heap.size := ⟨_, rfl⟩
    obtain ⟨Y, hY⟩ : ∃ Y, Y = w2.heap.size := ⟨_, rfl⟩
    rw [← hX] at D1
    rw [← hY] at D2
    clear hX hY
    go_wp2_with fail
    go_loopg [16] n (fun gh s16 wx => ∃ (j : Nat) (d : Dk) (P Q : Nat → Prop), j ≤ n ∧ Hid (gh = n - j) ∧ s16 = .int .i64 (j : Int) ∧ Hid (DV w X 6 j d g P wx) ∧ Hid (DV w Y 6 j d h Q wx) ∧ Hid (∀ b, P b → ¬ Q b))
    case atStart => exact ⟨0, _, P, Q, Nat.zero_le _, by show _ = _; omega, rfl, D1, D2, NN⟩
    case round =>
      clear D1 D2 NN
      obtain ⟨j, d, P, Q, hj, HGG, rfl, D1, D2, NN⟩ := hrel
      by_cases kn : j < n
      · have ki : (j : Int) < (n : Int) := by omega
        have k0 : (0 : Int) ≤ (j : Int) := by omega
        obtain ⟨o, _, ob, bk, off, hb, hq, rfl, HB1, HQ1, cc⟩ := HS.out.at kn
        obtain ⟨c0, c1, c2, c3, c4, c5⟩ := cc wr D1.out.bl
        have OB := Lib.hid ob; have HBH := Lib.hid HB1; have HQH := Lib.hid HQ1; have KN := Lib.hid kn; have CC := Lib.hid cc
        clear cc HB1 HQ1 ob kn
        go_wp2_with fail
        refine (dv_do D1.out o hb hq (by decide) (by omega) HBH.out HQH.out OB.out).mono ?_
        rintro e w5 ⟨rfl, Pw5, hD, hK, hO⟩
        have Nw5 : Hid (∀ b, Pw5 b → ¬ Q b) := fun b z y => (hO b z).elim (fun u => NN.out b u y) (fun u => by have := (D2.out.di.lt b y).2; omega)
        replace D2 := Lib.hid (D2.out.kept hK D1.out.hB (fun b z y => NN.out b y z))
        replace D1 := Lib.hid hD
        replace NN := Nw5
        clear hD hK hO Nw5
        generalize Pw5 = P at D1 NN
        obtain ⟨r0, r1, r2, r3, r4, r5⟩ := CC.out w5 D1.out.bl
        clear c0 c1 c2 c3 c4 c5
        go_wp2_with fail
        refine (dv_do D2.out o hb hq (by decide) (by omega) HBH.out HQH.out OB.out).mono ?_
        rintro e w6 ⟨rfl, Qw6, hD, hK, hO⟩
        have Nw6 : Hid (∀ b, P b → ¬ Qw6 b) := fun b y z => (hO b z).elim (fun u => NN.out b y u) (fun u => by have := (D1.out.di.lt b y).2; omega)
        replace D1 := Lib.hid (D1.out.kept hK D2.out.hB (fun b z y => NN.out b z y))
        replace D2 := Lib.hid hD
        replace NN := Nw6
        clear hD hK hO Nw6
        generalize Qw6 = Q at D2 NN
        clear r0 r1 r2 r3 r4 r5 CC
        go_wp2_with fail
        go_roundg (n - (j + 1))
        case measure => have := HGG.out; have := KN.out; omega
        case rel => exact ⟨j + 1, _, P, Q, by have := KN.out; omega, rfl, by go_num, D1, D2, NN⟩
      · obtain rfl : j = n := by omega
        clear kn hj
        go_wp2_with fail
        refine (dv_fuse D1.out (-1) (by decide)).mono ?_
        rintro e w5 ⟨rfl, Pw5, hD, hK, hO⟩
        have Nw5 : Hid (∀ b, Pw5 b → ¬ Q b) := fun b z y => (hO b z).elim (fun u => NN.out b u y) (fun u => by have := (D2.out.di.lt b y).2; omega)
        replace D2 := Lib.hid (D2.out.kept hK D1.out.hB (fun b z y => NN.out b y z))
        replace D1 := Lib.hid hD
        replace NN := Nw5
        clear hD hK hO Nw5
        generalize Pw5 = P at D1 NN
        go_wp2_with fail
        refine (dv_fuse D2.out (-1) (by decide)).mono ?_
        rintro e w6 ⟨rfl, Qw6, hD, hK, hO⟩
        have Nw6 : Hid (∀ b, P b → ¬ Qw6 b) := fun b y z => (hO b z).elim (fun u => NN.out b y u) (fun u => by have := (D1.out.di.lt b y).2; omega)
        replace D1 := Lib.hid (D1.out.kept hK D2.out.hB (fun b z y => NN.out b z y))
        replace D2 := Lib.hid hD
        replace NN := Nw6
        clear hD hK hO Nw6
        generalize Qw6 = Q at D2 NN
        go_wp2_with fail
        obtain ⟨d2, hd2⟩ : ∃ d2, d2 = (dkSync (dkFuse d (-1))).1 := ⟨_, rfl⟩
        obtain ⟨k1, k2, k3, k4⟩ := sync_clean (D1.out.ok) (show (dkFuse d (-1)).f = -1 from rfl)
        rw [← hd2] at k1 k2 k3
        have CS1 := Lib.hid (dv_sync D1.out (by decide) (by omega))
        rw [← hd2, k4] at CS1
        refine CS1.out.mono ?_
        rintro e w7 ⟨rfl, Pw7, hD, hK, hO⟩
        have Nw7 : Hid (∀ b, Pw7 b → ¬ Q b) := fun b z y => (hO b z).elim (fun u => NN.out b u y) (fun u => by have := (D2.out.di.lt b y).2; omega)
        replace D2 := Lib.hid (D2.out.kept hK D1.out.hB (fun b z y => NN.out b y z))
        replace D1 := Lib.hid hD
        replace NN := Nw7
        clear hD hK hO Nw7
        generalize Pw7 = P at D1 NN
        go_wp2_with fail
        have CS2 := Lib.hid (dv_sync D2.out (by decide) (by omega))
        rw [← hd2, k4] at CS2
        refine CS2.out.mono ?_
        rintro e w8 ⟨rfl, Qw8, hD, hK, hO⟩
        have Nw8 : Hid (∀ b, P b → ¬ Qw8 b) := fun b y z => (hO b z).elim (fun u => NN.out b y u) (fun u => by have := (D1.out.di.lt b y).2; omega)
        replace D1 := Lib.hid (D1.out.kept hK D2.out.hB (fun b z y => NN.out b z y))
        replace D2 := Lib.hid hD
        replace NN := Nw8
        clear hD hK hO Nw8
        generalize Qw8 = Q at D2 NN
        go_wp2_with fail
        have OK2 := Lib.hid k1; have F2 := Lib.hid k2; have P2 := Lib.hid k3
        clear hd2 k1 k2 k3 k4 CS1 CS2
        refine (CA.out _).mono ?_
        rintro e w9 ⟨Af, kf, nf, rfl, h1, h2, hbf, h4, h5, h6⟩
        have Mf := Lib.hid h1; have Rf := Lib.hid h2; have Nf := Lib.hid h6; have BF := Lib.hid hbf
        clear h1 h2 h4 h5 h6 hbf
        go_wp2_with fail
        refine (dv_write D1.out BF.out (p : Int) Af nf kf (fillB a) (by decide) (by omega) Rf.out Mf.out Nf.out).mono ?_
        rintro e w10 ⟨rfl, Pw10, hD, hK, hO⟩
        have Nw10 : Hid (∀ b, Pw10 b → ¬ Q b) := fun b z y => (hO b z).elim (fun u => NN.out b u y) (fun u => by have := (D2.out.di.lt b y).2; omega)
        replace D2 := Lib.hid (D2.out.kept hK D1.out.hB (fun b z y => NN.out b y z))
        replace D1 := Lib.hid hD
        replace NN := Nw10
        clear hD hK hO Nw10
        clear Mf Rf Nf BF
        generalize Pw10 = P at D1 NN
        go_wp2_with fail
        refine (CB.out _).mono ?_
        rintro e w11 ⟨Af, kf, nf, rfl, h1, h2, hbf, h4, h5, h6⟩
        have Mf := Lib.hid h1; have Rf := Lib.hid h2; have Nf := Lib.hid h6; have BF := Lib.hid hbf
        clear h1 h2 h4 h5 h6 hbf
        go_wp2_with fail
        refine (dv_write D1.out BF.out (q : Int) Af nf kf (fillB b) (by decide) (by omega) Rf.out Mf.out Nf.out).mono ?_
        rintro e w12 ⟨rfl, Pw12, hD, hK, hO⟩
        have Nw12 : Hid (∀ b, Pw12 b → ¬ Q b) := fun b z y => (hO b z).elim (fun u => NN.out b u y) (fun u => by have := (D2.out.di.lt b y).2; omega)
        replace D2 := Lib.hid (D2.out.kept hK D1.out.hB (fun b z y => NN.out b y z))
        replace D1 := Lib.hid hD
        replace NN := Nw12
        clear hD hK hO Nw12
        clear Mf Rf Nf BF
        generalize Pw12 = P at D1 NN
        go_wp2_with fail
        refine (CB.out _).mono ?_
        rintro e w13 ⟨Af, kf, nf, rfl, h1, h2, hbf, h4, h5, h6⟩
        have Mf := Lib.hid h1; have Rf := Lib.hid h2; have Nf := Lib.hid h6; have BF := Lib.hid hbf
        clear h1 h2 h4 h5 h6 hbf
        go_wp2_with fail
        refine (dv_write D2.out BF.out (q : Int) Af nf kf (fillB b) (by decide) (by omega) Rf.out Mf.out Nf.out).mono ?_
        rintro e w14 ⟨rfl, Qw14, hD, hK, hO⟩
        have Nw14 : Hid (∀ b, P b → ¬ Qw14 b) := fun b y z => (hO b z).elim (fun u => NN.out b y u) (fun u => by have := (D1.out.di.lt b y).2; omega)
        replace D1 := Lib.hid (D1.out.kept hK D2.out.hB (fun b z y => NN.out b z y))
        replace D2 := Lib.hid hD
        replace NN := Nw14
        clear hD hK hO Nw14
        clear Mf Rf Nf BF
        generalize Qw14 = Q at D2 NN
        go_wp2_with fail
        refine (CA.out _).mono ?_
        rintro e w15 ⟨Af, kf, nf, rfl, h1, h2, hbf, h4, h5, h6⟩
        have Mf := Lib.hid h1; have Rf := Lib.hid h2; have Nf := Lib.hid h6; have BF := Lib.hid hbf
        clear h1 h2 h4 h5 h6 hbf
        go_wp2_with fail
        refine (dv_write D2.out BF.out (p : Int) Af nf kf (fillB a) (by decide) (by omega) Rf.out Mf.out Nf.out).mono ?_
        rintro e w16 ⟨rfl, Qw16, hD, hK, hO⟩
        have Nw16 : Hid (∀ b, P b → ¬ Qw16 b) := fun b y z => (hO b z).elim (fun u => NN.out b y u) (fun u => by have := (D1.out.di.lt b y).2; omega)
        replace D1 := Lib.hid (D1.out.kept hK D2.out.hB (fun b z y => NN.out b z y))
        replace D2 := Lib.hid hD
        replace NN := Nw16
        clear hD hK hO Nw16
        clear Mf Rf Nf BF
        generalize Qw16 = Q at D2 NN
        go_wp2_with fail
        have W1 : Hid ((dkWrite (dkWrite d2 (p : Int) (fillB a)).1 (q : Int) (fillB b)).1 = { d2 with p := [(p, fillB a), (q, fillB b)] }) := two_writes OK2.out F2.out P2.out p6.out q6.out a b
        have W2 : Hid ((dkWrite (dkWrite d2 (q : Int) (fillB b)).1 (p : Int) (fillB a)).1 = { d2 with p := [(q, fillB b), (p, fillB a)] }) := two_writes OK2.out F2.out P2.out q6.out p6.out b a
        rw [W1.out] at D1
        rw [W2.out] at D2
        have RO : Hid (∀ j : Nat, j < 6 → (p ≠ q ∨ keep = false) → dkRead (dkCrash { d2 with p := [(p, fillB a), (q, fillB b)] } [keep, keep] (-1)) (j : Int) = dkRead (dkCrash { d2 with p := [(q, fillB b), (p, fillB a)] } [keep, keep] (-1)) (j : Int)) := fun j hj hh => either_order OK2.out p6.out q6.out a b keep j hj hh
        have RS : Hid (keep = true → dkRead (dkCrash { d2 with p := [(p, fillB a), (q, fillB b)] } [keep, keep] (-1)) (q : Int) = (fillB b, 0)) := fun hh => by subst hh; exact second_stays OK2.out p6.out q6.out a b
        obtain ⟨e1, he1⟩ : ∃ e1 : Dk, e1 = { d2 with p := [(p, fillB a), (q, fillB b)] } := ⟨_, rfl⟩
        obtain ⟨e2, he2⟩ : ∃ e2 : Dk, e2 = { d2 with p := [(q, fillB b), (p, fillB a)] } := ⟨_, rfl⟩
        rw [← he1] at D1 RS RO
        rw [← he2] at D2 RO
        clear he1 he2 W1 W2 OK2 F2 P2
        have WA := chain_alloc (Below.refl _ w16) (.cells #[.bool keep, .bool keep] 4)
        have RK : Rg qcells (w16.alloc (.cells #[.bool keep, .bool keep] 4)) (some ⟨w16.heap.size, 0, none⟩) [keep, keep] := rg_block (heap_alloc_new w16 _) rfl
        have NK := fun z => Nat.lt_irrefl _ (D1.out.di.lt w16.heap.size z).2
        replace D1 := Lib.hid (D1.out.below WA)
        replace D2 := Lib.hid (D2.out.below WA)
        refine (dv_crash D1.out [keep, keep] (-1) (some ⟨w16.heap.size, 0, none⟩) 2 2 (by decide) (by omega) RK rfl (fun _ a e z => by obtain rfl := Option.some.inj e; exact NK z)).mono ?_
        rintro e w17 ⟨rfl, Pw17, hD, hK, hO⟩
        have Nw17 : Hid (∀ b, Pw17 b → ¬ Q b) := fun b z y => (hO b z).elim (fun u => NN.out b u y) (fun u => by have := (D2.out.di.lt b y).2; omega)
        replace D2 := Lib.hid (D2.out.kept hK D1.out.hB (fun b z y => NN.out b y z))
        replace D1 := Lib.hid hD
        replace NN := Nw17
        clear hD hK hO Nw17
        clear WA RK NK
        generalize Pw17 = P at D1 NN
        go_wp2_with fail
        have WA := chain_alloc (Below.refl _ w17) (.cells #[.bool keep, .bool keep] 4)
        have RK : Rg qcells (w17.alloc (.cells #[.bool keep, .bool keep] 4)) (some ⟨w17.heap.size, 0, none⟩) [keep, keep] := rg_block (heap_alloc_new w17 _) rfl
        have NK := fun z => Nat.lt_irrefl _ (D2.out.di.lt w17.heap.size z).2
        replace D1 := Lib.hid (D1.out.below WA)
        replace D2 := Lib.hid (D2.out.below WA)
        refine (dv_crash D2.out [keep, keep] (-1) (some ⟨w17.heap.size, 0, none⟩) 2 2 (by decide) (by omega) RK rfl (fun _ a e z => by obtain rfl := Option.some.inj e; exact NK z)).mono ?_
        rintro e w18 ⟨rfl, Qw18, hD, hK, hO⟩
        have Nw18 : Hid (∀ b, P b → ¬ Qw18 b) := fun b y z => (hO b z).elim (fun u => NN.out b y u) (fun u => by have := (D1.out.di.lt b y).2; omega)
        replace D1 := Lib.hid (D1.out.kept hK D2.out.hB (fun b z y => NN.out b z y))
        replace D2 := Lib.hid hD
        replace NN := Nw18
        clear hD hK hO Nw18
        clear WA RK NK
        generalize Qw18 = Q at D2 NN
        go_wp2_with fail
        obtain ⟨f1, hf1⟩ : ∃ f1 : Dk, f1 = dkCrash e1 [keep, keep] (-1) := ⟨_, rfl⟩
        obtain ⟨f2, hf2⟩ : ∃ f2 : Dk, f2 = dkCrash e2 [keep, keep] (-1) := ⟨_, rfl⟩
        rw [← hf1] at D1 RS RO
        rw [← hf2] at D2 RO
        clear hf1 hf2
        go_loopg [19] 6 (fun gh s19 wx => ∃ (m : Nat), m ≤ 6 ∧ Hid (gh = 6 - m) ∧ s19 = .int .i64 (m : Int) ∧ Hid (DV w X 6 0 f1 g P wx) ∧ Hid (DV w Y 6 0 f2 h Q wx))
        case atStart => exact ⟨0, Nat.zero_le _, by show _ = _; omega, rfl, D1, D2⟩
        case round =>
          clear D1 D2
          obtain ⟨m, hm6, HGG, rfl, D1, D2⟩ := hrel
          by_cases kn : m < 6
          · have ki : (m : Int) < 6 := by omega
            have k0 : (0 : Int) ≤ (m : Int) := by omega
            have KN := Lib.hid kn
            clear kn hm6
            go_wp2_with fail
            refine (dv_read D1.out (m : Int) (by decide) (by decide)).mono ?_
            obtain ⟨R, hR⟩ : ∃ R, R = dkRead f1 (m : Int) := ⟨_, rfl⟩
            rw [← hR]
            rintro e w7 ⟨Ax, nx, cx, rfl, h1, h2, hb7, _, _, _⟩
            replace D1 := Lib.hid (D1.out.below hb7)
            replace D2 := Lib.hid (D2.out.below hb7)
            have RX := Lib.hid h2; have MX := Lib.hid h1
            have HR := Lib.hid hR
            clear h1 h2 hb7 hR
            go_wp2_with fail
            refine (dv_read D2.out (m : Int) (by decide) (by decide)).mono ?_
            obtain ⟨S, hS⟩ : ∃ S, S = dkRead f2 (m : Int) := ⟨_, rfl⟩
            rw [← hS]
            rintro e w8 ⟨Ay, ny, cy, rfl, h1, h2, hb8, _, _, _⟩
            replace D1 := Lib.hid (D1.out.below hb8)
            replace D2 := Lib.hid (D2.out.below hb8)
            have tx1 := text_of (c := cx) (RX.out.below hb8) MX.out
            have ty1 := text_of (c := cy) h2 h1
            have RRS : Hid ((p ≠ q ∨ keep = false) → R = S) := fun z => by rw [HR.out, hS]; exact RO.out m KN.out z
            clear h1 h2 hb8 HR hS RX MX
            by_cases pq : p = q
            · have epq : ((p : Int) != (q : Int)) = false := by simp [pq]
              cases keep with
              | true =>
                clear pq
                go_wp2_with fail
                go_roundg (6 - (m + 1))
                case measure => have := HGG.out; have := KN.out; omega
                case rel => exact ⟨m + 1, by have := KN.out; omega, rfl, by go_num, D1, D2⟩
              | false =>
                obtain rfl := RRS.out (Or.inr rfl)
                have ne := tx_same_yes R.1
                have ee : (R.2 != R.2) = false := by simp
                clear pq
                go_wp2_with fail
                go_roundg (6 - (m + 1))
                case measure => have := HGG.out; have := KN.out; omega
                case rel => exact ⟨m + 1, by have := KN.out; omega, rfl, by go_num, D1, D2⟩
            · have epq : ((p : Int) != (q : Int)) = true := by simp; omega
              obtain rfl := RRS.out (Or.inl pq)
              have ne := tx_same_yes R.1
              have ee : (R.2 != R.2) = false := by simp
              clear pq
              go_wp2_with fail
              go_roundg (6 - (m + 1))
              case measure => have := HGG.out; have := KN.out; omega
              case rel => exact ⟨m + 1, by have := KN.out; omega, rfl, by go_num, D1, D2⟩
          · obtain rfl : m = 6 := by omega
            go_wp2_with fail
            refine (dv_read D1.out (q : Int) (by decide) (by decide)).mono ?_
            obtain ⟨R, hR⟩ : ∃ R, R = dkRead f1 (q : Int) := ⟨_, rfl⟩
            rw [← hR]
            rintro e w7 ⟨Ax, nx, cx, rfl, h1, h2, hb7, _, _, _⟩
            have B7 := Lib.hid (chain D1.out.bl hb7)
            have RX := Lib.hid h2; have MX := Lib.hid h1
            clear h1 h2 hb7
            cases keep with
            | false =>
              clear hR
              go_wp2_with fail
              go_quiet (fail)
              go_wp2_with fail
              go_ret
              exact ⟨rfl, chain_drewN B7.out _⟩
            | true =>
              rw [RS.out rfl] at hR
              subst hR
              dsimp only at RX MX ⊢
              go_wp2_with fail
              refine wp_region_noPanic ?_
              refine wp_region_held_drew (S := fun w' => Below w7.drew.heap.size w7.drew w') (by kernel_rfl) (Below.refl _ _) (fun hHeld => ?_)
              have hb := below_drew w7
              generalize w7.drew = w8 at hb hHeld ⊢
              have B8 := Lib.hid (chain B7.out hb)
              replace RX := Lib.hid (RX.out.below hb)
              clear hb B7
              clear hHeld
              have hHeld : Below w8.heap.size w8 w8 := Below.refl _ _
              refine wpAnyH_take (i := 0) (v := ?vv5000) (by simp only [List.getElem?_toArray, List.getElem?_cons_zero]; rfl) (by kernel_rfl) (by kernel_rfl) (by kernel_rfl) (fun _ _ _ h => h) (Or.inl ⟨by rfl, ?yy5000⟩) (by assumption) ?rr5000
              case yy5000 => (intro w' hSw; go_simp; first | done | with_reducible rfl)
              simp only [Act.put, List.setIfInBounds_toArray, List.set_cons_zero, List.set_cons_succ]
              refine wpAnyH_take (i := 1) (v := ?vv5001) (by simp only [List.getElem?_toArray, List.getElem?_cons_zero, List.getElem?_cons_succ]; rfl) (by kernel_rfl) (by kernel_rfl) (by kernel_rfl) (fun _ _ _ h => h) (Or.inl ⟨by rfl, ?yy5001⟩) (by assumption) ?rr5001
              case yy5001 => (intro w' hSw; go_simp; first | done | with_reducible rfl)
              simp only [Act.put, List.setIfInBounds_toArray, List.set_cons_zero, List.set_cons_succ]
              refine wpAnyH_take (i := 2) (v := ?vv5002) (by simp only [List.getElem?_toArray, List.getElem?_cons_zero, List.getElem?_cons_succ]; rfl) (by kernel_rfl) (by kernel_rfl) (by kernel_rfl) (fun _ _ _ h => h) (Or.inl ⟨by rfl, ?yy5002⟩) (by assumption) ?rr5002
              case yy5002 => (intro w' hSw; go_simp; first | done | with_reducible rfl)
              simp only [Act.put, List.setIfInBounds_toArray, List.set_cons_zero, List.set_cons_succ]
              refine wpAnyH_take (i := 3) (v := ?vv5003) (by simp only [List.getElem?_toArray, List.getElem?_cons_zero, List.getElem?_cons_succ]; rfl) (by kernel_rfl) (by kernel_rfl) (by kernel_rfl) (fun _ _ _ h => h) (Or.inl ⟨by rfl, ?yy5003⟩) (by assumption) ?rr5003
              case yy5003 => (intro w' hSw; go_simp; first | done | with_reducible rfl)
              simp only [Act.put, List.setIfInBounds_toArray, List.set_cons_zero, List.set_cons_succ]
              refine wpAnyH_take (i := 4) (v := ?vv5004) (by simp only [List.getElem?_toArray, List.getElem?_cons_zero, List.getElem?_cons_succ]; rfl) (by kernel_rfl) (by kernel_rfl) (by kernel_rfl) (fun _ _ _ h => h) (Or.inl ⟨by rfl, ?yy5004⟩) (by assumption) ?rr5004
              case yy5004 => (intro w' hSw; go_simp; first | done | with_reducible rfl)
              simp only [Act.put, List.setIfInBounds_toArray, List.set_cons_zero, List.set_cons_succ]
              refine wpAnyH_take (i := 5) (v := ?vv5005) (by simp only [List.getElem?_toArray, List.getElem?_cons_zero, List.getElem?_cons_succ]; rfl) (by kernel_rfl) (by kernel_rfl) (by kernel_rfl) (fun _ _ _ h => h) (Or.inl ⟨by rfl, ?yy5005⟩) (by assumption) ?rr5005
              case yy5005 => (intro w' hSw; go_simp; first | done | with_reducible rfl)
              simp only [Act.put, List.setIfInBounds_toArray, List.set_cons_zero, List.set_cons_succ]
              refine wpAnyH_take (i := 6) (v := ?vv5006) (by simp only [List.getElem?_toArray, List.getElem?_cons_zero, List.getElem?_cons_succ]; rfl) (by kernel_rfl) (by kernel_rfl) (by kernel_rfl) (fun _ _ _ h => h) (Or.inl ⟨by rfl, ?yy5006⟩) (by assumption) ?rr5006
              case yy5006 => (intro w' hSw; go_simp; first | done | with_reducible rfl)
              simp only [Act.put, List.setIfInBounds_toArray, List.set_cons_zero, List.set_cons_succ]
              refine wpAnyH_take (i := 7) (v := ?vv5007) (by simp only [List.getElem?_toArray, List.getElem?_cons_zero, List.getElem?_cons_succ]; rfl) (by kernel_rfl) (by kernel_rfl) (by kernel_rfl) (fun _ _ _ h => h) (Or.inl ⟨by rfl, ?yy5007⟩) (by assumption) ?rr5007
              case yy5007 => (intro w' hSw; go_simp; first | done | with_reducible rfl)
              simp only [Act.put, List.setIfInBounds_toArray, List.set_cons_zero, List.set_cons_succ]
              refine wpAnyH_take (i := 8) (v := ?vv5008) (by simp only [List.getElem?_toArray, List.getElem?_cons_zero, List.getElem?_cons_succ]; rfl) (by kernel_rfl) (by kernel_rfl) (by kernel_rfl) (fun _ _ _ h => h) (Or.inl ⟨by rfl, ?yy5008⟩) (by assumption) ?rr5008
              case yy5008 => (intro w' hSw; go_simp; first | done | with_reducible rfl)
              simp only [Act.put, List.setIfInBounds_toArray, List.set_cons_zero, List.set_cons_succ]
              refine wpAnyH_take (i := 9) (v := ?vv5009) (by simp only [List.getElem?_toArray, List.getElem?_cons_zero, List.getElem?_cons_succ]; rfl) (by kernel_rfl) (by kernel_rfl) (by kernel_rfl) (fun _ _ _ h => h) (Or.inl ⟨by rfl, ?yy5009⟩) (by assumption) ?rr5009
              case yy5009 => (intro w' hSw; have tx := text_of (c := cx) (RX.out.below hSw) MX.out; go_simp; first | done | with_reducible rfl)
              simp only [Act.put, List.setIfInBounds_toArray, List.set_cons_zero, List.set_cons_succ]
              refine wpAnyH_take (i := 10) (v := ?vv5010) (by simp only [List.getElem?_toArray, List.getElem?_cons_zero, List.getElem?_cons_succ]; rfl) (by kernel_rfl) (by kernel_rfl) (by kernel_rfl) (fun _ _ _ h => h) (Or.inl ⟨by rfl, ?yy5010⟩) (by assumption) ?rr5010
              case yy5010 => (intro w' hSw; go_simp; first | done | with_reducible rfl)
              simp only [Act.put, List.setIfInBounds_toArray, List.set_cons_zero, List.set_cons_succ]
              refine wpAnyH_ready (rs := [11]) (by kernel_rfl) (by simp) ?_
              refine AllReadyH.cons (by simp only [List.getElem?_toArray, List.getElem?_cons_zero, List.getElem?_cons_succ]; rfl) (fun K hK => ?_) AllReadyH.nil
              go_simp
              go_at_call 24
              (with_reducible refine (CB.out _).mono ?_)
              rintro e w9 ⟨Af, kf, nf, rfl, h1, h2, hb, h4, h5, h6⟩
              have Mf := Lib.hid h1; have Rf := Lib.hid h2
              clear h1 h2 h4 h5 h6
              have hb0 := hb
              go_wp2_with fail
              refine hK.out _ _ hb0 (fun hHeld => ?_)
              clear hK K hHeld
              refine wpAnyH_more (S' := fun w' => Below w9.heap.size w9 w') (fun _ h => chain hb0 h) _ _ _ _ ?_
              clear hb0
              have hHeld : Below w9.heap.size w9 w9 := Below.refl _ _
              try simp only [Act.put, List.setIfInBounds_toArray, List.set_cons_zero, List.set_cons_succ]
              have B9 := Lib.hid (chain B8.out hb)
              clear hb B8
              have ne := tx_same_yes (fillB b)
              refine wpAnyH_take (i := 12) (v := ?vv5012) (by simp only [List.getElem?_toArray, List.getElem?_cons_zero, List.getElem?_cons_succ]; rfl) (by kernel_rfl) (by kernel_rfl) (by kernel_rfl) (fun _ _ _ h => h) (Or.inl ⟨by rfl, ?yy5012⟩) (by assumption) ?rr5012
              case yy5012 => (intro w' hSw; have tf := text_of (c := kf) (Rf.out.below hSw) Mf.out; go_simp; first | done | with_reducible rfl)
              simp only [Act.put, List.setIfInBounds_toArray, List.set_cons_zero, List.set_cons_succ]
              refine wpAnyH_take (i := 13) (v := ?vv5013) (by simp only [List.getElem?_toArray, List.getElem?_cons_zero, List.getElem?_cons_succ]; rfl) (by kernel_rfl) (by kernel_rfl) (by kernel_rfl) (fun _ _ _ h => h) (Or.inl ⟨by rfl, ?yy5013⟩) (by assumption) ?rr5013
              case yy5013 => (intro w' hSw; go_simp; first | done | with_reducible rfl)
              simp only [Act.put, List.setIfInBounds_toArray, List.set_cons_zero, List.set_cons_succ]
              refine wpAnyH_take (i := 14) (v := ?vv5014) (by simp only [List.getElem?_toArray, List.getElem?_cons_zero, List.getElem?_cons_succ]; rfl) (by kernel_rfl) (by kernel_rfl) (by kernel_rfl) (fun _ _ _ h => h) (Or.inl ⟨by rfl, ?yy5014⟩) (by assumption) ?rr5014
              case yy5014 => (intro w' hSw; go_simp; first | done | with_reducible rfl)
              simp only [Act.put, List.setIfInBounds_toArray, List.set_cons_zero, List.set_cons_succ]
              refine wpAnyH_take (i := 15) (v := ?vv5015) (by simp only [List.getElem?_toArray, List.getElem?_cons_zero, List.getElem?_cons_succ]; rfl) (by kernel_rfl) (by kernel_rfl) (by kernel_rfl) (fun _ _ _ h => h) (Or.inl ⟨by rfl, ?yy5015⟩) (by assumption) ?rr5015
              case yy5015 => (intro w' hSw; go_simp; first | done | with_reducible rfl)
              simp only [Act.put, List.setIfInBounds_toArray, List.set_cons_zero, List.set_cons_succ]
              refine wpAnyH_take (i := 16) (v := ?vv5016) (by simp only [List.getElem?_toArray, List.getElem?_cons_zero, List.getElem?_cons_succ]; rfl) (by kernel_rfl) (by kernel_rfl) (by kernel_rfl) (fun _ _ _ h => h) (Or.inl ⟨by rfl, ?yy5016⟩) (by assumption) ?rr5016
              case yy5016 => (intro w' hSw; go_simp; first | done | with_reducible rfl)
              simp only [Act.put, List.setIfInBounds_toArray, List.set_cons_zero, List.set_cons_succ]
              refine wpAnyH_take (i := 17) (v := ?vv5017) (by simp only [List.getElem?_toArray, List.getElem?_cons_zero, List.getElem?_cons_succ]; rfl) (by kernel_rfl) (by kernel_rfl) (by kernel_rfl) (fun _ _ _ h => h) (Or.inl ⟨by rfl, ?yy5017⟩) (by assumption) ?rr5017
              case yy5017 => (intro w' hSw; go_simp; first | done | with_reducible rfl)
              simp only [Act.put, List.setIfInBounds_toArray, List.set_cons_zero, List.set_cons_succ]
              refine wpAnyH_done (by kernel_rfl) ?_ _
              refine NoPanic.normal ?_
              clear hHeld
              go_wp2_with fail
              go_ret
              exact ⟨rfl, B9.out⟩

end Go.Proofs.Ytpdedeaejlkokaa
