/-
  DiskLasts: the walk.
-/
import Derived.Test.YtpdedeaejlkokaaDLaw
namespace Go.Proofs.Ytpdedeaejlkokaa
open Go.RowKit

set_option maxHeartbeats 8000000 in
set_option maxRecDepth 100000 in
theorem law_dlasts (a : Nat) (ha : a ≤ 255) (A : Option Addr) (n c : Nat) (os : List Dop) (A2 : Option Addr) (n2 c2 : Nat) (ms : List Dop) (w : World) (H : Scr w A n c os) (H2 : Scr w A2 n2 c2 ms) : Calls Try.prog 4 #[.slice A n c, .slice A2 n2 c2, .int .u8 (a : Int)] w fun e w' => e = .returned (.bool true) ∧ Below w.heap.size w w' := by
  have HS := Lib.hid H
  have HT := Lib.hid H2
  obtain ⟨K, hK⟩ : ∃ K, K = a % 8 := ⟨_, rfl⟩
  have K8 : Hid (K < 8) := by show K < 8; omega
  have m1 : (a : Int).tmod 8 = (K : Int) := by rw [Int.tmod_eq_emod_of_nonneg (by omega)]; omega
  have m2 : (a : Int) % 8 = (K : Int) := by omega
  clear H H2 hK
  go_enter Try.func4, Try.ntmps4
  go_wp2_with fail
  refine (head15 _).mono ?_
  rintro e w1 ⟨rfl, hb⟩
  have B1 := Lib.hid hb
  clear hb
  go_wp2_with fail
  refine (dv_new 8 (by decide) B1.out).mono ?_
  rintro e w2 ⟨g, O, rfl, hD, _⟩
  have D2 := Lib.hid hD
  clear hD
  go_wp2_with fail
  refine (great15 A n c os _ (HS.out.r.below D2.out.bl) HS.out.l).mono ?_
  rintro e w3 ⟨b, rfl, hg, hb⟩
  have D3 := Lib.hid (D2.out.below hb)
  have HG := Lib.hid hg
  clear hb hg D2
  cases b with
  | true =>
    go_wp2_with fail
    go_ret
    exact ⟨rfl, D3.out.bl⟩
  | false =>
    have FT := Lib.hid (HG.out rfl)
    go_wp2_with fail
    refine (great15 A2 n2 c2 ms _ (HT.out.r.below D3.out.bl) HT.out.l).mono ?_
    rintro e w4 ⟨b, rfl, hg, hb⟩
    have D4 := Lib.hid (D3.out.below hb)
    have HG2 := Lib.hid hg
    clear hb hg D3
    cases b with
    | true =>
      go_wp2_with fail
      go_ret
      exact ⟨rfl, D4.out.bl⟩
    | false =>
      have FT2 := Lib.hid (HG2.out rfl)
      have n3 : n ≤ 300 := by rw [HS.out.l]; exact FT.out.1
      have n4 : n2 ≤ 300 := by rw [HT.out.l]; exact FT2.out.1
      go_wp2_with fail
      go_loopg [9] n (fun gh s9 wx => ∃ (i : Nat) (d : Dk) (O : Nat → Prop), i ≤ n ∧ Hid (gh = n - i) ∧ s9 = .int .i64 (i : Int) ∧ Hid (DV w w1.heap.size 8 i d g O wx))
      case atStart => exact ⟨0, _, _, Nat.zero_le _, by show _ = _; omega, rfl, D4⟩
      case round =>
        obtain ⟨i, d, O5, hi, HGG, rfl, DK⟩ := hrel
        by_cases kn : i < n
        · have ki : (i : Int) < (n : Int) := by omega
          have k0 : (0 : Int) ≤ (i : Int) := by omega
          obtain ⟨o, _, ob, bk, off, hb, hq, rfl, HB1, HQ1, cc⟩ := HS.out.at kn
          obtain ⟨c0, c1, c2, c3, c4, c5⟩ := cc wr DK.out.bl
          have OB := Lib.hid ob; have HBH := Lib.hid HB1; have HQH := Lib.hid HQ1; have KN := Lib.hid kn
          clear cc HB1 HQ1 ob kn
          go_wp2_with fail
          refine (dv_do DK.out o hb hq (by decide) (by omega) HBH.out HQH.out OB.out).mono ?_
          rintro e w5 ⟨rfl, O6, hD, _, _⟩
          have D5 := Lib.hid hD
          clear hD DK c0 c1 c2 c3 c4 c5
          go_wp2_with fail
          go_roundg (n - (i + 1))
          case measure => have := HGG.out; have := KN.out; omega
          case rel => exact ⟨i + 1, _, O6, by have := KN.out; omega, rfl, by go_num, D5⟩
        · obtain rfl : i = n := by omega
          clear kn hi
          go_wp2_with fail
          refine (dv_sync DK.out (by decide) (by omega)).mono ?_
          rintro e w5 ⟨rfl, O6, hD, _, _⟩
          have D5 := Lib.hid hD
          have ST := Lib.hid (still_sync (k := K) DK.out.ok)
          clear hD DK
          obtain ⟨E, hE⟩ : ∃ E, E = (dkSync d).2 := ⟨_, rfl⟩
          obtain ⟨d1, hd1⟩ : ∃ d1, d1 = (dkSync d).1 := ⟨_, rfl⟩
          have EE : E = 0 ∨ E = 42 := by rw [hE]; exact sync_two d
          rw [← hE, ← hd1] at ST
          rw [← hE]
          rw [← hd1] at D5
          clear hE hd1
          rcases EE with rfl | rfl
          · have S1 := Lib.hid (ST.out rfl K8.out)
            clear ST
            obtain ⟨R, hR⟩ : ∃ R, R = dkRead d1 (K : Int) := ⟨_, rfl⟩
            rw [← hR] at S1
            go_wp2_with fail
            refine (dv_read D5.out (K : Int) (by decide) (by omega)).mono ?_
            rw [← hR]
            rintro e w6 ⟨Ax, nx, cx, rfl, h1, h2, hb6, h3, h4, h5⟩
            have D6 := Lib.hid (D5.out.below hb6)
            have XL := Lib.hid h1
            have KX := Lib.hid (KR.new D5.out h2 h4)
            clear h1 h2 hb6 h3 h4 h5 D5 hR
            go_wp2_with fail
            go_loopg [13] n2 (fun gh s13 wx => ∃ (q : Nat) (d : Dk) (O : Nat → Prop), q ≤ n2 ∧ Hid (gh = n2 - q) ∧ s13 = .int .i64 (q : Int) ∧ Hid (DV w w1.heap.size 8 (i + q) d g O wx) ∧ Hid (Still 8 K R d) ∧ Hid (KR O wx Ax R.1))
            case atStart => exact ⟨0, _, _, Nat.zero_le _, by show _ = _; omega, rfl, D6, S1, KX⟩
            case round =>
              obtain ⟨q, d, O5, hi, HGG, rfl, DK, ST, KX⟩ := hrel
              by_cases kn : q < n2
              · have ki : (q : Int) < (n2 : Int) := by omega
                have k0 : (0 : Int) ≤ (q : Int) := by omega
                obtain ⟨o, _, ob, bk, off, hb, hq, rfl, HB1, HQ1, cc⟩ := HT.out.at kn
                obtain ⟨c0, c1, c2, c3, c4, c5⟩ := cc wr DK.out.bl
                have OB := Lib.hid ob; have HBH := Lib.hid HB1; have HQH := Lib.hid HQ1; have KN := Lib.hid kn
                have WA := chain_alloc (Below.refl _ wr) (.cells (opcells o hb hq) 34)
                have TB := heap_alloc_new wr (.cells (opcells o hb hq) 34)
                have D5 := Lib.hid (DK.out.below WA)
                have KX5 := Lib.hid (KX.out.below WA)
                clear cc HB1 HQ1 ob kn DK KX
                by_cases h5 : o.w < 5
                · have d5 : decide (o.w < 5) = true := decide_eq_true h5
                  by_cases ha : o.a = (K : Int)
                  · have da : (o.a == (K : Int)) = true := by simp [ha]
                    have h5x := h5
                    clear ha h5
                    clear h5x TB
                    go_wp2_with fail
                    go_roundg (n2 - (q + 1))
                    case measure => have := HGG.out; have := KN.out; omega
                    case rel => exact ⟨q + 1, d, O5, by have := KN.out; omega, rfl, by go_num, by have := D5.out; exact Lib.hid (this.up (by omega)), ST, KX5⟩
                  · have da : (o.a == (K : Int)) = false := by simpa using ha
                    have NS : Hid (¬ ((o.w < 5 ∨ 8 < o.w) ∧ o.a = (K : Int))) := fun z => ha z.2
                    have h5x := h5
                    clear ha h5
                    clear h5x
                    go_wp2_with fail
                    obtain ⟨bt, hbt⟩ : ∃ bt, bt = wr.heap.size := ⟨_, rfl⟩
                    rw [← hbt] at TB ⊢
                    have WA5 := WA
                    have TB5 := TB
                    unfold opcells at TB5 D5 KX5
                    generalize wr.alloc (.cells #[.int .i64 o.w, .int .i64 o.a, .int .u8 (bz o.c), .slice hb.a hb.n hb.c, .int .i64 o.n, .slice hq.a hq.n hq.c] 34) = w5 at TB5 D5 KX5 ⊢
                    go_wp2_with fail
                    refine (dv_do D5.out o hb hq (by decide) (by omega) HBH.out HQH.out OB.out).mono ?_
                    rintro e w6 ⟨rfl, O6, hD, hK, hO⟩
                    have D6 := Lib.hid hD
                    have KX6 := Lib.hid (KX5.out.next hK hO)
                    have ST6 := Lib.hid (ST.out.do' o NS.out)
                    clear hD hK hO D5 KX5 ST NS TB TB5 WA WA5 hbt
                    go_wp2_with fail
                    refine (dv_read D6.out (K : Int) (by decide) (by omega)).mono ?_
                    rw [ST6.out.read K8.out]
                    rintro e w7 ⟨Ay, ny, cy, rfl, h1, h2, hb7, h3, h4, h5⟩
                    have D7 := Lib.hid (D6.out.below hb7)
                    have KX7 := Lib.hid (KX6.out.below hb7)
                    have tx1 := text_of (c := cx) KX7.out.1 XL.out
                    have ty1 := text_of (c := cy) h2 h1
                    have ne := tx_same_yes R.1
                    have ee : (R.2 != R.2) = false := by simp
                    clear h1 h2 hb7 h3 h4 h5 D6 KX6
                    go_wp2_with fail
                    go_roundg (n2 - (q + 1))
                    case measure => have := HGG.out; have := KN.out; omega
                    case rel => exact ⟨q + 1, _, O6, by have := KN.out; omega, rfl, by go_num, D7, ST6, KX7⟩
                have d5 : decide (o.w < 5) = false := decide_eq_false h5
                by_cases h8 : 8 < o.w
                · have d8 : decide (8 < o.w) = true := decide_eq_true h8
                  by_cases ha : o.a = (K : Int)
                  · have da : (o.a == (K : Int)) = true := by simp [ha]
                    have h5x := h5
                    clear ha h5 h8
                    clear h5x TB
                    go_wp2_with fail
                    go_roundg (n2 - (q + 1))
                    case measure => have := HGG.out; have := KN.out; omega
                    case rel => exact ⟨q + 1, d, O5, by have := KN.out; omega, rfl, by go_num, by have := D5.out; exact Lib.hid (this.up (by omega)), ST, KX5⟩
                  · have da : (o.a == (K : Int)) = false := by simpa using ha
                    have NS : Hid (¬ ((o.w < 5 ∨ 8 < o.w) ∧ o.a = (K : Int))) := fun z => ha z.2
                    have h5x := h5
                    clear ha h5 h8
                    clear h5x
                    go_wp2_with fail
                    obtain ⟨bt, hbt⟩ : ∃ bt, bt = wr.heap.size := ⟨_, rfl⟩
                    rw [← hbt] at TB ⊢
                    have WA5 := WA
                    have TB5 := TB
                    unfold opcells at TB5 D5 KX5
                    generalize wr.alloc (.cells #[.int .i64 o.w, .int .i64 o.a, .int .u8 (bz o.c), .slice hb.a hb.n hb.c, .int .i64 o.n, .slice hq.a hq.n hq.c] 34) = w5 at TB5 D5 KX5 ⊢
                    go_wp2_with fail
                    refine (dv_do D5.out o hb hq (by decide) (by omega) HBH.out HQH.out OB.out).mono ?_
                    rintro e w6 ⟨rfl, O6, hD, hK, hO⟩
                    have D6 := Lib.hid hD
                    have KX6 := Lib.hid (KX5.out.next hK hO)
                    have ST6 := Lib.hid (ST.out.do' o NS.out)
                    clear hD hK hO D5 KX5 ST NS TB TB5 WA WA5 hbt
                    go_wp2_with fail
                    refine (dv_read D6.out (K : Int) (by decide) (by omega)).mono ?_
                    rw [ST6.out.read K8.out]
                    rintro e w7 ⟨Ay, ny, cy, rfl, h1, h2, hb7, h3, h4, h5⟩
                    have D7 := Lib.hid (D6.out.below hb7)
                    have KX7 := Lib.hid (KX6.out.below hb7)
                    have tx1 := text_of (c := cx) KX7.out.1 XL.out
                    have ty1 := text_of (c := cy) h2 h1
                    have ne := tx_same_yes R.1
                    have ee : (R.2 != R.2) = false := by simp
                    clear h1 h2 hb7 h3 h4 h5 D6 KX6
                    go_wp2_with fail
                    go_roundg (n2 - (q + 1))
                    case measure => have := HGG.out; have := KN.out; omega
                    case rel => exact ⟨q + 1, _, O6, by have := KN.out; omega, rfl, by go_num, D7, ST6, KX7⟩
                have d8 : decide (8 < o.w) = false := decide_eq_false h8
                have NS : Hid (¬ ((o.w < 5 ∨ 8 < o.w) ∧ o.a = (K : Int))) := fun z => z.1.elim h5 h8
                have h5x := h5
                clear h5 h8
                clear h5x
                go_wp2_with fail
                obtain ⟨bt, hbt⟩ : ∃ bt, bt = wr.heap.size := ⟨_, rfl⟩
                rw [← hbt] at TB ⊢
                have WA5 := WA
                have TB5 := TB
                unfold opcells at TB5 D5 KX5
                generalize wr.alloc (.cells #[.int .i64 o.w, .int .i64 o.a, .int .u8 (bz o.c), .slice hb.a hb.n hb.c, .int .i64 o.n, .slice hq.a hq.n hq.c] 34) = w5 at TB5 D5 KX5 ⊢
                go_wp2_with fail
                refine (dv_do D5.out o hb hq (by decide) (by omega) HBH.out HQH.out OB.out).mono ?_
                rintro e w6 ⟨rfl, O6, hD, hK, hO⟩
                have D6 := Lib.hid hD
                have KX6 := Lib.hid (KX5.out.next hK hO)
                have ST6 := Lib.hid (ST.out.do' o NS.out)
                clear hD hK hO D5 KX5 ST NS TB TB5 WA WA5 hbt
                go_wp2_with fail
                refine (dv_read D6.out (K : Int) (by decide) (by omega)).mono ?_
                rw [ST6.out.read K8.out]
                rintro e w7 ⟨Ay, ny, cy, rfl, h1, h2, hb7, h3, h4, h5⟩
                have D7 := Lib.hid (D6.out.below hb7)
                have KX7 := Lib.hid (KX6.out.below hb7)
                have tx1 := text_of (c := cx) KX7.out.1 XL.out
                have ty1 := text_of (c := cy) h2 h1
                have ne := tx_same_yes R.1
                have ee : (R.2 != R.2) = false := by simp
                clear h1 h2 hb7 h3 h4 h5 D6 KX6
                go_wp2_with fail
                go_roundg (n2 - (q + 1))
                case measure => have := HGG.out; have := KN.out; omega
                case rel => exact ⟨q + 1, _, O6, by have := KN.out; omega, rfl, by go_num, D7, ST6, KX7⟩
              · obtain rfl : q = n2 := by omega
                clear kn
                go_wp2_with fail
                refine (dv_crash DK.out [] (-1) none 0 0 (by decide) (by omega) (Rg.nil _ _ _) rfl (fun z => by simp at z)).mono ?_
                rintro e w7 ⟨rfl, O7, hD, hK, hO⟩
                have D7 := Lib.hid hD
                have KX7 := Lib.hid (KX.out.next hK hO)
                have ST7 := Lib.hid (ST.out.crash [] (-1))
                clear hD hK hO DK KX ST
                go_wp2_with fail
                refine (dv_read D7.out (K : Int) (by decide) (by omega)).mono ?_
                rw [ST7.out.read K8.out]
                rintro e w8 ⟨Ay, ny, cy, rfl, h1, h2, hb8, h3, h4, h5⟩
                have D8 := Lib.hid (D7.out.below hb8)
                have tx1 := text_of (c := cx) (KX7.out.below hb8).1 XL.out
                have ty1 := text_of (c := cy) h2 h1
                have ne := tx_same_yes R.1
                have ee : (R.2 == R.2) = true := by simp
                clear h1 h2 hb8 h3 h4 h5 D7 KX7
                go_wp2_with fail
                go_ret
                exact ⟨rfl, D8.out.bl⟩
          · go_wp2_with fail
            go_ret
            exact ⟨rfl, D5.out.bl⟩

end Go.Proofs.Ytpdedeaejlkokaa
