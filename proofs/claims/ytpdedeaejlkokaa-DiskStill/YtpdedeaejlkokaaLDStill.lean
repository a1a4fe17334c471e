/-
  DiskStill: the walk.
-/
import Derived.Test.YtpdedeaejlkokaaDLaw
namespace Go.Proofs.Ytpdedeaejlkokaa
open Go.RowKit

set_option maxHeartbeats 8000000 in
set_option maxRecDepth 100000 in
theorem law_dstill (m : Nat) (hm : m ≤ 255) (A : Option Addr) (n c : Nat) (os : List Dop) (w : World) (H : Scr w A n c os) : Calls Try.prog 7 #[.int .u8 (m : Int), .slice A n c] w fun e w' => e = .returned (.bool true) ∧ Below w.heap.size w w' := by
  have HS := Lib.hid H
  clear H
  go_enter Try.func7, Try.ntmps7
  go_wp2_with fail
  refine (head15 _).mono ?_
  rintro e w1 ⟨rfl, hb⟩
  have B1 := Lib.hid hb
  clear hb
  go_wp2_with fail
  refine (dv_new 6 (by decide) B1.out).mono ?_
  rintro e w2 ⟨g, O, rfl, hD, _⟩
  have D2 := Lib.hid hD
  clear hD
  go_wp2_with fail
  refine (great15 A n c os _ (HS.out.r.below D2.out.bl) HS.out.l).mono ?_
  rintro e w3 ⟨b, rfl, hg, hb⟩
  have D3 := Lib.hid (D2.out.below hb)
  have HG := Lib.hid hg
  clear hb hg D2
  cases b with
  | true =>
    go_wp2_with fail
    go_ret
    exact ⟨rfl, D3.out.bl⟩
  | false =>
    have FT := Lib.hid (HG.out rfl)
    go_wp2_with fail
    refine (dv_fuse D3.out (m : Int) (by omega)).mono ?_
    rintro e w4 ⟨rfl, O4, hD, _, _⟩
    have F0 : Hid (Fused m 0 (dkFuse (dkNew 6) (m : Int))) := by
      show Fused _ _ _
      unfold Fused dkFuse
      show max (m : Int) (-1) = _
      omega
    have D4 := Lib.hid hD
    clear hD D3
    have n3 : n ≤ 300 := by rw [HS.out.l]; exact FT.out.1
    go_wp2_with fail
    go_loopg [7, 8] n (fun gh s7 s8 wx => ∃ (i j : Nat) (d : Dk) (O : Nat → Prop), i ≤ n ∧ Hid (gh = n - i) ∧ s8 = .int .i64 (i : Int) ∧ s7 = .int .i64 (j : Int) ∧ Hid (DV w w1.heap.size 6 i d g O wx) ∧ Hid (j ≤ i) ∧ Hid (Fused m j d))
    case atStart => exact ⟨0, 0, _, _, Nat.zero_le _, by show _ = _; omega, rfl, rfl, D4, Nat.le_refl 0, F0⟩
    case round =>
      obtain ⟨i, j, d, O5, hi, HGG, rfl, rfl, DK, JI, FU⟩ := hrel
      by_cases kn : i < n
      · have ki : (i : Int) < (n : Int) := by omega
        have k0 : (0 : Int) ≤ (i : Int) := by omega
        obtain ⟨o, go⟩ : ∃ o, os[i]? = some o := ⟨_, List.getElem?_eq_getElem (by rw [← HS.out.l]; exact kn)⟩
        obtain ⟨bk, off, hb, hq, rfl, lt, q0, q1, q2, q3, q4, q5, HB1, HQ1⟩ := HS.out.r.at go
        have OB : Hid (o.n ≤ 9223372036854775807) := HS.out.b o (List.mem_of_getElem? go)
        have cc : ∀ r, wr.cell? ⟨bk, r, none⟩ = w.cell? ⟨bk, r, none⟩ := fun r => DK.out.bl.cell (p := ⟨bk, r, none⟩) lt
        have c0 := (cc _).trans q0; have c1 := (cc _).trans q1; have c2 := (cc _).trans q2; have c3 := (cc _).trans q3; have c4 := (cc _).trans q4; have c5 := (cc _).trans q5
        have HBH := Lib.hid HB1; have HQH := Lib.hid HQ1; have KN := Lib.hid kn
        clear cc q0 q1 q2 q3 q4 q5 HB1 HQ1 go lt kn
        have WA := chain_alloc (Below.refl _ wr) (.cells (opcells o hb hq) 34)
        have TB := heap_alloc_new wr (.cells (opcells o hb hq) 34)
        have D5 := Lib.hid ((DK.out.below WA).up (Nat.le_succ i))
        have D5k := Lib.hid (DK.out.below WA)
        by_cases h7 : o.w = 7
        · have b7 : (o.w == 7) = true := by simp [h7]
          clear h7 TB
          go_wp2_with fail
          go_roundg (n - (i + 1))
          case measure => have := HGG.out; have := KN.out; omega
          case rel => exact ⟨i + 1, j, d, O5, by have := KN.out; omega, rfl, by go_num, rfl, D5, by have := JI.out; show _ ≤ _; omega, FU⟩
        have b7 : (o.w == 7) = false := by simpa using h7
        by_cases h8 : o.w = 8
        · have b8 : (o.w == 8) = true := by simp [h8]
          clear h7 h8 TB
          go_wp2_with fail
          go_roundg (n - (i + 1))
          case measure => have := HGG.out; have := KN.out; omega
          case rel => exact ⟨i + 1, j, d, O5, by have := KN.out; omega, rfl, by go_num, rfl, D5, by have := JI.out; show _ ≤ _; omega, FU⟩
        have b8 : (o.w == 8) = false := by simpa using h8
        obtain ⟨f1, f2, f3⟩ := fused_do FU.out h7 h8
        have F1 := Lib.hid f1; have F2 := Lib.hid f2; have F3 := Lib.hid f3
        clear h7 h8 f1 f2 f3 FU
        go_wp2_with fail
        unfold opcells at TB D5k WA
        obtain ⟨bt, hbt⟩ : ∃ bt, bt = wr.heap.size := ⟨_, rfl⟩
        rw [← hbt] at TB ⊢
        generalize wr.alloc (.cells #[.int .i64 o.w, .int .i64 o.a, .int .u8 (bz o.c), .slice hb.a hb.n hb.c, .int .i64 o.n, .slice hq.a hq.n hq.c] 34) = w5 at TB D5k WA ⊢
        refine (dv_pend D5k.out).mono ?_
        rintro e w6 ⟨rfl, hb6⟩
        have D6 := Lib.hid (D5k.out.below hb6)
        have TB6 := (hb6.block bt (Array.getElem?_eq_some_iff.1 TB).1).trans TB
        have t0 : w6.cell? ⟨bt, 0, none⟩ = some (.int .i64 o.w) := by rw [Lib.cell_of_heap TB6]; rfl
        have t1 : w6.cell? ⟨bt, 1, none⟩ = some (.int .i64 o.a) := by rw [Lib.cell_of_heap TB6]; rfl
        have t2 : w6.cell? ⟨bt, 2, none⟩ = some (.int .u8 (bz o.c)) := by rw [Lib.cell_of_heap TB6]; rfl
        have t3 : w6.cell? ⟨bt, 3, none⟩ = some (.slice hb.a hb.n hb.c) := by rw [Lib.cell_of_heap TB6]; rfl
        have t4 : w6.cell? ⟨bt, 4, none⟩ = some (.int .i64 o.n) := by rw [Lib.cell_of_heap TB6]; rfl
        have t5 : w6.cell? ⟨bt, 5, none⟩ = some (.slice hq.a hq.n hq.c) := by rw [Lib.cell_of_heap TB6]; rfl
        have i3 : i ≤ 300 := by have := KN.out; omega
        have j3 : j ≤ 300 := by have := JI.out; omega
        obtain ⟨P, hP⟩ : ∃ P, P = d.p.length := ⟨_, rfl⟩
        rw [← hP]
        have HP := Lib.hid hP
        clear hb6 TB TB6 WA D5 D5k hbt hP c0 c1 c2 c3 c4 c5
        go_wp2_with fail
        refine (dv_do D6.out o hb hq (by decide) (by omega) HBH.out HQH.out OB.out).mono ?_
        rintro e w7 ⟨rfl, O7, hD, _, _⟩
        have D7 := Lib.hid hD
        clear hD D6 t0 t1 t2 t3 t4 t5
        obtain ⟨E, hE⟩ : ∃ E, E = (dkDo d o).2 := ⟨_, rfl⟩
        rw [← hE]
        rw [← hE] at F1
        clear hE
        by_cases dead : m ≤ j
        · obtain rfl : E = 42 := F1.out.2 dead
          have dd : decide ((m : Int) ≤ (j : Int)) = true := decide_eq_true (by omega)
          have dd' : decide (m ≤ j) = true := decide_eq_true dead
          have D8 := D7.out
          have e2 := F2.out dead
          have F4 := F3
          rw [e2] at D8 F4
          have D9 := Lib.hid D8
          clear dead D8 D7 e2 F2 F3
          go_wp2_with fail
          refine (dv_pend D9.out).mono ?_
          rintro e w8 ⟨rfl, hb8⟩
          rw [← HP.out]
          have D10 := Lib.hid (D9.out.below hb8)
          clear hb8 D9
          go_wp2_with fail
          go_roundg (n - (i + 1))
          case measure => have := HGG.out; have := KN.out; omega
          case rel => exact ⟨i + 1, j + 1, d, O7, by have := KN.out; omega, rfl, by go_num, by go_num, D10, by have := JI.out; show _ ≤ _; omega, F4⟩
        · have dd : decide ((m : Int) ≤ (j : Int)) = false := decide_eq_false (by omega)
          have dd' : decide (m ≤ j) = false := decide_eq_false dead
          have ne : (E == 42) = false := by
            rw [beq_eq_false_iff_ne]
            exact fun z => dead (F1.out.1 z)
          clear dead
          go_wp2_with fail
          go_roundg (n - (i + 1))
          case measure => have := HGG.out; have := KN.out; omega
          case rel => exact ⟨i + 1, j + 1, _, O7, by have := KN.out; omega, rfl, by go_num, by go_num, D7, by have := JI.out; show _ ≤ _; omega, F3⟩
      · obtain rfl : i = n := by omega
        go_wp2_with fail
        refine (dv_crash DK.out [] (-1) none 0 0 (by decide) (by omega) (Rg.nil _ _ _) rfl (fun z => by simp at z)).mono ?_
        rintro e w5 ⟨rfl, O6, hD, _, _⟩
        have D5 := Lib.hid hD
        clear hD DK
        go_wp2_with fail
        refine (dv_sync D5.out (by decide) (by decide)).mono ?_
        rintro e w6 ⟨rfl, O7, hD, _, _⟩
        have D6 := Lib.hid hD
        clear hD D5
        obtain ⟨E, hE⟩ : ∃ E, E = (dkSync (dkCrash d [] (-1))).2 := ⟨_, rfl⟩
        rw [← hE]
        obtain rfl : E = 0 := hE
        go_wp2_with fail
        go_ret
        exact ⟨rfl, D6.out.bl⟩

end Go.Proofs.Ytpdedeaejlkokaa
