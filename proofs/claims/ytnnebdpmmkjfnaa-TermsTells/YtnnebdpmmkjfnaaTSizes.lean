/-
  What sizes of the statements of layer 6 answers.
-/
import Derived.Test.YtnnebdpmmkjfnaaTHead
namespace Go.Proofs.Ytnnebdpmmkjfnaa
open Go.RowKit

/-- Is there such a layer of a right network? -/
def isB (N : Nt) (i : Int) : Bool := decide (errN N = 0 ∧ 0 ≤ i ∧ i < (N.ls.length : Int))
theorem isB_yes {N : Nt} {i : Int} (h : errN N = 0 ∧ 0 ≤ i ∧ i < (N.ls.length : Int)) : isB N i = true := decide_eq_true h
theorem isB_out {N : Nt} {i : Int} (h : isB N i = true) : errN N = 0 ∧ 0 ≤ i ∧ i < (N.ls.length : Int) := of_decide_eq_true h
theorem isB_no {N : Nt} {i : Int} (h : ¬ (errN N = 0 ∧ 0 ≤ i ∧ i < (N.ls.length : Int))) : isB N i = false := decide_eq_false h
theorem isB_z {c h x : Int} {ls : List Ly} {i : Int} (e : isB ⟨c, h, x, ls⟩ i = false) : atN ⟨c, h, x, ls⟩ i = Kn.z := by
  by_cases hE : errN ⟨c, h, x, ls⟩ = 0
  · exact at_far fun hi => by rw [isB_yes ⟨hE, hi⟩] at e; cases e
  · exact at_none hE i
theorem kz_i : Kn.z.i.n = 0 := by decide
theorem kz_u : Kn.z.u.n = 0 := by decide

set_option maxHeartbeats 2000000 in
set_option maxRecDepth 100000 in
theorem sizes_any (c h x : Int) (A : Option Addr) (cA n : Nat) (ls : List Ly) (i : Int) (w : World) (hx : Rl w A ls) (ln : n = ls.length) (hn : n ≤ 1000) :
    Calls Try.prog 36 #[.agg #[.int .i64 c, .int .i64 h, .int .i64 x, .slice A n cA], .int .i64 i] w fun e w' => e = .returned (.tuple #[.int .i64 (atN ⟨c, h, x, ls⟩ i).i.n, .int .i64 (atN ⟨c, h, x, ls⟩ i).u.n, .bool (isB ⟨c, h, x, ls⟩ i)]) ∧ Below w.heap.size w w' := by
  have HX := Lib.hid hx; have LX := Lib.hid ln
  clear hx ln
  obtain ⟨er, her⟩ : ∃ er, er = errN ⟨c, h, x, ls⟩ := ⟨_, rfl⟩
  have HER := Lib.hid her
  clear her
  go_enter Try.func36, Try.ntmps36
  go_wp2_with fail
  refine (rshapes_any c h x A cA n ls _ (HX.out.below ((Below.refl _ w).alloc (Nat.le_refl _) _)) LX.out hn).mono ?_
  rintro e w1 ⟨A1, k1, n1, rfl, hn1, hR, hb, hd1, hd2⟩
  have B1 := Lib.hid (chain ((Below.refl w.heap.size w).alloc (Nat.le_refl _) _) hb)
  have N1 := Lib.hid ((NB.new w c h x (.slice A n cA)).below hb)
  obtain ⟨c0, c1, c2, c3⟩ := N1.out.cells
  clear hb hd1 hd2
  rw [← HER.out]
  by_cases h0 : ¬ er = 0
  · have b0 : (er != 0) = true := by simpa using h0
    have HI : Hid (isB ⟨c, h, x, ls⟩ i = false) := isB_no (by rw [← HER.out]; exact fun h => h0 h.1)
    clear h0 hn1 hR
    go_wp2_with fail
    refine bodyPost_ret (v := .tuple #[.int .i64 0, .int .i64 0, .bool false]) (by simp [results, Try.results36, go_sem]) rfl ⟨?_, B1.out⟩
    rw [HI.out, isB_z HI.out, kz_i, kz_u]
  have h0 : er = 0 := by omega
  subst h0
  by_cases i0 : i < 0
  · have d0 : decide (i < 0) = true := decide_eq_true i0
    have HI : Hid (isB ⟨c, h, x, ls⟩ i = false) := isB_no (by omega)
    clear hn1 hR
    go_wp2_with fail
    refine bodyPost_ret (v := .tuple #[.int .i64 0, .int .i64 0, .bool false]) (by simp [results, Try.results36, go_sem]) rfl ⟨?_, B1.out⟩
    rw [HI.out, isB_z HI.out, kz_i, kz_u]
  have d0 : decide (i < 0) = false := decide_eq_false i0
  by_cases i1 : (n : Int) ≤ i
  · have d1 : decide ((n : Int) ≤ i) = true := decide_eq_true i1
    have HI : Hid (isB ⟨c, h, x, ls⟩ i = false) := isB_no (by show ¬ (_ ∧ _ ∧ i < (ls.length : Int)); rw [← LX.out]; omega)
    clear hn1 hR
    go_wp2_with fail
    refine bodyPost_ret (v := .tuple #[.int .i64 0, .int .i64 0, .bool false]) (by simp [results, Try.results36, go_sem]) rfl ⟨?_, B1.out⟩
    rw [HI.out, isB_z HI.out, kz_i, kz_u]
  have d1 : decide ((n : Int) ≤ i) = false := decide_eq_false i1
  obtain ⟨j, rfl⟩ : ∃ j : Nat, i = j := ⟨i.toNat, by omega⟩
  have jn : j < n := by omega
  have d2 : decide (n ≤ j) = false := by simp; omega
  have he := HER.out.symm
  have HI : Hid (isB ⟨c, h, x, ls⟩ (j : Int) = true) := isB_yes ⟨he, by omega, by show (j : Int) < (ls.length : Int); rw [← LX.out]; omega⟩
  rw [shN_ok he] at hR hn1
  rw [sh_len, ← LX.out] at hn1
  obtain ⟨bS, oS, rfl, hlS, hcS⟩ := hR (by rw [sh_len]; omega)
  have hjl : j < ls.length := by rw [← LX.out]; exact jn
  have hl := get_ly hjl
  obtain ⟨K, hK⟩ : ∃ K, K = atN ⟨c, h, x, ls⟩ (j : Int) := ⟨_, rfl⟩
  have hKe := hK.trans (at_some he hl)
  have g1 := sh_get ls ⟨c, h, x⟩ j (by omega)
  rw [show endS ⟨c, h, x⟩ (ls.take j) = K.i by rw [hKe]] at g1
  have g2 := sh_get ls ⟨c, h, x⟩ (j + 1) (by omega)
  rw [show endS ⟨c, h, x⟩ (ls.take (j + 1)) = K.u by rw [hKe, end_next hl]] at g2
  obtain ⟨a0, a1, a2⟩ := sh_at hcS g1
  obtain ⟨a3, a4, a5⟩ := sh_at hcS g2
  obtain ⟨m, hm⟩ : ∃ m, m = j + 1 := ⟨_, rfl⟩
  rw [← hm] at a3 a4 a5
  have ja : (0 : Int) ≤ (j : Int) := by omega
  have jb : (j : Int) < (n1 : Int) := by omega
  have ma : (0 : Int) ≤ (m : Int) := by omega
  have mb : (m : Int) < (n1 : Int) := by omega
  have jb' : j < n1 := by omega
  have mb' : m < n1 := by omega
  have v1 : IntKind.i64.wrap ((j : Int) + 1) = (m : Int) := next_i64 hm (Nat.lt_succ_self j) (by omega)
  have v2 : wrap64 ((j : Int) + 1) = (m : Int) := next_wrap hm (Nat.lt_succ_self j) (by omega)
  have HC0 : Hid (Below w1.heap.size w1 w1.drew) := below_drew w1
  have HK := Lib.hid hK
  clear hK hKe g1 g2 hcS hl he hn1 hm c0 c1 c2
  go_wp2_with fail
  have tok1 : True := trivial
  go_region_held3 (fun w' => w'.cell? ⟨bS, oS + j * 3, none⟩ = some (.int .i64 K.i.c) ∧ w'.cell? ⟨bS, oS + j * 3 + 1, none⟩ = some (.int .i64 K.i.h) ∧ w'.cell? ⟨bS, oS + j * 3 + 2, none⟩ = some (.int .i64 K.i.x) ∧ w'.cell? ⟨bS, oS + m * 3, none⟩ = some (.int .i64 K.u.c) ∧ w'.cell? ⟨bS, oS + m * 3 + 1, none⟩ = some (.int .i64 K.u.h) ∧ w'.cell? ⟨bS, oS + m * 3 + 2, none⟩ = some (.int .i64 K.u.x))
    (first | exact ⟨q0, q1, q2, q3, q4, q5⟩ | go_keep)
    (first
      | ((have _t := tok1; clear tok1; go_at_call 26; (with_reducible refine (rsize_any K.i.c K.i.h K.i.x _).mono ?_); rintro e w2 ⟨rfl, hb2⟩
          have HC1 := Lib.hid (HC0.out.trans (hb2.mono HC0.out.size))
          have q0 := (HC1.out.cell (p := ⟨bS, oS + j * 3, none⟩) hlS).trans a0
          have q1 := (HC1.out.cell (p := ⟨bS, oS + j * 3 + 1, none⟩) hlS).trans a1
          have q2 := (HC1.out.cell (p := ⟨bS, oS + j * 3 + 2, none⟩) hlS).trans a2
          have q3 := (HC1.out.cell (p := ⟨bS, oS + m * 3, none⟩) hlS).trans a3
          have q4 := (HC1.out.cell (p := ⟨bS, oS + m * 3 + 1, none⟩) hlS).trans a4
          have q5 := (HC1.out.cell (p := ⟨bS, oS + m * 3 + 2, none⟩) hlS).trans a5
          have tok2 : True := trivial
          clear hb2))
      | ((have _t := tok2; clear tok2; go_at_call 26; (with_reducible refine (rsize_any K.u.c K.u.h K.u.x _).mono ?_); rintro e w3 ⟨rfl, hb3⟩
          have HC2 := Lib.hid (HC1.out.trans (hb3.mono HC1.out.size))
          clear q0 q1 q2 q3 q4 q5
          have q0 := (HC2.out.cell (p := ⟨bS, oS + j * 3, none⟩) hlS).trans a0
          have q1 := (HC2.out.cell (p := ⟨bS, oS + j * 3 + 1, none⟩) hlS).trans a1
          have q2 := (HC2.out.cell (p := ⟨bS, oS + j * 3 + 2, none⟩) hlS).trans a2
          have q3 := (HC2.out.cell (p := ⟨bS, oS + m * 3, none⟩) hlS).trans a3
          have q4 := (HC2.out.cell (p := ⟨bS, oS + m * 3 + 1, none⟩) hlS).trans a4
          have q5 := (HC2.out.cell (p := ⟨bS, oS + m * 3 + 2, none⟩) hlS).trans a5
          clear hb3))
      | fail)
  go_wp2_with fail
  refine bodyPost_ret (v := .tuple #[.int .i64 K.i.n, .int .i64 K.u.n, .bool true]) (by simp [results, Try.results36, go_sem, Sh.n]) rfl ⟨?_, chain B1.out HC2.out⟩
  rw [HI.out, ← HK.out]

end Go.Proofs.Ytnnebdpmmkjfnaa
