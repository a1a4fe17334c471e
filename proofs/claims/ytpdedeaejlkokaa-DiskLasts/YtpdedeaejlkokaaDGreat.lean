/-
  When a script is too much, for the laws of layer 15.
-/
import Derived.Test.YtpdedeaejlkokaaDOps2
namespace Go.Proofs.Ytpdedeaejlkokaa
open Go.RowKit

def fitsO (os : List Dop) : Prop := os.length ≤ 300 ∧ ∀ o ∈ os, o.b.length < 9000 ∧ o.k.length < 9000
/-- What has been counted of the first k calls. -/
def Cnt (os : List Dop) (k N : Nat) : Prop := os.length ≤ N ∧ ∀ (j : Nat) (o : Dop), j < k → os[j]? = some o → min o.b.length 9000 ≤ N ∧ min o.k.length 9000 ≤ N
theorem cnt_next {os : List Dop} {k N : Nat} {o : Dop} (h : Cnt os k N) (hk : os[k]? = some o) : Cnt os (k + 1) (N + min o.b.length 9000 + min o.k.length 9000) := by
  refine ⟨by have := h.1; omega, fun j o' hj ho => ?_⟩
  by_cases e : j = k
  · subst e
    rw [hk] at ho
    obtain rfl := Option.some.inj ho
    omega
  · have := h.2 j o' (by omega) ho
    omega
theorem cnt_end {os : List Dop} {N : Nat} (h : Cnt os os.length N) (hN : N < 9000) (hl : os.length ≤ 300) : fitsO os := by
  refine ⟨hl, fun o ho => ?_⟩
  obtain ⟨j, hj, e⟩ := List.mem_iff_getElem.1 ho
  have := h.2 j o hj (by rw [List.getElem?_eq_getElem hj, e])
  omega

set_option maxHeartbeats 8000000 in
set_option maxRecDepth 100000 in
theorem great15 (A : Option Addr) (n c : Nat) (os : List Dop) (w : World) (H : OpR w A os) (ln : n = os.length) :
    Calls Try.prog 11 #[.slice A n c] w fun e w' => ∃ b, e = .returned (.bool b) ∧ (b = false → fitsO os) ∧ Below w.heap.size w w' := by
  have HH := Lib.hid H; have LN := Lib.hid ln
  have C0 : Hid (Cnt os 0 n) := ⟨by omega, fun j o hj => by omega⟩
  clear H ln
  go_enter Try.func11, Try.ntmps11
  go_wp2_with fail
  go_loopg [3, 4] n (fun gh s3 s4 wx => ∃ k N : Nat, k ≤ n ∧ Hid (gh = n - k) ∧ s3 = .int .i64 (N : Int) ∧ s4 = .int .i64 (k : Int) ∧ Hid (Cnt os k N) ∧ Hid (Below w.heap.size w wx))
  case atStart => exact ⟨0, n, by omega, by show _ = _; omega, rfl, rfl, C0, Below.refl _ _⟩
  case round =>
    obtain ⟨k, N, hk, HG, rfl, rfl, CK, BK⟩ := hrel
    by_cases hg : k < n ∧ N < 9000
    · obtain ⟨kn, N9⟩ := hg
      have ki : (k : Int) < (n : Int) := by omega
      have n9 : n ≤ 9000 := by have := CK.out.1; have := LN.out; omega
      have k0 : (0 : Int) ≤ (k : Int) := by omega
      have dk : decide ((k : Int) < (n : Int)) = true := decide_eq_true ki
      have dn : decide ((N : Int) < 9000) = true := decide_eq_true (by omega)
      have dn2 : (N : Int) < 9000 := by omega
      obtain ⟨o, ho⟩ : ∃ o, os[k]? = some o := ⟨_, List.getElem?_eq_getElem (by rw [← LN.out]; exact kn)⟩
      obtain ⟨b, off, hb, hq, rfl, lb, z0, z1, z2, z3, z4, z5, h1, h2⟩ := HH.out.at ho
      have CN := Lib.hid (cnt_next CK.out ho)
      have x3 := (BK.out.cell (p := ⟨b, off + k * 6 + 3, none⟩) lb).trans z3
      have x5 := (BK.out.cell (p := ⟨b, off + k * 6 + 5, none⟩) lb).trans z5
      have l3 := Nat.lt_of_lt_of_le lb BK.out.size
      have l5 := l3
      obtain ⟨ba, bn, bc⟩ := hb
      obtain ⟨qa, qn, qc⟩ := hq
      have e1 : bn = o.b.length := h1.1
      have e2 : qn = o.k.length := h2.1
      dsimp only at x3 x5
      rw [← e1, ← e2] at CN
      clear z0 z1 z2 z3 z4 z5 h1 h2 lb e1 e2 ho
      by_cases c1 : 9000 < bn
      · by_cases c2 : 9000 < qn
        · skip
          have p1 : decide ((9000 : Int) < (bn : Int)) = true := decide_eq_true (by omega)
          have p2 : decide ((bn : Int) > 9000) = true := decide_eq_true (by omega)
          have p3 : decide (9000 < bn) = true := decide_eq_true (by omega)
          have q1 : decide ((9000 : Int) < (qn : Int)) = true := decide_eq_true (by omega)
          have q2 : decide ((qn : Int) > 9000) = true := decide_eq_true (by omega)
          have q3 : decide (9000 < qn) = true := decide_eq_true (by omega)
          obtain ⟨M, hM⟩ : ∃ M, M = N + min bn 9000 + min qn 9000 := ⟨_, rfl⟩
          obtain ⟨M1, hM1⟩ : ∃ M1, M1 = N + min bn 9000 := ⟨_, rfl⟩
          rw [← hM] at CN
          have V1 : Hid (IntKind.i64.wrap ((N : Int) + 9000) = (M1 : Int)) := by show _ = _; rw [IntWalk.i64_in _ (by omega)]; omega
          have V2 : Hid (wrap64 ((N : Int) + 9000) = (M1 : Int)) := by show _ = _; rw [IntWalk.wrap64_in _ (by omega)]; omega
          have V3 : Hid (IntKind.i64.wrap ((M1 : Int) + 9000) = (M : Int)) := by show _ = _; rw [IntWalk.i64_in _ (by omega)]; omega
          have V4 : Hid (wrap64 ((M1 : Int) + 9000) = (M : Int)) := by show _ = _; rw [IntWalk.wrap64_in _ (by omega)]; omega
          clear hM hM1 N9
          have v1 := V1.out; have v2 := V2.out; have v3 := V3.out; have v4 := V4.out
          go_wp2_with fail
          refine wp_region_noPanic ?_
          refine wp_region_held_drew (S := fun w' => w'.cell? ⟨b, off + k * 6 + 3, none⟩ = some (.slice ba bn bc) ∧ w'.cell? ⟨b, off + k * 6 + 5, none⟩ = some (.slice qa qn qc)) (by kernel_rfl) ⟨x3, x5⟩ (fun hHeld => ?_)
          have hd := below_drew wr
          replace x3 := (hd.cell (p := ⟨b, off + k * 6 + 3, none⟩) l3).trans x3
          replace l3 := Nat.lt_of_lt_of_le l3 hd.size
          replace x5 := (hd.cell (p := ⟨b, off + k * 6 + 5, none⟩) l5).trans x5
          replace l5 := Nat.lt_of_lt_of_le l5 hd.size
          generalize wr.drew = wq1 at hHeld hd x3 l3 x5 l5 ⊢
          have BD : Hid (Below wq1.heap.size wq1 wq1) := Below.refl _ _
          refine wpAnyH_take (i := 0) (v := ?vv3001) (by simp only [List.getElem?_toArray, List.getElem?_cons_zero]; rfl) (by kernel_rfl) (by kernel_rfl) (by kernel_rfl) (fun _ _ _ h => h) (Or.inl ⟨by rfl, ?yy3001⟩) (by assumption) ?rr3001
          case yy3001 => (intro w hSw; (try dsimp only at hSw); go_simp; first | done | with_reducible rfl)
          simp only [Act.put, List.setIfInBounds_toArray, List.set_cons_zero, List.set_cons_succ]
          refine wpAnyH_take (i := 1) (v := ?vv3002) (by simp only [List.getElem?_toArray, List.getElem?_cons_zero, List.getElem?_cons_succ]; rfl) (by kernel_rfl) (by kernel_rfl) (by kernel_rfl) (fun _ _ _ h => h) (Or.inl ⟨by rfl, ?yy3002⟩) (by assumption) ?rr3002
          case yy3002 => (intro w hSw; (try dsimp only at hSw); go_simp; first | done | with_reducible rfl)
          simp only [Act.put, List.setIfInBounds_toArray, List.set_cons_zero, List.set_cons_succ]
          refine wpAnyH_take (i := 2) (v := ?vv3003) (by simp only [List.getElem?_toArray, List.getElem?_cons_zero, List.getElem?_cons_succ]; rfl) (by kernel_rfl) (by kernel_rfl) (by kernel_rfl) (fun _ _ _ h => h) (Or.inl ⟨by rfl, ?yy3003⟩) (by assumption) ?rr3003
          case yy3003 => (intro w hSw; (try dsimp only at hSw); go_simp; first | done | with_reducible rfl)
          simp only [Act.put, List.setIfInBounds_toArray, List.set_cons_zero, List.set_cons_succ]
          refine wpAnyH_take (i := 3) (v := ?vv3004) (by simp only [List.getElem?_toArray, List.getElem?_cons_zero, List.getElem?_cons_succ]; rfl) (by kernel_rfl) (by kernel_rfl) (by kernel_rfl) (fun _ _ _ h => h) (Or.inl ⟨by rfl, ?yy3004⟩) (by assumption) ?rr3004
          case yy3004 => (intro w hSw; (try dsimp only at hSw); go_simp; first | done | with_reducible rfl)
          simp only [Act.put, List.setIfInBounds_toArray, List.set_cons_zero, List.set_cons_succ]
          refine wpAnyH_take (i := 4) (v := ?vv3005) (by simp only [List.getElem?_toArray, List.getElem?_cons_zero, List.getElem?_cons_succ]; rfl) (by kernel_rfl) (by kernel_rfl) (by kernel_rfl) (fun _ _ _ h => h) (Or.inl ⟨by rfl, ?yy3005⟩) (by assumption) ?rr3005
          case yy3005 => (intro w hSw; (try dsimp only at hSw); go_simp; first | done | with_reducible rfl)
          simp only [Act.put, List.setIfInBounds_toArray, List.set_cons_zero, List.set_cons_succ]
          refine wpAnyH_take (i := 5) (v := ?vv3006) (by simp only [List.getElem?_toArray, List.getElem?_cons_zero, List.getElem?_cons_succ]; rfl) (by kernel_rfl) (by kernel_rfl) (by kernel_rfl) (fun _ _ _ h => h) (Or.inl ⟨by rfl, ?yy3006⟩) (by assumption) ?rr3006
          case yy3006 => (intro w hSw; (try dsimp only at hSw); go_simp; first | done | with_reducible rfl)
          simp only [Act.put, List.setIfInBounds_toArray, List.set_cons_zero, List.set_cons_succ]
          refine wpAnyH_take (i := 6) (v := ?vv3007) (by simp only [List.getElem?_toArray, List.getElem?_cons_zero, List.getElem?_cons_succ]; rfl) (by kernel_rfl) (by kernel_rfl) (by kernel_rfl) (fun _ _ _ h => h) (Or.inl ⟨by rfl, ?yy3007⟩) (by assumption) ?rr3007
          case yy3007 => (intro w hSw; (try dsimp only at hSw); go_simp; first | done | with_reducible rfl)
          simp only [Act.put, List.setIfInBounds_toArray, List.set_cons_zero, List.set_cons_succ]
          refine wpAnyH_take (i := 7) (v := ?vv3008) (by simp only [List.getElem?_toArray, List.getElem?_cons_zero, List.getElem?_cons_succ]; rfl) (by kernel_rfl) (by kernel_rfl) (by kernel_rfl) (fun _ _ _ h => h) (Or.inl ⟨by rfl, ?yy3008⟩) (by assumption) ?rr3008
          case yy3008 => (intro w hSw; (try dsimp only at hSw); go_simp; first | done | with_reducible rfl)
          simp only [Act.put, List.setIfInBounds_toArray, List.set_cons_zero, List.set_cons_succ]
          refine wpAnyH_take (i := 8) (v := ?vv3009) (by simp only [List.getElem?_toArray, List.getElem?_cons_zero, List.getElem?_cons_succ]; rfl) (by kernel_rfl) (by kernel_rfl) (by kernel_rfl) (fun _ _ _ h => h) (Or.inl ⟨by rfl, ?yy3009⟩) (by assumption) ?rr3009
          case yy3009 => (intro w hSw; (try dsimp only at hSw); go_simp; first | done | with_reducible rfl)
          simp only [Act.put, List.setIfInBounds_toArray, List.set_cons_zero, List.set_cons_succ]
          refine wpAnyH_take (i := 9) (v := ?vv3010) (by simp only [List.getElem?_toArray, List.getElem?_cons_zero, List.getElem?_cons_succ]; rfl) (by kernel_rfl) (by kernel_rfl) (by kernel_rfl) (fun _ _ _ h => h) (Or.inl ⟨by rfl, ?yy3010⟩) (by assumption) ?rr3010
          case yy3010 => (intro w hSw; (try dsimp only at hSw); go_simp; first | done | with_reducible rfl)
          simp only [Act.put, List.setIfInBounds_toArray, List.set_cons_zero, List.set_cons_succ]
          refine wpAnyH_take (i := 10) (v := ?vv3011) (by simp only [List.getElem?_toArray, List.getElem?_cons_zero, List.getElem?_cons_succ]; rfl) (by kernel_rfl) (by kernel_rfl) (by kernel_rfl) (fun _ _ _ h => h) (Or.inl ⟨by rfl, ?yy3011⟩) (by assumption) ?rr3011
          case yy3011 => (intro w hSw; (try dsimp only at hSw); go_simp; first | done | with_reducible rfl)
          simp only [Act.put, List.setIfInBounds_toArray, List.set_cons_zero, List.set_cons_succ]
          refine wpAnyH_take (i := 11) (v := ?vv3012) (by simp only [List.getElem?_toArray, List.getElem?_cons_zero, List.getElem?_cons_succ]; rfl) (by kernel_rfl) (by kernel_rfl) (by kernel_rfl) (fun _ _ _ h => h) (Or.inl ⟨by rfl, ?yy3012⟩) (by assumption) ?rr3012
          case yy3012 => (intro w hSw; (try dsimp only at hSw); go_simp; first | done | with_reducible rfl)
          simp only [Act.put, List.setIfInBounds_toArray, List.set_cons_zero, List.set_cons_succ]
          refine wpAnyH_take (i := 12) (v := ?vv3013) (by simp only [List.getElem?_toArray, List.getElem?_cons_zero, List.getElem?_cons_succ]; rfl) (by kernel_rfl) (by kernel_rfl) (by kernel_rfl) (fun _ _ _ h => h) (Or.inl ⟨by rfl, ?yy3013⟩) (by assumption) ?rr3013
          case yy3013 => (intro w hSw; (try dsimp only at hSw); go_simp; first | done | with_reducible rfl)
          simp only [Act.put, List.setIfInBounds_toArray, List.set_cons_zero, List.set_cons_succ]
          refine wpAnyH_take (i := 13) (v := ?vv3014) (by simp only [List.getElem?_toArray, List.getElem?_cons_zero, List.getElem?_cons_succ]; rfl) (by kernel_rfl) (by kernel_rfl) (by kernel_rfl) (fun _ _ _ h => h) (Or.inl ⟨by rfl, ?yy3014⟩) (by assumption) ?rr3014
          case yy3014 => (intro w hSw; (try dsimp only at hSw); go_simp; first | done | with_reducible rfl)
          simp only [Act.put, List.setIfInBounds_toArray, List.set_cons_zero, List.set_cons_succ]
          refine wpAnyH_take (i := 14) (v := ?vv3015) (by simp only [List.getElem?_toArray, List.getElem?_cons_zero, List.getElem?_cons_succ]; rfl) (by kernel_rfl) (by kernel_rfl) (by kernel_rfl) (fun _ _ _ h => h) (Or.inl ⟨by rfl, ?yy3015⟩) (by assumption) ?rr3015
          case yy3015 => (intro w hSw; (try dsimp only at hSw); go_simp; first | done | with_reducible rfl)
          simp only [Act.put, List.setIfInBounds_toArray, List.set_cons_zero, List.set_cons_succ]
          refine wpAnyH_take (i := 15) (v := ?vv3016) (by simp only [List.getElem?_toArray, List.getElem?_cons_zero, List.getElem?_cons_succ]; rfl) (by kernel_rfl) (by kernel_rfl) (by kernel_rfl) (fun _ _ _ h => h) (Or.inl ⟨by rfl, ?yy3016⟩) (by assumption) ?rr3016
          case yy3016 => (intro w hSw; (try dsimp only at hSw); go_simp; first | done | with_reducible rfl)
          simp only [Act.put, List.setIfInBounds_toArray, List.set_cons_zero, List.set_cons_succ]
          refine wpAnyH_take (i := 16) (v := ?vv3017) (by simp only [List.getElem?_toArray, List.getElem?_cons_zero, List.getElem?_cons_succ]; rfl) (by kernel_rfl) (by kernel_rfl) (by kernel_rfl) (fun _ _ _ h => h) (Or.inl ⟨by rfl, ?yy3017⟩) (by assumption) ?rr3017
          case yy3017 => (intro w hSw; (try dsimp only at hSw); go_simp; first | done | with_reducible rfl)
          simp only [Act.put, List.setIfInBounds_toArray, List.set_cons_zero, List.set_cons_succ]
          refine wpAnyH_take (i := 17) (v := ?vv3018) (by simp only [List.getElem?_toArray, List.getElem?_cons_zero, List.getElem?_cons_succ]; rfl) (by kernel_rfl) (by kernel_rfl) (by kernel_rfl) (fun _ _ _ h => h) (Or.inl ⟨by rfl, ?yy3018⟩) (by assumption) ?rr3018
          case yy3018 => (intro w hSw; (try dsimp only at hSw); go_simp; first | done | with_reducible rfl)
          simp only [Act.put, List.setIfInBounds_toArray, List.set_cons_zero, List.set_cons_succ]
          refine wpAnyH_done (by kernel_rfl) ?_ _
          refine NoPanic.normal ?_
          clear hHeld
          have BN := Lib.hid (chain BK.out hd)
          clear hd BD x3 x5 v1 v2 v3 v4
          go_wp2_with fail
          go_roundg (n - (k + 1))
          case measure => have := HG.out; omega
          case rel => exact ⟨k + 1, M, by omega, rfl, by first | rfl | rw [V1.out, V3.out], by go_num, CN, BN⟩
        · skip
          have p1 : decide ((9000 : Int) < (bn : Int)) = true := decide_eq_true (by omega)
          have p2 : decide ((bn : Int) > 9000) = true := decide_eq_true (by omega)
          have p3 : decide (9000 < bn) = true := decide_eq_true (by omega)
          have q1 : decide ((9000 : Int) < (qn : Int)) = false := decide_eq_false (by omega)
          have q2 : decide ((qn : Int) > 9000) = false := decide_eq_false (by omega)
          have q3 : decide (9000 < qn) = false := decide_eq_false (by omega)
          obtain ⟨M, hM⟩ : ∃ M, M = N + min bn 9000 + min qn 9000 := ⟨_, rfl⟩
          obtain ⟨M1, hM1⟩ : ∃ M1, M1 = N + min bn 9000 := ⟨_, rfl⟩
          rw [← hM] at CN
          have V1 : Hid (IntKind.i64.wrap ((N : Int) + 9000) = (M1 : Int)) := by show _ = _; rw [IntWalk.i64_in _ (by omega)]; omega
          have V2 : Hid (wrap64 ((N : Int) + 9000) = (M1 : Int)) := by show _ = _; rw [IntWalk.wrap64_in _ (by omega)]; omega
          have V3 : Hid (IntKind.i64.wrap ((M1 : Int) + (qn : Int)) = (M : Int)) := by show _ = _; rw [IntWalk.i64_in _ (by omega)]; omega
          have V4 : Hid (wrap64 ((M1 : Int) + (qn : Int)) = (M : Int)) := by show _ = _; rw [IntWalk.wrap64_in _ (by omega)]; omega
          clear hM hM1 N9
          have v1 := V1.out; have v2 := V2.out; have v3 := V3.out; have v4 := V4.out
          go_wp2_with fail
          refine wp_region_noPanic ?_
          refine wp_region_held_drew (S := fun w' => w'.cell? ⟨b, off + k * 6 + 3, none⟩ = some (.slice ba bn bc) ∧ w'.cell? ⟨b, off + k * 6 + 5, none⟩ = some (.slice qa qn qc)) (by kernel_rfl) ⟨x3, x5⟩ (fun hHeld => ?_)
          have hd := below_drew wr
          replace x3 := (hd.cell (p := ⟨b, off + k * 6 + 3, none⟩) l3).trans x3
          replace l3 := Nat.lt_of_lt_of_le l3 hd.size
          replace x5 := (hd.cell (p := ⟨b, off + k * 6 + 5, none⟩) l5).trans x5
          replace l5 := Nat.lt_of_lt_of_le l5 hd.size
          generalize wr.drew = wq1 at hHeld hd x3 l3 x5 l5 ⊢
          have BD : Hid (Below wq1.heap.size wq1 wq1) := Below.refl _ _
          refine wpAnyH_take (i := 0) (v := ?vv4001) (by simp only [List.getElem?_toArray, List.getElem?_cons_zero]; rfl) (by kernel_rfl) (by kernel_rfl) (by kernel_rfl) (fun _ _ _ h => h) (Or.inl ⟨by rfl, ?yy4001⟩) (by assumption) ?rr4001
          case yy4001 => (intro w hSw; (try dsimp only at hSw); go_simp; first | done | with_reducible rfl)
          simp only [Act.put, List.setIfInBounds_toArray, List.set_cons_zero, List.set_cons_succ]
          refine wpAnyH_take (i := 1) (v := ?vv4002) (by simp only [List.getElem?_toArray, List.getElem?_cons_zero, List.getElem?_cons_succ]; rfl) (by kernel_rfl) (by kernel_rfl) (by kernel_rfl) (fun _ _ _ h => h) (Or.inl ⟨by rfl, ?yy4002⟩) (by assumption) ?rr4002
          case yy4002 => (intro w hSw; (try dsimp only at hSw); go_simp; first | done | with_reducible rfl)
          simp only [Act.put, List.setIfInBounds_toArray, List.set_cons_zero, List.set_cons_succ]
          refine wpAnyH_take (i := 2) (v := ?vv4003) (by simp only [List.getElem?_toArray, List.getElem?_cons_zero, List.getElem?_cons_succ]; rfl) (by kernel_rfl) (by kernel_rfl) (by kernel_rfl) (fun _ _ _ h => h) (Or.inl ⟨by rfl, ?yy4003⟩) (by assumption) ?rr4003
          case yy4003 => (intro w hSw; (try dsimp only at hSw); go_simp; first | done | with_reducible rfl)
          simp only [Act.put, List.setIfInBounds_toArray, List.set_cons_zero, List.set_cons_succ]
          refine wpAnyH_take (i := 3) (v := ?vv4004) (by simp only [List.getElem?_toArray, List.getElem?_cons_zero, List.getElem?_cons_succ]; rfl) (by kernel_rfl) (by kernel_rfl) (by kernel_rfl) (fun _ _ _ h => h) (Or.inl ⟨by rfl, ?yy4004⟩) (by assumption) ?rr4004
          case yy4004 => (intro w hSw; (try dsimp only at hSw); go_simp; first | done | with_reducible rfl)
          simp only [Act.put, List.setIfInBounds_toArray, List.set_cons_zero, List.set_cons_succ]
          refine wpAnyH_take (i := 4) (v := ?vv4005) (by simp only [List.getElem?_toArray, List.getElem?_cons_zero, List.getElem?_cons_succ]; rfl) (by kernel_rfl) (by kernel_rfl) (by kernel_rfl) (fun _ _ _ h => h) (Or.inl ⟨by rfl, ?yy4005⟩) (by assumption) ?rr4005
          case yy4005 => (intro w hSw; (try dsimp only at hSw); go_simp; first | done | with_reducible rfl)
          simp only [Act.put, List.setIfInBounds_toArray, List.set_cons_zero, List.set_cons_succ]
          refine wpAnyH_take (i := 5) (v := ?vv4006) (by simp only [List.getElem?_toArray, List.getElem?_cons_zero, List.getElem?_cons_succ]; rfl) (by kernel_rfl) (by kernel_rfl) (by kernel_rfl) (fun _ _ _ h => h) (Or.inl ⟨by rfl, ?yy4006⟩) (by assumption) ?rr4006
          case yy4006 => (intro w hSw; (try dsimp only at hSw); go_simp; first | done | with_reducible rfl)
          simp only [Act.put, List.setIfInBounds_toArray, List.set_cons_zero, List.set_cons_succ]
          refine wpAnyH_take (i := 6) (v := ?vv4007) (by simp only [List.getElem?_toArray, List.getElem?_cons_zero, List.getElem?_cons_succ]; rfl) (by kernel_rfl) (by kernel_rfl) (by kernel_rfl) (fun _ _ _ h => h) (Or.inl ⟨by rfl, ?yy4007⟩) (by assumption) ?rr4007
          case yy4007 => (intro w hSw; (try dsimp only at hSw); go_simp; first | done | with_reducible rfl)
          simp only [Act.put, List.setIfInBounds_toArray, List.set_cons_zero, List.set_cons_succ]
          refine wpAnyH_take (i := 7) (v := ?vv4008) (by simp only [List.getElem?_toArray, List.getElem?_cons_zero, List.getElem?_cons_succ]; rfl) (by kernel_rfl) (by kernel_rfl) (by kernel_rfl) (fun _ _ _ h => h) (Or.inl ⟨by rfl, ?yy4008⟩) (by assumption) ?rr4008
          case yy4008 => (intro w hSw; (try dsimp only at hSw); go_simp; first | done | with_reducible rfl)
          simp only [Act.put, List.setIfInBounds_toArray, List.set_cons_zero, List.set_cons_succ]
          refine wpAnyH_take (i := 8) (v := ?vv4009) (by simp only [List.getElem?_toArray, List.getElem?_cons_zero, List.getElem?_cons_succ]; rfl) (by kernel_rfl) (by kernel_rfl) (by kernel_rfl) (fun _ _ _ h => h) (Or.inl ⟨by rfl, ?yy4009⟩) (by assumption) ?rr4009
          case yy4009 => (intro w hSw; (try dsimp only at hSw); go_simp; first | done | with_reducible rfl)
          simp only [Act.put, List.setIfInBounds_toArray, List.set_cons_zero, List.set_cons_succ]
          refine wpAnyH_take (i := 9) (v := ?vv4010) (by simp only [List.getElem?_toArray, List.getElem?_cons_zero, List.getElem?_cons_succ]; rfl) (by kernel_rfl) (by kernel_rfl) (by kernel_rfl) (fun _ _ _ h => h) (Or.inl ⟨by rfl, ?yy4010⟩) (by assumption) ?rr4010
          case yy4010 => (intro w hSw; (try dsimp only at hSw); go_simp; first | done | with_reducible rfl)
          simp only [Act.put, List.setIfInBounds_toArray, List.set_cons_zero, List.set_cons_succ]
          refine wpAnyH_take (i := 10) (v := ?vv4011) (by simp only [List.getElem?_toArray, List.getElem?_cons_zero, List.getElem?_cons_succ]; rfl) (by kernel_rfl) (by kernel_rfl) (by kernel_rfl) (fun _ _ _ h => h) (Or.inl ⟨by rfl, ?yy4011⟩) (by assumption) ?rr4011
          case yy4011 => (intro w hSw; (try dsimp only at hSw); go_simp; first | done | with_reducible rfl)
          simp only [Act.put, List.setIfInBounds_toArray, List.set_cons_zero, List.set_cons_succ]
          refine wpAnyH_take (i := 11) (v := ?vv4012) (by simp only [List.getElem?_toArray, List.getElem?_cons_zero, List.getElem?_cons_succ]; rfl) (by kernel_rfl) (by kernel_rfl) (by kernel_rfl) (fun _ _ _ h => h) (Or.inl ⟨by rfl, ?yy4012⟩) (by assumption) ?rr4012
          case yy4012 => (intro w hSw; (try dsimp only at hSw); go_simp; first | done | with_reducible rfl)
          simp only [Act.put, List.setIfInBounds_toArray, List.set_cons_zero, List.set_cons_succ]
          refine wpAnyH_take (i := 12) (v := ?vv4013) (by simp only [List.getElem?_toArray, List.getElem?_cons_zero, List.getElem?_cons_succ]; rfl) (by kernel_rfl) (by kernel_rfl) (by kernel_rfl) (fun _ _ _ h => h) (Or.inl ⟨by rfl, ?yy4013⟩) (by assumption) ?rr4013
          case yy4013 => (intro w hSw; (try dsimp only at hSw); go_simp; first | done | with_reducible rfl)
          simp only [Act.put, List.setIfInBounds_toArray, List.set_cons_zero, List.set_cons_succ]
          refine wpAnyH_take (i := 13) (v := ?vv4014) (by simp only [List.getElem?_toArray, List.getElem?_cons_zero, List.getElem?_cons_succ]; rfl) (by kernel_rfl) (by kernel_rfl) (by kernel_rfl) (fun _ _ _ h => h) (Or.inl ⟨by rfl, ?yy4014⟩) (by assumption) ?rr4014
          case yy4014 => (intro w hSw; (try dsimp only at hSw); go_simp; first | done | with_reducible rfl)
          simp only [Act.put, List.setIfInBounds_toArray, List.set_cons_zero, List.set_cons_succ]
          refine wpAnyH_take (i := 14) (v := ?vv4015) (by simp only [List.getElem?_toArray, List.getElem?_cons_zero, List.getElem?_cons_succ]; rfl) (by kernel_rfl) (by kernel_rfl) (by kernel_rfl) (fun _ _ _ h => h) (Or.inl ⟨by rfl, ?yy4015⟩) (by assumption) ?rr4015
          case yy4015 => (intro w hSw; (try dsimp only at hSw); go_simp; first | done | with_reducible rfl)
          simp only [Act.put, List.setIfInBounds_toArray, List.set_cons_zero, List.set_cons_succ]
          refine wpAnyH_take (i := 15) (v := ?vv4016) (by simp only [List.getElem?_toArray, List.getElem?_cons_zero, List.getElem?_cons_succ]; rfl) (by kernel_rfl) (by kernel_rfl) (by kernel_rfl) (fun _ _ _ h => h) (Or.inl ⟨by rfl, ?yy4016⟩) (by assumption) ?rr4016
          case yy4016 => (intro w hSw; (try dsimp only at hSw); go_simp; first | done | with_reducible rfl)
          simp only [Act.put, List.setIfInBounds_toArray, List.set_cons_zero, List.set_cons_succ]
          refine wpAnyH_take (i := 16) (v := ?vv4017) (by simp only [List.getElem?_toArray, List.getElem?_cons_zero, List.getElem?_cons_succ]; rfl) (by kernel_rfl) (by kernel_rfl) (by kernel_rfl) (fun _ _ _ h => h) (Or.inl ⟨by rfl, ?yy4017⟩) (by assumption) ?rr4017
          case yy4017 => (intro w hSw; (try dsimp only at hSw); go_simp; first | done | with_reducible rfl)
          simp only [Act.put, List.setIfInBounds_toArray, List.set_cons_zero, List.set_cons_succ]
          refine wpAnyH_take (i := 17) (v := ?vv4018) (by simp only [List.getElem?_toArray, List.getElem?_cons_zero, List.getElem?_cons_succ]; rfl) (by kernel_rfl) (by kernel_rfl) (by kernel_rfl) (fun _ _ _ h => h) (Or.inl ⟨by rfl, ?yy4018⟩) (by assumption) ?rr4018
          case yy4018 => (intro w hSw; (try dsimp only at hSw); go_simp; first | done | with_reducible rfl)
          simp only [Act.put, List.setIfInBounds_toArray, List.set_cons_zero, List.set_cons_succ]
          refine wpAnyH_done (by kernel_rfl) ?_ _
          refine NoPanic.normal ?_
          clear hHeld
          have BN := Lib.hid (chain BK.out hd)
          clear hd BD x3 x5 v1 v2 v3 v4
          go_wp2_with fail
          go_roundg (n - (k + 1))
          case measure => have := HG.out; omega
          case rel => exact ⟨k + 1, M, by omega, rfl, by first | rfl | rw [V1.out, V3.out], by go_num, CN, BN⟩
      · by_cases c2 : 9000 < qn
        · skip
          have p1 : decide ((9000 : Int) < (bn : Int)) = false := decide_eq_false (by omega)
          have p2 : decide ((bn : Int) > 9000) = false := decide_eq_false (by omega)
          have p3 : decide (9000 < bn) = false := decide_eq_false (by omega)
          have q1 : decide ((9000 : Int) < (qn : Int)) = true := decide_eq_true (by omega)
          have q2 : decide ((qn : Int) > 9000) = true := decide_eq_true (by omega)
          have q3 : decide (9000 < qn) = true := decide_eq_true (by omega)
          obtain ⟨M, hM⟩ : ∃ M, M = N + min bn 9000 + min qn 9000 := ⟨_, rfl⟩
          obtain ⟨M1, hM1⟩ : ∃ M1, M1 = N + min bn 9000 := ⟨_, rfl⟩
          rw [← hM] at CN
          have V1 : Hid (IntKind.i64.wrap ((N : Int) + (bn : Int)) = (M1 : Int)) := by show _ = _; rw [IntWalk.i64_in _ (by omega)]; omega
          have V2 : Hid (wrap64 ((N : Int) + (bn : Int)) = (M1 : Int)) := by show _ = _; rw [IntWalk.wrap64_in _ (by omega)]; omega
          have V3 : Hid (IntKind.i64.wrap ((M1 : Int) + 9000) = (M : Int)) := by show _ = _; rw [IntWalk.i64_in _ (by omega)]; omega
          have V4 : Hid (wrap64 ((M1 : Int) + 9000) = (M : Int)) := by show _ = _; rw [IntWalk.wrap64_in _ (by omega)]; omega
          clear hM hM1 N9
          have v1 := V1.out; have v2 := V2.out; have v3 := V3.out; have v4 := V4.out
          go_wp2_with fail
          refine wp_region_noPanic ?_
          refine wp_region_held_drew (S := fun w' => w'.cell? ⟨b, off + k * 6 + 3, none⟩ = some (.slice ba bn bc) ∧ w'.cell? ⟨b, off + k * 6 + 5, none⟩ = some (.slice qa qn qc)) (by kernel_rfl) ⟨x3, x5⟩ (fun hHeld => ?_)
          have hd := below_drew wr
          replace x3 := (hd.cell (p := ⟨b, off + k * 6 + 3, none⟩) l3).trans x3
          replace l3 := Nat.lt_of_lt_of_le l3 hd.size
          replace x5 := (hd.cell (p := ⟨b, off + k * 6 + 5, none⟩) l5).trans x5
          replace l5 := Nat.lt_of_lt_of_le l5 hd.size
          generalize wr.drew = wq1 at hHeld hd x3 l3 x5 l5 ⊢
          have BD : Hid (Below wq1.heap.size wq1 wq1) := Below.refl _ _
          refine wpAnyH_take (i := 0) (v := ?vv5001) (by simp only [List.getElem?_toArray, List.getElem?_cons_zero]; rfl) (by kernel_rfl) (by kernel_rfl) (by kernel_rfl) (fun _ _ _ h => h) (Or.inl ⟨by rfl, ?yy5001⟩) (by assumption) ?rr5001
          case yy5001 => (intro w hSw; (try dsimp only at hSw); go_simp; first | done | with_reducible rfl)
          simp only [Act.put, List.setIfInBounds_toArray, List.set_cons_zero, List.set_cons_succ]
          refine wpAnyH_take (i := 1) (v := ?vv5002) (by simp only [List.getElem?_toArray, List.getElem?_cons_zero, List.getElem?_cons_succ]; rfl) (by kernel_rfl) (by kernel_rfl) (by kernel_rfl) (fun _ _ _ h => h) (Or.inl ⟨by rfl, ?yy5002⟩) (by assumption) ?rr5002
          case yy5002 => (intro w hSw; (try dsimp only at hSw); go_simp; first | done | with_reducible rfl)
          simp only [Act.put, List.setIfInBounds_toArray, List.set_cons_zero, List.set_cons_succ]
          refine wpAnyH_take (i := 2) (v := ?vv5003) (by simp only [List.getElem?_toArray, List.getElem?_cons_zero, List.getElem?_cons_succ]; rfl) (by kernel_rfl) (by kernel_rfl) (by kernel_rfl) (fun _ _ _ h => h) (Or.inl ⟨by rfl, ?yy5003⟩) (by assumption) ?rr5003
          case yy5003 => (intro w hSw; (try dsimp only at hSw); go_simp; first | done | with_reducible rfl)
          simp only [Act.put, List.setIfInBounds_toArray, List.set_cons_zero, List.set_cons_succ]
          refine wpAnyH_take (i := 3) (v := ?vv5004) (by simp only [List.getElem?_toArray, List.getElem?_cons_zero, List.getElem?_cons_succ]; rfl) (by kernel_rfl) (by kernel_rfl) (by kernel_rfl) (fun _ _ _ h => h) (Or.inl ⟨by rfl, ?yy5004⟩) (by assumption) ?rr5004
          case yy5004 => (intro w hSw; (try dsimp only at hSw); go_simp; first | done | with_reducible rfl)
          simp only [Act.put, List.setIfInBounds_toArray, List.set_cons_zero, List.set_cons_succ]
          refine wpAnyH_take (i := 4) (v := ?vv5005) (by simp only [List.getElem?_toArray, List.getElem?_cons_zero, List.getElem?_cons_succ]; rfl) (by kernel_rfl) (by kernel_rfl) (by kernel_rfl) (fun _ _ _ h => h) (Or.inl ⟨by rfl, ?yy5005⟩) (by assumption) ?rr5005
          case yy5005 => (intro w hSw; (try dsimp only at hSw); go_simp; first | done | with_reducible rfl)
          simp only [Act.put, List.setIfInBounds_toArray, List.set_cons_zero, List.set_cons_succ]
          refine wpAnyH_take (i := 5) (v := ?vv5006) (by simp only [List.getElem?_toArray, List.getElem?_cons_zero, List.getElem?_cons_succ]; rfl) (by kernel_rfl) (by kernel_rfl) (by kernel_rfl) (fun _ _ _ h => h) (Or.inl ⟨by rfl, ?yy5006⟩) (by assumption) ?rr5006
          case yy5006 => (intro w hSw; (try dsimp only at hSw); go_simp; first | done | with_reducible rfl)
          simp only [Act.put, List.setIfInBounds_toArray, List.set_cons_zero, List.set_cons_succ]
          refine wpAnyH_take (i := 6) (v := ?vv5007) (by simp only [List.getElem?_toArray, List.getElem?_cons_zero, List.getElem?_cons_succ]; rfl) (by kernel_rfl) (by kernel_rfl) (by kernel_rfl) (fun _ _ _ h => h) (Or.inl ⟨by rfl, ?yy5007⟩) (by assumption) ?rr5007
          case yy5007 => (intro w hSw; (try dsimp only at hSw); go_simp; first | done | with_reducible rfl)
          simp only [Act.put, List.setIfInBounds_toArray, List.set_cons_zero, List.set_cons_succ]
          refine wpAnyH_take (i := 7) (v := ?vv5008) (by simp only [List.getElem?_toArray, List.getElem?_cons_zero, List.getElem?_cons_succ]; rfl) (by kernel_rfl) (by kernel_rfl) (by kernel_rfl) (fun _ _ _ h => h) (Or.inl ⟨by rfl, ?yy5008⟩) (by assumption) ?rr5008
          case yy5008 => (intro w hSw; (try dsimp only at hSw); go_simp; first | done | with_reducible rfl)
          simp only [Act.put, List.setIfInBounds_toArray, List.set_cons_zero, List.set_cons_succ]
          refine wpAnyH_take (i := 8) (v := ?vv5009) (by simp only [List.getElem?_toArray, List.getElem?_cons_zero, List.getElem?_cons_succ]; rfl) (by kernel_rfl) (by kernel_rfl) (by kernel_rfl) (fun _ _ _ h => h) (Or.inl ⟨by rfl, ?yy5009⟩) (by assumption) ?rr5009
          case yy5009 => (intro w hSw; (try dsimp only at hSw); go_simp; first | done | with_reducible rfl)
          simp only [Act.put, List.setIfInBounds_toArray, List.set_cons_zero, List.set_cons_succ]
          refine wpAnyH_take (i := 9) (v := ?vv5010) (by simp only [List.getElem?_toArray, List.getElem?_cons_zero, List.getElem?_cons_succ]; rfl) (by kernel_rfl) (by kernel_rfl) (by kernel_rfl) (fun _ _ _ h => h) (Or.inl ⟨by rfl, ?yy5010⟩) (by assumption) ?rr5010
          case yy5010 => (intro w hSw; (try dsimp only at hSw); go_simp; first | done | with_reducible rfl)
          simp only [Act.put, List.setIfInBounds_toArray, List.set_cons_zero, List.set_cons_succ]
          refine wpAnyH_take (i := 10) (v := ?vv5011) (by simp only [List.getElem?_toArray, List.getElem?_cons_zero, List.getElem?_cons_succ]; rfl) (by kernel_rfl) (by kernel_rfl) (by kernel_rfl) (fun _ _ _ h => h) (Or.inl ⟨by rfl, ?yy5011⟩) (by assumption) ?rr5011
          case yy5011 => (intro w hSw; (try dsimp only at hSw); go_simp; first | done | with_reducible rfl)
          simp only [Act.put, List.setIfInBounds_toArray, List.set_cons_zero, List.set_cons_succ]
          refine wpAnyH_take (i := 11) (v := ?vv5012) (by simp only [List.getElem?_toArray, List.getElem?_cons_zero, List.getElem?_cons_succ]; rfl) (by kernel_rfl) (by kernel_rfl) (by kernel_rfl) (fun _ _ _ h => h) (Or.inl ⟨by rfl, ?yy5012⟩) (by assumption) ?rr5012
          case yy5012 => (intro w hSw; (try dsimp only at hSw); go_simp; first | done | with_reducible rfl)
          simp only [Act.put, List.setIfInBounds_toArray, List.set_cons_zero, List.set_cons_succ]
          refine wpAnyH_take (i := 12) (v := ?vv5013) (by simp only [List.getElem?_toArray, List.getElem?_cons_zero, List.getElem?_cons_succ]; rfl) (by kernel_rfl) (by kernel_rfl) (by kernel_rfl) (fun _ _ _ h => h) (Or.inl ⟨by rfl, ?yy5013⟩) (by assumption) ?rr5013
          case yy5013 => (intro w hSw; (try dsimp only at hSw); go_simp; first | done | with_reducible rfl)
          simp only [Act.put, List.setIfInBounds_toArray, List.set_cons_zero, List.set_cons_succ]
          refine wpAnyH_take (i := 13) (v := ?vv5014) (by simp only [List.getElem?_toArray, List.getElem?_cons_zero, List.getElem?_cons_succ]; rfl) (by kernel_rfl) (by kernel_rfl) (by kernel_rfl) (fun _ _ _ h => h) (Or.inl ⟨by rfl, ?yy5014⟩) (by assumption) ?rr5014
          case yy5014 => (intro w hSw; (try dsimp only at hSw); go_simp; first | done | with_reducible rfl)
          simp only [Act.put, List.setIfInBounds_toArray, List.set_cons_zero, List.set_cons_succ]
          refine wpAnyH_take (i := 14) (v := ?vv5015) (by simp only [List.getElem?_toArray, List.getElem?_cons_zero, List.getElem?_cons_succ]; rfl) (by kernel_rfl) (by kernel_rfl) (by kernel_rfl) (fun _ _ _ h => h) (Or.inl ⟨by rfl, ?yy5015⟩) (by assumption) ?rr5015
          case yy5015 => (intro w hSw; (try dsimp only at hSw); go_simp; first | done | with_reducible rfl)
          simp only [Act.put, List.setIfInBounds_toArray, List.set_cons_zero, List.set_cons_succ]
          refine wpAnyH_take (i := 15) (v := ?vv5016) (by simp only [List.getElem?_toArray, List.getElem?_cons_zero, List.getElem?_cons_succ]; rfl) (by kernel_rfl) (by kernel_rfl) (by kernel_rfl) (fun _ _ _ h => h) (Or.inl ⟨by rfl, ?yy5016⟩) (by assumption) ?rr5016
          case yy5016 => (intro w hSw; (try dsimp only at hSw); go_simp; first | done | with_reducible rfl)
          simp only [Act.put, List.setIfInBounds_toArray, List.set_cons_zero, List.set_cons_succ]
          refine wpAnyH_take (i := 16) (v := ?vv5017) (by simp only [List.getElem?_toArray, List.getElem?_cons_zero, List.getElem?_cons_succ]; rfl) (by kernel_rfl) (by kernel_rfl) (by kernel_rfl) (fun _ _ _ h => h) (Or.inl ⟨by rfl, ?yy5017⟩) (by assumption) ?rr5017
          case yy5017 => (intro w hSw; (try dsimp only at hSw); go_simp; first | done | with_reducible rfl)
          simp only [Act.put, List.setIfInBounds_toArray, List.set_cons_zero, List.set_cons_succ]
          refine wpAnyH_take (i := 17) (v := ?vv5018) (by simp only [List.getElem?_toArray, List.getElem?_cons_zero, List.getElem?_cons_succ]; rfl) (by kernel_rfl) (by kernel_rfl) (by kernel_rfl) (fun _ _ _ h => h) (Or.inl ⟨by rfl, ?yy5018⟩) (by assumption) ?rr5018
          case yy5018 => (intro w hSw; (try dsimp only at hSw); go_simp; first | done | with_reducible rfl)
          simp only [Act.put, List.setIfInBounds_toArray, List.set_cons_zero, List.set_cons_succ]
          refine wpAnyH_done (by kernel_rfl) ?_ _
          refine NoPanic.normal ?_
          clear hHeld
          have BN := Lib.hid (chain BK.out hd)
          clear hd BD x3 x5 v1 v2 v3 v4
          go_wp2_with fail
          go_roundg (n - (k + 1))
          case measure => have := HG.out; omega
          case rel => exact ⟨k + 1, M, by omega, rfl, by first | rfl | rw [V1.out, V3.out], by go_num, CN, BN⟩
        · skip
          have p1 : decide ((9000 : Int) < (bn : Int)) = false := decide_eq_false (by omega)
          have p2 : decide ((bn : Int) > 9000) = false := decide_eq_false (by omega)
          have p3 : decide (9000 < bn) = false := decide_eq_false (by omega)
          have q1 : decide ((9000 : Int) < (qn : Int)) = false := decide_eq_false (by omega)
          have q2 : decide ((qn : Int) > 9000) = false := decide_eq_false (by omega)
          have q3 : decide (9000 < qn) = false := decide_eq_false (by omega)
          obtain ⟨M, hM⟩ : ∃ M, M = N + min bn 9000 + min qn 9000 := ⟨_, rfl⟩
          obtain ⟨M1, hM1⟩ : ∃ M1, M1 = N + min bn 9000 := ⟨_, rfl⟩
          rw [← hM] at CN
          have V1 : Hid (IntKind.i64.wrap ((N : Int) + (bn : Int)) = (M1 : Int)) := by show _ = _; rw [IntWalk.i64_in _ (by omega)]; omega
          have V2 : Hid (wrap64 ((N : Int) + (bn : Int)) = (M1 : Int)) := by show _ = _; rw [IntWalk.wrap64_in _ (by omega)]; omega
          have V3 : Hid (IntKind.i64.wrap ((M1 : Int) + (qn : Int)) = (M : Int)) := by show _ = _; rw [IntWalk.i64_in _ (by omega)]; omega
          have V4 : Hid (wrap64 ((M1 : Int) + (qn : Int)) = (M : Int)) := by show _ = _; rw [IntWalk.wrap64_in _ (by omega)]; omega
          clear hM hM1 N9
          have v1 := V1.out; have v2 := V2.out; have v3 := V3.out; have v4 := V4.out
          go_wp2_with fail
          refine wp_region_noPanic ?_
          refine wp_region_held_drew (S := fun w' => w'.cell? ⟨b, off + k * 6 + 3, none⟩ = some (.slice ba bn bc) ∧ w'.cell? ⟨b, off + k * 6 + 5, none⟩ = some (.slice qa qn qc)) (by kernel_rfl) ⟨x3, x5⟩ (fun hHeld => ?_)
          have hd := below_drew wr
          replace x3 := (hd.cell (p := ⟨b, off + k * 6 + 3, none⟩) l3).trans x3
          replace l3 := Nat.lt_of_lt_of_le l3 hd.size
          replace x5 := (hd.cell (p := ⟨b, off + k * 6 + 5, none⟩) l5).trans x5
          replace l5 := Nat.lt_of_lt_of_le l5 hd.size
          generalize wr.drew = wq1 at hHeld hd x3 l3 x5 l5 ⊢
          have BD : Hid (Below wq1.heap.size wq1 wq1) := Below.refl _ _
          refine wpAnyH_take (i := 0) (v := ?vv6001) (by simp only [List.getElem?_toArray, List.getElem?_cons_zero]; rfl) (by kernel_rfl) (by kernel_rfl) (by kernel_rfl) (fun _ _ _ h => h) (Or.inl ⟨by rfl, ?yy6001⟩) (by assumption) ?rr6001
          case yy6001 => (intro w hSw; (try dsimp only at hSw); go_simp; first | done | with_reducible rfl)
          simp only [Act.put, List.setIfInBounds_toArray, List.set_cons_zero, List.set_cons_succ]
          refine wpAnyH_take (i := 1) (v := ?vv6002) (by simp only [List.getElem?_toArray, List.getElem?_cons_zero, List.getElem?_cons_succ]; rfl) (by kernel_rfl) (by kernel_rfl) (by kernel_rfl) (fun _ _ _ h => h) (Or.inl ⟨by rfl, ?yy6002⟩) (by assumption) ?rr6002
          case yy6002 => (intro w hSw; (try dsimp only at hSw); go_simp; first | done | with_reducible rfl)
          simp only [Act.put, List.setIfInBounds_toArray, List.set_cons_zero, List.set_cons_succ]
          refine wpAnyH_take (i := 2) (v := ?vv6003) (by simp only [List.getElem?_toArray, List.getElem?_cons_zero, List.getElem?_cons_succ]; rfl) (by kernel_rfl) (by kernel_rfl) (by kernel_rfl) (fun _ _ _ h => h) (Or.inl ⟨by rfl, ?yy6003⟩) (by assumption) ?rr6003
          case yy6003 => (intro w hSw; (try dsimp only at hSw); go_simp; first | done | with_reducible rfl)
          simp only [Act.put, List.setIfInBounds_toArray, List.set_cons_zero, List.set_cons_succ]
          refine wpAnyH_take (i := 3) (v := ?vv6004) (by simp only [List.getElem?_toArray, List.getElem?_cons_zero, List.getElem?_cons_succ]; rfl) (by kernel_rfl) (by kernel_rfl) (by kernel_rfl) (fun _ _ _ h => h) (Or.inl ⟨by rfl, ?yy6004⟩) (by assumption) ?rr6004
          case yy6004 => (intro w hSw; (try dsimp only at hSw); go_simp; first | done | with_reducible rfl)
          simp only [Act.put, List.setIfInBounds_toArray, List.set_cons_zero, List.set_cons_succ]
          refine wpAnyH_take (i := 4) (v := ?vv6005) (by simp only [List.getElem?_toArray, List.getElem?_cons_zero, List.getElem?_cons_succ]; rfl) (by kernel_rfl) (by kernel_rfl) (by kernel_rfl) (fun _ _ _ h => h) (Or.inl ⟨by rfl, ?yy6005⟩) (by assumption) ?rr6005
          case yy6005 => (intro w hSw; (try dsimp only at hSw); go_simp; first | done | with_reducible rfl)
          simp only [Act.put, List.setIfInBounds_toArray, List.set_cons_zero, List.set_cons_succ]
          refine wpAnyH_take (i := 5) (v := ?vv6006) (by simp only [List.getElem?_toArray, List.getElem?_cons_zero, List.getElem?_cons_succ]; rfl) (by kernel_rfl) (by kernel_rfl) (by kernel_rfl) (fun _ _ _ h => h) (Or.inl ⟨by rfl, ?yy6006⟩) (by assumption) ?rr6006
          case yy6006 => (intro w hSw; (try dsimp only at hSw); go_simp; first | done | with_reducible rfl)
          simp only [Act.put, List.setIfInBounds_toArray, List.set_cons_zero, List.set_cons_succ]
          refine wpAnyH_take (i := 6) (v := ?vv6007) (by simp only [List.getElem?_toArray, List.getElem?_cons_zero, List.getElem?_cons_succ]; rfl) (by kernel_rfl) (by kernel_rfl) (by kernel_rfl) (fun _ _ _ h => h) (Or.inl ⟨by rfl, ?yy6007⟩) (by assumption) ?rr6007
          case yy6007 => (intro w hSw; (try dsimp only at hSw); go_simp; first | done | with_reducible rfl)
          simp only [Act.put, List.setIfInBounds_toArray, List.set_cons_zero, List.set_cons_succ]
          refine wpAnyH_take (i := 7) (v := ?vv6008) (by simp only [List.getElem?_toArray, List.getElem?_cons_zero, List.getElem?_cons_succ]; rfl) (by kernel_rfl) (by kernel_rfl) (by kernel_rfl) (fun _ _ _ h => h) (Or.inl ⟨by rfl, ?yy6008⟩) (by assumption) ?rr6008
          case yy6008 => (intro w hSw; (try dsimp only at hSw); go_simp; first | done | with_reducible rfl)
          simp only [Act.put, List.setIfInBounds_toArray, List.set_cons_zero, List.set_cons_succ]
          refine wpAnyH_take (i := 8) (v := ?vv6009) (by simp only [List.getElem?_toArray, List.getElem?_cons_zero, List.getElem?_cons_succ]; rfl) (by kernel_rfl) (by kernel_rfl) (by kernel_rfl) (fun _ _ _ h => h) (Or.inl ⟨by rfl, ?yy6009⟩) (by assumption) ?rr6009
          case yy6009 => (intro w hSw; (try dsimp only at hSw); go_simp; first | done | with_reducible rfl)
          simp only [Act.put, List.setIfInBounds_toArray, List.set_cons_zero, List.set_cons_succ]
          refine wpAnyH_take (i := 9) (v := ?vv6010) (by simp only [List.getElem?_toArray, List.getElem?_cons_zero, List.getElem?_cons_succ]; rfl) (by kernel_rfl) (by kernel_rfl) (by kernel_rfl) (fun _ _ _ h => h) (Or.inl ⟨by rfl, ?yy6010⟩) (by assumption) ?rr6010
          case yy6010 => (intro w hSw; (try dsimp only at hSw); go_simp; first | done | with_reducible rfl)
          simp only [Act.put, List.setIfInBounds_toArray, List.set_cons_zero, List.set_cons_succ]
          refine wpAnyH_take (i := 10) (v := ?vv6011) (by simp only [List.getElem?_toArray, List.getElem?_cons_zero, List.getElem?_cons_succ]; rfl) (by kernel_rfl) (by kernel_rfl) (by kernel_rfl) (fun _ _ _ h => h) (Or.inl ⟨by rfl, ?yy6011⟩) (by assumption) ?rr6011
          case yy6011 => (intro w hSw; (try dsimp only at hSw); go_simp; first | done | with_reducible rfl)
          simp only [Act.put, List.setIfInBounds_toArray, List.set_cons_zero, List.set_cons_succ]
          refine wpAnyH_take (i := 11) (v := ?vv6012) (by simp only [List.getElem?_toArray, List.getElem?_cons_zero, List.getElem?_cons_succ]; rfl) (by kernel_rfl) (by kernel_rfl) (by kernel_rfl) (fun _ _ _ h => h) (Or.inl ⟨by rfl, ?yy6012⟩) (by assumption) ?rr6012
          case yy6012 => (intro w hSw; (try dsimp only at hSw); go_simp; first | done | with_reducible rfl)
          simp only [Act.put, List.setIfInBounds_toArray, List.set_cons_zero, List.set_cons_succ]
          refine wpAnyH_take (i := 12) (v := ?vv6013) (by simp only [List.getElem?_toArray, List.getElem?_cons_zero, List.getElem?_cons_succ]; rfl) (by kernel_rfl) (by kernel_rfl) (by kernel_rfl) (fun _ _ _ h => h) (Or.inl ⟨by rfl, ?yy6013⟩) (by assumption) ?rr6013
          case yy6013 => (intro w hSw; (try dsimp only at hSw); go_simp; first | done | with_reducible rfl)
          simp only [Act.put, List.setIfInBounds_toArray, List.set_cons_zero, List.set_cons_succ]
          refine wpAnyH_take (i := 13) (v := ?vv6014) (by simp only [List.getElem?_toArray, List.getElem?_cons_zero, List.getElem?_cons_succ]; rfl) (by kernel_rfl) (by kernel_rfl) (by kernel_rfl) (fun _ _ _ h => h) (Or.inl ⟨by rfl, ?yy6014⟩) (by assumption) ?rr6014
          case yy6014 => (intro w hSw; (try dsimp only at hSw); go_simp; first | done | with_reducible rfl)
          simp only [Act.put, List.setIfInBounds_toArray, List.set_cons_zero, List.set_cons_succ]
          refine wpAnyH_take (i := 14) (v := ?vv6015) (by simp only [List.getElem?_toArray, List.getElem?_cons_zero, List.getElem?_cons_succ]; rfl) (by kernel_rfl) (by kernel_rfl) (by kernel_rfl) (fun _ _ _ h => h) (Or.inl ⟨by rfl, ?yy6015⟩) (by assumption) ?rr6015
          case yy6015 => (intro w hSw; (try dsimp only at hSw); go_simp; first | done | with_reducible rfl)
          simp only [Act.put, List.setIfInBounds_toArray, List.set_cons_zero, List.set_cons_succ]
          refine wpAnyH_take (i := 15) (v := ?vv6016) (by simp only [List.getElem?_toArray, List.getElem?_cons_zero, List.getElem?_cons_succ]; rfl) (by kernel_rfl) (by kernel_rfl) (by kernel_rfl) (fun _ _ _ h => h) (Or.inl ⟨by rfl, ?yy6016⟩) (by assumption) ?rr6016
          case yy6016 => (intro w hSw; (try dsimp only at hSw); go_simp; first | done | with_reducible rfl)
          simp only [Act.put, List.setIfInBounds_toArray, List.set_cons_zero, List.set_cons_succ]
          refine wpAnyH_take (i := 16) (v := ?vv6017) (by simp only [List.getElem?_toArray, List.getElem?_cons_zero, List.getElem?_cons_succ]; rfl) (by kernel_rfl) (by kernel_rfl) (by kernel_rfl) (fun _ _ _ h => h) (Or.inl ⟨by rfl, ?yy6017⟩) (by assumption) ?rr6017
          case yy6017 => (intro w hSw; (try dsimp only at hSw); go_simp; first | done | with_reducible rfl)
          simp only [Act.put, List.setIfInBounds_toArray, List.set_cons_zero, List.set_cons_succ]
          refine wpAnyH_take (i := 17) (v := ?vv6018) (by simp only [List.getElem?_toArray, List.getElem?_cons_zero, List.getElem?_cons_succ]; rfl) (by kernel_rfl) (by kernel_rfl) (by kernel_rfl) (fun _ _ _ h => h) (Or.inl ⟨by rfl, ?yy6018⟩) (by assumption) ?rr6018
          case yy6018 => (intro w hSw; (try dsimp only at hSw); go_simp; first | done | with_reducible rfl)
          simp only [Act.put, List.setIfInBounds_toArray, List.set_cons_zero, List.set_cons_succ]
          refine wpAnyH_done (by kernel_rfl) ?_ _
          refine NoPanic.normal ?_
          clear hHeld
          have BN := Lib.hid (chain BK.out hd)
          clear hd BD x3 x5 v1 v2 v3 v4
          go_wp2_with fail
          go_roundg (n - (k + 1))
          case measure => have := HG.out; omega
          case rel => exact ⟨k + 1, M, by omega, rfl, by first | rfl | rw [V1.out, V3.out], by go_num, CN, BN⟩
    · by_cases kn : k < n
      · have N9 : ¬ N < 9000 := fun q => hg ⟨kn, q⟩
        have ki : (k : Int) < (n : Int) := by omega
        have dk : decide ((k : Int) < (n : Int)) = true := decide_eq_true ki
        have dn : decide ((N : Int) < 9000) = false := decide_eq_false (by omega)
        have dn2 : decide (N < 9000) = false := decide_eq_false N9
        have dm : decide ((N : Int) ≥ 9000) = true := decide_eq_true (by omega)
        have dm2 : decide (9000 ≤ N) = true := decide_eq_true (by omega)
        clear hg
        go_wp2_with fail
        go_ret
        exact ⟨true, rfl, (fun q => by cases q), BK.out⟩
      · obtain rfl : k = n := by omega
        have dk : decide ((k : Int) < (k : Int)) = false := decide_eq_false (Int.lt_irrefl _)
        clear hg kn hk
        by_cases N9 : N < 9000
        · have dm : decide ((N : Int) ≥ 9000) = false := decide_eq_false (by omega)
          have dm2 : decide (9000 ≤ N) = false := decide_eq_false (by omega)
          by_cases k3 : 300 < k
          · have dl : decide ((k : Int) > 300) = true := decide_eq_true (by omega)
            have dl2 : decide (300 < k) = true := decide_eq_true k3
            clear N9 k3
            go_wp2_with fail
            go_ret
            exact ⟨true, rfl, (fun q => by cases q), BK.out⟩
          · have dl : decide ((k : Int) > 300) = false := decide_eq_false (by omega)
            have dl2 : decide (300 < k) = false := decide_eq_false k3
            have FI : Hid (fitsO os) := cnt_end (by rw [← LN.out]; exact CK.out) N9 (by rw [← LN.out]; omega)
            clear N9 k3
            go_wp2_with fail
            go_ret
            exact ⟨false, rfl, fun _ => FI.out, BK.out⟩
        · have dm : decide ((N : Int) ≥ 9000) = true := decide_eq_true (by omega)
          have dm2 : decide (9000 ≤ N) = true := decide_eq_true (by omega)
          clear N9
          go_wp2_with fail
          go_ret
          exact ⟨true, rfl, (fun q => by cases q), BK.out⟩

end Go.Proofs.Ytpdedeaejlkokaa
