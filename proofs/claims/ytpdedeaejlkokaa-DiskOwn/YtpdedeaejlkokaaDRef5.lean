/-
  What the document's own functions of layer 15 answer: Crash.
-/
import Derived.Test.YtpdedeaejlkokaaDRef4
namespace Go.Proofs.Ytpdedeaejlkokaa
open Go.RowKit

theorem step_p (keep : List Bool) (torn : Int) (k : Nat) (d : Dk) (x : Nat × List UInt8) : (dkStep keep torn k d x).p = d.p ∧ (dkStep keep torn k d x).l.length = d.l.length ∧ (dkStep keep torn k d x).t.length = d.t.length ∧ (dkStep keep torn k d x).f = d.f := by
  unfold dkStep
  split
  · exact ⟨rfl, rfl, by simp, rfl⟩
  · split
    · exact ⟨rfl, by simp [dkLay], by simp [dkLay], rfl⟩
    · exact ⟨rfl, rfl, rfl, rfl⟩
theorem run_p (keep : List Bool) (torn : Int) : ∀ (p : List (Nat × List UInt8)) (k : Nat) (d : Dk), (dkRun keep torn k p d).p = d.p ∧ (dkRun keep torn k p d).l.length = d.l.length ∧ (dkRun keep torn k p d).t.length = d.t.length
  | [], _, _ => ⟨rfl, rfl, rfl⟩
  | x :: p, k, d => by
    obtain ⟨a, b, c⟩ := run_p keep torn p (k + 1) (dkStep keep torn k d x)
    obtain ⟨a', b', c', _⟩ := step_p keep torn k d x
    exact ⟨a.trans a', b.trans b', c.trans c'⟩
theorem run_next {p : List (Nat × List UInt8)} {k : Nat} {x : Nat × List UInt8} (hk : p[k]? = some x) (keep : List Bool) (torn : Int) (d : Dk) : dkRun keep torn 0 (p.take (k + 1)) d = dkStep keep torn k (dkRun keep torn 0 (p.take k) d) x := by
  have hl := (List.getElem?_eq_some_iff.1 hk).1
  rw [take_get hk, run_snoc, Nat.zero_add, List.length_take, Nat.min_eq_left (by omega)]
theorem q_cell {w : World} {b off : Nat} {us : List Bool} (h : ∀ j u, (us.flatMap qcells)[j]? = some u → w.cell? ⟨b, off + j, none⟩ = some u) {k : Nat} (hk : k < us.length) : w.cell? ⟨b, off + k, none⟩ = some (.bool (us.getD k false)) := by
  have e : us.getD k false = us[k] := by simp [List.getD_eq_getElem?_getD, hk]
  rw [e]
  have := Rg.at qcells_len h (List.getElem?_eq_getElem hk) 0 _ rfl
  rwa [Nat.mul_one] at this

set_option maxHeartbeats 8000000 in
set_option maxRecDepth 100000 in
theorem rcrash15 (B : Nat) (O : Nat → Prop) (g m : Nat) (d : Dk) (keep : List Bool) (torn : Int) (Y : Option Addr) (nY cY : Nat) (w : World) (H : RDI B O d g w) (hB : B ≤ w.heap.size) (ok : DkOk m d) (hm : m ≤ 5000) (hp : d.p.length ≤ 100000) (hy : Rg qcells w Y keep) (ly : nY = keep.length) (hY : 0 < keep.length → ∀ a, Y = some a → ¬ O a.block) :
    Calls Try.prog 29 #[.pointer (some ⟨g, 0, none⟩), .slice Y nY cY, .int .i64 torn] w (RTo B O g (dkCrash d keep torn) (.tuple #[]) w) := by
  have HH := Lib.hid H; have HLT := Lib.hid H.lt; have HBB := Lib.hid hB; have OK := Lib.hid ok; have YR := Lib.hid hy; have LY := Lib.hid ly; have NY := Lib.hid hY
  obtain ⟨n, hn⟩ : ∃ n, n = d.p.length := ⟨_, rfl⟩
  have HN := Lib.hid hn
  have n1 : n ≤ 100000 := by omega
  have K0 : Hid (Kept B O w w) := Kept.refl _ _ _
  have D0 : Hid (RDI B (Grow O w w) (dkRun keep torn 0 (d.p.take 0) d) g w) := H.grown H.lt hB
  clear H hB ok hn hp hy ly hY
  go_enter Try.func29, Try.ntmps29
  go_wp2_with fail
  go_loopg [6] n (fun gh s6 wx => ∃ k : Nat, k ≤ n ∧ Hid (gh = n - k) ∧ s6 = .int .i64 (k : Int) ∧ Hid (RDI B (Grow O w wx) (dkRun keep torn 0 (d.p.take k) d) g wx) ∧ Hid (Kept B O w wx))
  case atStart => exact ⟨0, by omega, by show _ = _; omega, rfl, D0, K0⟩
  case round =>
    obtain ⟨k, hk, HG, rfl, DK, KK⟩ := hrel
    obtain ⟨A2, c2, g2⟩ := DK.out.Plen
    rw [(run_p _ _ _ _ _).1, ← HN.out] at g2
    by_cases kn : k < n
    · have ki : (k : Int) < (n : Int) := by omega
      have k0 : (0 : Int) ≤ (k : Int) := by omega
      have hx := List.getElem?_eq_getElem (show k < d.p.length by rw [← HN.out]; exact kn)
      obtain ⟨x, hxe⟩ : ∃ x, x = d.p[k]'(by rw [← HN.out]; exact kn) := ⟨_, rfl⟩
      rw [← hxe] at hx
      have XK := Lib.hid hx
      obtain ⟨b, c, h, z0, zb, z2, z3, z4⟩ := DK.out.P (k := k) (x := x) (by rw [(run_p _ _ _ _ _).1]; exact hx)
      rw [(run_p _ _ _ _ _).1, ← HN.out] at z0
      rw [g2] at z0
      injection z0 with z0
      injection z0 with z0 _ z00
      subst z0 z00
      have X2 := (OK.out.p x (List.mem_of_getElem? hx))
      have hn64 : h.n = 64 := by rw [z4.n]; exact X2.2
      obtain ⟨ha, hn', hc⟩ := h
      dsimp only at z3 hn64
      subst hn64
      have BY := Lib.hid z4
      have XX := Lib.hid X2
      obtain ⟨xi, xb⟩ := x
      dsimp only at z2
      have hll : (dkRun keep torn 0 (d.p.take k) d).l.length = m := by rw [(run_p _ _ _ _ _).2.1]; exact OK.out.l
      have htl : (dkRun keep torn 0 (d.p.take k) d).t.length = m := by rw [(run_p _ _ _ _ _).2.2]; exact OK.out.t
      have HLL := Lib.hid hll; have HTL := Lib.hid htl
      have xim : xi < m := X2.1
      clear hxe hx X2 z4 hll htl
      by_cases kt : (k : Int) = torn
      · have b1 : ((k : Int) == torn) = true := by simp [kt]
        obtain ⟨bT, cT, g1, oT, neT, ⟨csT, tyT⟩, fT⟩ := DK.out.T (by rw [HTL.out]; omega)
        rw [HTL.out] at g1
        have FT := Lib.hid (fT xi (by rw [HTL.out]; exact xim))
        have OT := Lib.hid oT; have TG := Lib.hid neT; have G1 := Lib.hid g1
        have LT6 := Lib.hid (DK.out.lt bT oT).2
        have TB : Hid (bT ≠ b) := fun e => by
          obtain ⟨lt, hg, vL, vT, vP, hl, hp, q1, q2, q3, q4, q5, q6, q7, q8, q9, q10, q11⟩ := DK.out
          have := (dcell2 q1).symm.trans g2
          obtain rfl := Option.some.inj this
          exact own_ne_type q5 tyT (by decide) (by rw [e]; rfl)
        have lg1 := (DK.out.lt g DK.out.own).2
        have lg2 := lg1
        have lz := zb
        have xi0 : (0 : Int) ≤ (xi : Int) := Int.natCast_nonneg _
        have xi1 : (xi : Int) < (m : Int) := Int.ofNat_lt.2 xim
        have KT := Lib.hid kt
        clear oT neT tyT fT z3 zb kt
        go_wp2_with fail
        refine wp_region_noPanic ?_
        refine wp_region_held_drew (S := fun w' => w'.cell? ⟨g, 1, none⟩ = some (.slice (some ⟨bT, 0, none⟩) m cT) ∧ w'.cell? ⟨g, 2, none⟩ = some (.slice (some ⟨b, 0, none⟩) n c2) ∧ w'.cell? ⟨b, k * 2, none⟩ = some (.int .i64 (xi : Int))) (by kernel_rfl) ⟨g1, g2, z2⟩ (fun hHeld => ?_)
        have hd := below_drew wr
        replace g1 := (hd.cell (p := ⟨g, 1, none⟩) lg1).trans g1
        replace lg1 := Nat.lt_of_lt_of_le lg1 hd.size
        replace g2 := (hd.cell (p := ⟨g, 2, none⟩) lg2).trans g2
        replace lg2 := Nat.lt_of_lt_of_le lg2 hd.size
        replace z2 := (hd.cell (p := ⟨b, k * 2, none⟩) lz).trans z2
        replace lz := Nat.lt_of_lt_of_le lz hd.size
        generalize wr.drew = wq1 at hHeld hd g1 lg1 g2 lg2 z2 lz ⊢
        have BD : Hid (Below wq1.heap.size wq1 wq1) := Below.refl _ _
        refine wpAnyH_take (i := 0) (v := ?vv3001) (by simp only [List.getElem?_toArray, List.getElem?_cons_zero]; rfl) (by kernel_rfl) (by kernel_rfl) (by kernel_rfl) (fun _ _ _ h => h) (Or.inl ⟨by rfl, ?yy3001⟩) (by assumption) ?rr3001
        case yy3001 => (intro w hSw; (try dsimp only at hSw); go_simp; first | done | with_reducible rfl)
        simp only [Act.put, List.setIfInBounds_toArray, List.set_cons_zero, List.set_cons_succ]
        refine wpAnyH_take (i := 1) (v := ?vv3002) (by simp only [List.getElem?_toArray, List.getElem?_cons_zero, List.getElem?_cons_succ]; rfl) (by kernel_rfl) (by kernel_rfl) (by kernel_rfl) (fun _ _ _ h => h) (Or.inl ⟨by rfl, ?yy3002⟩) (by assumption) ?rr3002
        case yy3002 => (intro w hSw; (try dsimp only at hSw); go_simp; first | done | with_reducible rfl)
        simp only [Act.put, List.setIfInBounds_toArray, List.set_cons_zero, List.set_cons_succ]
        refine wpAnyH_take (i := 2) (v := ?vv3003) (by simp only [List.getElem?_toArray, List.getElem?_cons_zero, List.getElem?_cons_succ]; rfl) (by kernel_rfl) (by kernel_rfl) (by kernel_rfl) (fun _ _ _ h => h) (Or.inl ⟨by rfl, ?yy3003⟩) (by assumption) ?rr3003
        case yy3003 => (intro w hSw; (try dsimp only at hSw); go_simp; first | done | with_reducible rfl)
        simp only [Act.put, List.setIfInBounds_toArray, List.set_cons_zero, List.set_cons_succ]
        refine wpAnyH_take (i := 3) (v := ?vv3004) (by simp only [List.getElem?_toArray, List.getElem?_cons_zero, List.getElem?_cons_succ]; rfl) (by kernel_rfl) (by kernel_rfl) (by kernel_rfl) (fun _ _ _ h => h) (Or.inl ⟨by rfl, ?yy3004⟩) (by assumption) ?rr3004
        case yy3004 => (intro w hSw; (try dsimp only at hSw); go_simp; first | done | with_reducible rfl)
        simp only [Act.put, List.setIfInBounds_toArray, List.set_cons_zero, List.set_cons_succ]
        refine wpAnyH_take (i := 4) (v := ?vv3005) (by simp only [List.getElem?_toArray, List.getElem?_cons_zero, List.getElem?_cons_succ]; rfl) (by kernel_rfl) (by kernel_rfl) (by kernel_rfl) (fun _ _ _ h => h) (Or.inl ⟨by rfl, ?yy3005⟩) (by assumption) ?rr3005
        case yy3005 => (intro w hSw; (try dsimp only at hSw); go_simp; first | done | with_reducible rfl)
        simp only [Act.put, List.setIfInBounds_toArray, List.set_cons_zero, List.set_cons_succ]
        refine wpAnyH_take (i := 5) (v := ?vv3006) (by simp only [List.getElem?_toArray, List.getElem?_cons_zero, List.getElem?_cons_succ]; rfl) (by kernel_rfl) (by kernel_rfl) (by kernel_rfl) (fun _ _ _ h => h) (Or.inl ⟨by rfl, ?yy3006⟩) (by assumption) ?rr3006
        case yy3006 => (intro w hSw; (try dsimp only at hSw); go_simp; first | done | with_reducible rfl)
        simp only [Act.put, List.setIfInBounds_toArray, List.set_cons_zero, List.set_cons_succ]
        refine wpAnyH_take (i := 6) (v := ?vv3007) (by simp only [List.getElem?_toArray, List.getElem?_cons_zero, List.getElem?_cons_succ]; rfl) (by kernel_rfl) (by kernel_rfl) (by kernel_rfl) (fun _ _ _ h => h) (Or.inl ⟨by rfl, ?yy3007⟩) (by assumption) ?rr3007
        case yy3007 => (intro w hSw; (try dsimp only at hSw); go_simp; first | done | with_reducible rfl)
        simp only [Act.put, List.setIfInBounds_toArray, List.set_cons_zero, List.set_cons_succ]
        refine wpAnyH_take (i := 7) (v := ?vv3008) (by simp only [List.getElem?_toArray, List.getElem?_cons_zero, List.getElem?_cons_succ]; rfl) (by kernel_rfl) (by kernel_rfl) (by kernel_rfl) (fun _ _ _ h => h) (Or.inl ⟨by rfl, ?yy3008⟩) (by assumption) ?rr3008
        case yy3008 => (intro w hSw; (try dsimp only at hSw); go_simp; first | done | with_reducible rfl)
        simp only [Act.put, List.setIfInBounds_toArray, List.set_cons_zero, List.set_cons_succ]
        refine wpAnyH_take (i := 8) (v := ?vv3009) (by simp only [List.getElem?_toArray, List.getElem?_cons_zero, List.getElem?_cons_succ]; rfl) (by kernel_rfl) (by kernel_rfl) (by kernel_rfl) (fun _ _ _ h => h) (Or.inl ⟨by rfl, ?yy3009⟩) (by assumption) ?rr3009
        case yy3009 => (intro w hSw; (try dsimp only at hSw); go_simp; first | done | with_reducible rfl)
        simp only [Act.put, List.setIfInBounds_toArray, List.set_cons_zero, List.set_cons_succ]
        refine wpAnyH_take (i := 9) (v := ?vv3010) (by simp only [List.getElem?_toArray, List.getElem?_cons_zero, List.getElem?_cons_succ]; rfl) (by kernel_rfl) (by kernel_rfl) (by kernel_rfl) (fun _ _ _ h => h) (Or.inl ⟨by rfl, ?yy3010⟩) (by assumption) ?rr3010
        case yy3010 => (intro w hSw; (try dsimp only at hSw); go_simp; first | done | with_reducible rfl)
        simp only [Act.put, List.setIfInBounds_toArray, List.set_cons_zero, List.set_cons_succ]
        refine wpAnyH_take (i := 10) (v := ?vv3011) (by simp only [List.getElem?_toArray, List.getElem?_cons_zero, List.getElem?_cons_succ]; rfl) (by kernel_rfl) (by kernel_rfl) (by kernel_rfl) (fun _ _ _ h => h) (Or.inl ⟨by rfl, ?yy3011⟩) (by assumption) ?rr3011
        case yy3011 => (intro w hSw; (try dsimp only at hSw); go_simp; first | done | with_reducible rfl)
        simp only [Act.put, List.setIfInBounds_toArray, List.set_cons_zero, List.set_cons_succ]
        refine wpAnyH_take (i := 11) (v := ?vv3012) (by simp only [List.getElem?_toArray, List.getElem?_cons_zero, List.getElem?_cons_succ]; rfl) (by kernel_rfl) (by kernel_rfl) (by kernel_rfl) (fun _ _ _ h => h) (Or.inl ⟨by rfl, ?yy3012⟩) (by assumption) ?rr3012
        case yy3012 => (intro w hSw; (try dsimp only at hSw); go_simp; first | done | with_reducible rfl)
        simp only [Act.put, List.setIfInBounds_toArray, List.set_cons_zero, List.set_cons_succ]
        refine wpAnyH_take (i := 12) (v := ?vv3013) (by simp only [List.getElem?_toArray, List.getElem?_cons_zero, List.getElem?_cons_succ]; rfl) (by kernel_rfl) (by kernel_rfl) (by kernel_rfl) (fun _ _ _ h => h) (Or.inl ⟨by rfl, ?yy3013⟩) (by assumption) ?rr3013
        case yy3013 => (intro w hSw; (try dsimp only at hSw); go_simp; first | done | with_reducible rfl)
        simp only [Act.put, List.setIfInBounds_toArray, List.set_cons_zero, List.set_cons_succ]
        refine wpAnyH_ready (rs := [13]) (by kernel_rfl) (by simp) ?_
        refine AllReadyH.cons (by simp only [List.getElem?_toArray, List.getElem?_cons_zero, List.getElem?_cons_succ]; rfl) (fun K hK => ?_) ?_
        · skip
          have cT6 := ((chain hd BD.out).cell (p := ⟨bT, xi, none⟩) LT6.out).trans FT.out.1
          have fT6 := ((chain hd BD.out).frozen (p := ⟨bT, xi, none⟩) LT6.out).trans FT.out.2
          go_simp
          refine hK.out _ _ ⟨(World.cell?_setCell_far _ _ _ _ TG.out).trans ((BD.out.cell (p := ⟨g, 1, none⟩) lg1).trans g1), (World.cell?_setCell_far _ _ _ _ TG.out).trans ((BD.out.cell (p := ⟨g, 2, none⟩) lg2).trans g2), (World.cell?_setCell_far _ _ _ _ TB.out).trans ((BD.out.cell (p := ⟨b, k * 2, none⟩) lz).trans z2)⟩ (fun hHeld => ?_)
          clear hK K cT6 fT6
          try simp only [Act.put, List.setIfInBounds_toArray, List.set_cons_zero, List.set_cons_succ]
          refine wpAnyH_done (by kernel_rfl) ?_ _
          refine NoPanic.normal ?_
          clear hHeld
          have E6 := ((DK.out.below (chain hd BD.out)).setT xi true (by rw [((chain hd BD.out).cell (p := ⟨g, 1, none⟩) (DK.out.lt g DK.out.own).2)]; exact G1.out)).1
          have K6 := Lib.hid ((KK.out.more HBB.out (chain hd BD.out)).set (j := xi) (grow_old OT.out) (DK.out.lt bT OT.out).1 (.bool true))
          have D6 : Hid (RDI B (Grow O w (wq1.setCell ⟨bT, xi, none⟩ (.bool true))) (dkRun keep torn 0 (d.p.take (k + 1)) d) g (wq1.setCell ⟨bT, xi, none⟩ (.bool true))) := by
            show RDI _ _ _ _ _
            rw [run_next XK.out, dkStep, if_pos KT.out]
            exact E6.regrow HLT.out HBB.out KK.out.1.size (by rw [World.size_setCell]; exact (chain hd BD.out).size)
          clear E6 hd BD g1 g2 z2
          go_wp2_with fail
          go_roundg (n - (k + 1))
          case measure => have := HG.out; omega
          case rel => exact ⟨k + 1, by omega, rfl, by go_num, D6, K6⟩
        exact AllReadyH.nil
      · have b1 : ((k : Int) == torn) = false := by simpa using kt
        have KT := Lib.hid kt
        clear kt
        by_cases ky : k < nY
        · have ky0 : decide ((k : Int) < (nY : Int)) = true := decide_eq_true (by omega)
          have ky1 : (k : Int) < (nY : Int) := by omega
          obtain ⟨bY, oY, rfl, lY, qY⟩ := (YR.out.keptO KK.out NY.out) (by rw [← LY.out]; omega)
          have y1 := q_cell qY (k := k) (by rw [← LY.out]; exact ky)
          cases hv : keep.getD k false with
          | true =>
            rw [hv] at y1
            have HV := Lib.hid hv
            clear hv qY lY
            go_wp2_with fail
            refine (rlaid15 B (Grow O w wr) g _ xi ha 64 hc xb _ DK.out (Nat.le_trans HBB.out KK.out.1.size) (by rw [HLL.out]; exact XX.out.1) (by rw [HTL.out]; exact XX.out.1) BY.out.rg XX.out.2.symm (by decide) (by rw [HLL.out, HTL.out]; exact ⟨hm, hm⟩)).mono ?_
            rintro e w5 ⟨rfl, h1, h2⟩
            have D5 : Hid (RDI B (Grow O w w5) (dkRun keep torn 0 (d.p.take (k + 1)) d) g w5) := by
              show RDI _ _ _ _ _
              rw [run_next XK.out, dkStep, if_neg KT.out, if_pos HV.out]
              exact h1.regrow2 HLT.out HBB.out KK.out.1.size h2.1.size (Nat.le_refl _)
            have K5 : Hid (Kept B O w w5) := KK.out.next h2 fun b q => grow_old q
            clear h1 h2 g2 z2 z3 y1
            go_wp2_with fail
            go_roundg (n - (k + 1))
            case measure => have := HG.out; omega
            case rel => exact ⟨k + 1, by omega, rfl, by go_num, D5, K5⟩
          | false =>
            rw [hv] at y1
            have D5 : Hid (RDI B (Grow O w wr) (dkRun keep torn 0 (d.p.take (k + 1)) d) g wr) := by
              show RDI _ _ _ _ _
              rw [run_next XK.out, dkStep, if_neg KT.out, if_neg (by rw [hv]; decide)]
              exact DK.out
            clear hv qY lY
            go_wp2_with fail
            go_roundg (n - (k + 1))
            case measure => have := HG.out; omega
            case rel => exact ⟨k + 1, by omega, rfl, by go_num, D5, KK⟩
        · have ky0 : decide ((k : Int) < (nY : Int)) = false := decide_eq_false (by omega)
          have ky1 : decide (k < nY) = false := decide_eq_false ky
          have D5 : Hid (RDI B (Grow O w wr) (dkRun keep torn 0 (d.p.take (k + 1)) d) g wr) := by
            show RDI _ _ _ _ _
            rw [run_next XK.out, dkStep, if_neg KT.out, if_neg (by rw [List.getD_eq_getElem?_getD, List.getElem?_eq_none (by rw [← LY.out]; omega)]; decide)]
            exact DK.out
          clear ky
          go_wp2_with fail
          go_roundg (n - (k + 1))
          case measure => have := HG.out; omega
          case rel => exact ⟨k + 1, by omega, rfl, by go_num, D5, KK⟩
    · obtain rfl : k = n := by omega
      have ki : decide ((k : Int) < (k : Int)) = false := decide_eq_false (Int.lt_irrefl _)
      have e : d.p.take k = d.p := by rw [HN.out]; exact List.take_length
      have DE := DK.out
      rw [e] at DE
      have D6 := DE.empty.fuse (-1)
      have D7 := Lib.hid D6
      have gd := (dcell DE.var.choose_spec.choose_spec.choose_spec.1)
      have gf2 := gd.2.2.2.2 2
      have gf3 := gd.2.2.2.2 3
      have gc3 := gd.2.2.2.1
      have OG := Lib.hid DE.own
      clear DE e D6 gd
      go_wp2_with fail
      go_end0
      exact ⟨rfl, D7.out.regrow HLT.out HBB.out KK.out.1.size (by rw [World.size_setCell, World.size_setCell]; exact Nat.le_refl _), (KK.out.set (grow_old OG.out) (DK.out.lt g OG.out).1 _).set (grow_old OG.out) (DK.out.lt g OG.out).1 _⟩

end Go.Proofs.Ytpdedeaejlkokaa
