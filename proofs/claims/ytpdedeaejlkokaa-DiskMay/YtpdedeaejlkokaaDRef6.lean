/-
  What the document's own functions of layer 15 answer: Read.
-/
import Derived.Test.YtpdedeaejlkokaaDRef5
namespace Go.Proofs.Ytpdedeaejlkokaa
open Go.RowKit

theorem chain_ge {w w1 : World} {o : Obj} (h : Below w.heap.size (w.alloc o) w1) : Below w.heap.size w w1 := ((Below.refl _ w).alloc (Nat.le_refl _) o).trans h
/-- Bytes of one's own, and an error, that are handed out. -/
def BTo (x : List UInt8 × Int) (w : World) (e : Ending) (w' : World) : Prop :=
  ∃ A n c, e = .returned (.tuple #[.slice A n c, .int .i64 x.2]) ∧ n = x.1.length ∧ Rg bcells w' A x.1 ∧ Below w.heap.size w w' ∧ n ≤ c ∧ (∀ a, A = some a → w.heap.size ≤ a.block) ∧ ∃ T, w'.ownsRow w.heap.size T 1 (.slice A n c) x.1.length (x.1.flatMap bcells)
theorem last_here {p : List (Nat × List UInt8)} {k : Nat} {x : Nat × List UInt8} (hk : p[k]? = some x) (hn : dkLast (p.drop (k + 1)) x.1 = none) : dkLast p x.1 = some x.2 := by
  have e : p = (p.take k ++ [x]) ++ p.drop (k + 1) := by rw [← take_get hk, List.take_append_drop]
  rw [e, last_app, hn, last_app]
  simp [dkLast]
theorem last_more {p : List (Nat × List UInt8)} {k i : Nat} {x : Nat × List UInt8} (hk : p[k]? = some x) (hx : x.1 ≠ i) (hn : dkLast (p.drop (k + 1)) i = none) : dkLast (p.drop k) i = none := by
  have hl := (List.getElem?_eq_some_iff.1 hk).1
  have hx2 : p[k] = x := by rw [List.getElem?_eq_getElem hl] at hk; exact Option.some.inj hk
  rw [List.drop_eq_getElem_cons hl, dkLast, hn, hx2]
  simp [hx]
theorem RDI.Lat {B : Nat} {O : Nat → Prop} {d : Dk} {g : Nat} {w : World} (H : RDI B O d g w) {i : Nat} (hi : i < d.l.length) :
    ∃ b c h, w.cell? ⟨g, 0, none⟩ = some (.slice (some ⟨b, 0, none⟩) d.l.length c) ∧ w.cell? ⟨b, i, none⟩ = some (.slice h.a h.n h.c) ∧ Byt w B h (d.l.getD i []) := by
  obtain ⟨lt, hg, vL, vT, vP, hl, hp, q1, q2, q3, q4, q5, q6, q7, q8, q9, q10, q11⟩ := H
  obtain ⟨b, c, rfl, _, hb⟩ := World.ownsRow.form q2 (by omega)
  obtain ⟨h, e1, hy⟩ := q3.get hi
  refine ⟨b, c, h, dcell0 q1, ?_, hy⟩
  rw [World.ownsRow.cellAt q2 i (by omega)]
  have := flat_get hcells_len hl i 0 h e1 (by decide)
  rw [Nat.mul_one, Nat.add_zero] at this
  exact this
theorem RDI.Llen {B : Nat} {O : Nat → Prop} {d : Dk} {g : Nat} {w : World} (H : RDI B O d g w) : ∃ A c, w.cell? ⟨g, 0, none⟩ = some (.slice A d.l.length c) := by
  obtain ⟨vL, vT, vP, h1, ⟨A, c, rfl⟩, _, _⟩ := H.var
  exact ⟨A, c, (dcell h1).1⟩

set_option maxHeartbeats 4000000 in
set_option maxRecDepth 100000 in
theorem rread15 (B : Nat) (O : Nat → Prop) (g m : Nat) (d : Dk) (i : Int) (w : World) (H : RDI B O d g w) (ok : DkOk m d) (hm : m ≤ 5000) (hp : d.p.length ≤ 100000) :
    Calls Try.prog 20 #[.pointer (some ⟨g, 0, none⟩), .int .i64 i] w (BTo (dkRead d i) w) := by
  have HH := Lib.hid H; have OK := Lib.hid ok
  obtain ⟨AL, cL, g0⟩ := H.Llen
  rw [ok.l] at g0
  obtain ⟨n, hn⟩ : ∃ n, n = d.p.length := ⟨_, rfl⟩
  have HN := Lib.hid hn
  have n1 : n ≤ 100000 := by omega
  clear H ok hn hp
  have GL0 := Lib.hid g0
  go_enter Try.func20, Try.ntmps20
  by_cases i0 : i < 0
  · have b2 : decide (i < 0) = true := decide_eq_true i0
    have E : Hid (dkRead d i = ([], 3)) := if_pos (in_no15 OK.out (by omega))
    clear i0
    go_wp2_with fail
    go_ret2
    rw [E.out]
    exact ⟨none, 0, 0, rfl, rfl, Rg.nil _ _ _, Below.refl _ _, Nat.le_refl _, (fun a q => by cases q), 5, World.ownsRow_nil _ _ _ _⟩
  have b2 : decide (i < 0) = false := decide_eq_false i0
  by_cases i1 : (m : Int) ≤ i
  · have b3 : decide (i ≥ (m : Int)) = true := decide_eq_true i1
    have b4 : decide ((m : Int) ≤ i) = true := decide_eq_true i1
    have E : Hid (dkRead d i = ([], 3)) := if_pos (in_no15 OK.out (by omega))
    clear i1 i0
    go_wp2_with fail
    go_ret2
    rw [E.out]
    exact ⟨none, 0, 0, rfl, rfl, Rg.nil _ _ _, Below.refl _ _, Nat.le_refl _, (fun a q => by cases q), 5, World.ownsRow_nil _ _ _ _⟩
  obtain ⟨r, rfl⟩ : ∃ r : Nat, i = r := ⟨i.toNat, by omega⟩
  have b3 : decide ((r : Int) ≥ (m : Int)) = false := decide_eq_false i1
  have b5 : decide (m ≤ r) = false := decide_eq_false (by omega)
  have rm : r < m := by omega
  have r0 : (0 : Int) ≤ (r : Int) := by omega
  have r1 : (r : Int) < (m : Int) := by omega
  have E : Hid (dkRead d (r : Int) = match dkLast d.p r with | some b => (b, 0) | none => dkAt d r) := by
    show _ = _
    unfold dkRead
    rw [if_neg (by rw [in_yes15 OK.out rm]; decide), Int.toNat_natCast]
    cases dkLast d.p r <;> rfl
  clear i0 i1
  obtain ⟨A2, c2, g2⟩ := HH.out.Plen
  rw [← HN.out] at g2
  obtain ⟨v, hv⟩ : ∃ v : Int, v = (n : Int) - 1 := ⟨_, rfl⟩
  have v1 : IntKind.i64.wrap ((n : Int) - 1) = v := by rw [hv, IntWalk.i64_in _ (by omega)]
  have v2 : wrap64 ((n : Int) - 1) = v := by rw [hv, IntWalk.wrap64_in _ (by omega)]
  have HV := Lib.hid hv
  clear hv
  go_wp2_with fail
  clear v1 v2
  go_loopg [6] n (fun gh s6 wx => ∃ (k : Nat) (v : Int), k ≤ n ∧ Hid (gh = k) ∧ Hid (v = (k : Int) - 1) ∧ s6 = .int .i64 v ∧ Hid (dkLast (d.p.drop k) r = none) ∧ Hid (wx = w))
  case atStart => exact ⟨n, v, Nat.le_refl _, rfl, HV.out, rfl, by show _ = _; rw [HN.out, List.drop_length]; rfl, rfl⟩
  case round =>
    obtain ⟨k, v, hk, HG, HVK, rfl, LK, WK⟩ := hrel
    have hw := WK.out.symm
    subst hw
    rcases k with _ | k
    · have hv : v = -1 := by have := HVK.out; omega
      subst hv
      have E1 : Hid (dkRead d (r : Int) = dkAt d r) := by
        show _ = _
        have := LK.out
        rw [List.drop_zero] at this
        rw [E.out, this]
      obtain ⟨bT, cT, g1, oT, neT, tyT, fT⟩ := HH.out.T (by rw [OK.out.t]; omega)
      rw [OK.out.t] at g1 fT
      have t1 := (fT r rm).1
      clear oT neT tyT fT
      cases ht : d.t.getD r false with
      | true =>
        rw [ht] at t1
        have E2 : Hid (dkAt d r = ([], 41)) := if_pos ht
        clear ht
        go_wp2_with fail
        go_ret2
        rw [E1.out, E2.out]
        exact ⟨none, 0, 0, rfl, rfl, Rg.nil _ _ _, Below.refl _ _, Nat.le_refl _, (fun a q => by cases q), 5, World.ownsRow_nil _ _ _ _⟩
      | false =>
        rw [ht] at t1
        have E2 : Hid (dkAt d r = (d.l.getD r [], 0)) := if_neg (by rw [ht]; decide)
        obtain ⟨bL, cL', h, z0, z1, z2⟩ := HH.out.Lat (i := r) (by rw [OK.out.l]; exact rm)
        rw [OK.out.l] at z0
        rw [GL0.out] at z0
        injection z0 with z0
        injection z0 with z0 _ z00
        subst z0 z00
        have L64 : (d.l.getD r []).length = 64 := by
          have hl := OK.out.l
          have : r < d.l.length := by omega
          rw [show d.l.getD r [] = d.l[r] by simp [List.getD_eq_getElem?_getD, this]]
          exact OK.out.b _ (List.getElem_mem this)
        have hn64 : h.n = 64 := by rw [z2.n]; exact L64
        obtain ⟨ha, hn', hc⟩ := h
        dsimp only at z1 hn64
        subst hn64
        have nw := Below.refl w.heap.size w
        obtain ⟨h5, w5, run5, y5, ba⟩ := copy_run (w := w.alloc (.cells #[] 5)) (g := w.heap.size) (n := 64) (c := hc) (heap_alloc_new w _) (z2.rg.below (nw.alloc (Nat.le_refl _) _)) L64.symm (by decide)
        have g0' := ((nw.alloc (Nat.le_refl _) (.cells #[] 5)).cell (p := ⟨g, 0, none⟩) (HH.out.lt g HH.out.own).2).trans g0
        have z1' := ((nw.alloc (Nat.le_refl _) (.cells #[] 5)).cell (p := ⟨bL, r, none⟩) (World.block_lt_of_cell? w _ z1)).trans z1
        have Y5 := Lib.hid y5; have BA := Lib.hid ba
        clear ht z2 L64 y5 ba nw
        go_wp2_with (at_builtin; refine Lib.wpList_append_run _ rfl _ _ _ _ rfl _ _ rfl rfl _ _ run5 ?_)
        go_ret2
        rw [E1.out, E2.out]
        exact ⟨h5.a, h5.n, h5.c, rfl, Y5.out.n, Y5.out.rg, chain_ge BA.out, Y5.out.c.1, (fun a q => (Y5.out.lt q).1), _, Y5.out⟩
    · have hv : v = (k : Int) := by have := HVK.out; omega
      subst hv
      have kn : k < n := by omega
      have k0 : (0 : Int) ≤ (k : Int) := by omega
      have k1 : (k : Int) < (n : Int) := by omega
      have d0 : decide ((k : Int) ≥ 0) = true := decide_eq_true k0
      have hx := List.getElem?_eq_getElem (show k < d.p.length by rw [← HN.out]; exact kn)
      obtain ⟨x, hxe⟩ : ∃ x, x = d.p[k]'(by rw [← HN.out]; exact kn) := ⟨_, rfl⟩
      rw [← hxe] at hx
      have XK := Lib.hid hx
      obtain ⟨b, c, h, z0, zb, z2, z3, z4⟩ := HH.out.P (k := k) (x := x) hx
      rw [← HN.out] at z0
      rw [g2] at z0
      injection z0 with z0
      injection z0 with z0 _ z00
      subst z0 z00
      have X2 := (OK.out.p x (List.mem_of_getElem? hx))
      have hn64 : h.n = 64 := by rw [z4.n]; exact X2.2
      obtain ⟨ha, hn', hc⟩ := h
      dsimp only at z3 hn64
      subst hn64
      have BY := Lib.hid z4
      have XX := Lib.hid X2
      clear hxe hx X2 z4
      by_cases q : x.1 = r
      · have q1 : ((x.1 : Int) == (r : Int)) = true := by simp [q]
        have E1 : Hid (dkRead d (r : Int) = (x.2, 0)) := by
          show _ = _
          rw [E.out, ← q, last_here XK.out (by rw [q]; exact LK.out)]
        have nw := Below.refl w.heap.size w
        obtain ⟨h5, w5, run5, y5, ba⟩ := copy_run (w := w.alloc (.cells #[] 5)) (g := w.heap.size) (n := 64) (c := hc) (heap_alloc_new w _) (BY.out.rg.below (nw.alloc (Nat.le_refl _) _)) XX.out.2.symm (by decide)
        have g2' := ((nw.alloc (Nat.le_refl _) (.cells #[] 5)).cell (p := ⟨g, 2, none⟩) (HH.out.lt g HH.out.own).2).trans g2
        have z3' := ((nw.alloc (Nat.le_refl _) (.cells #[] 5)).cell (p := ⟨b, k * 2 + 1, none⟩) zb).trans z3
        have Y5 := Lib.hid y5; have BA := Lib.hid ba
        obtain ⟨xi, xb⟩ := x
        dsimp only at q q1 z2
        subst q
        clear y5 ba nw
        go_wp2_with (at_builtin; refine Lib.wpList_append_run _ rfl _ _ _ _ rfl _ _ rfl rfl _ _ run5 ?_)
        go_ret2
        rw [E1.out]
        exact ⟨h5.a, h5.n, h5.c, rfl, Y5.out.n, Y5.out.rg, chain_ge BA.out, Y5.out.c.1, (fun a q => (Y5.out.lt q).1), _, Y5.out⟩
      · have q1 : ((x.1 : Int) == (r : Int)) = false := by simp; omega
        have LM : Hid (dkLast (d.p.drop k) r = none) := last_more XK.out q LK.out
        have q2 : ((x.1 : Int) = (r : Int)) = False := by simp; omega
        obtain ⟨y, hy⟩ : ∃ y : Int, y = (k : Int) - 1 := ⟨_, rfl⟩
        have HY := Lib.hid hy
        have v1 : IntKind.i64.wrap ((k : Int) - 1) = y := by rw [hy, IntWalk.i64_in _ (by omega)]
        have v2 : wrap64 ((k : Int) - 1) = y := by rw [hy, IntWalk.wrap64_in _ (by omega)]
        obtain ⟨xi, xb⟩ := x
        dsimp only at q q1 q2 z2
        clear hy q q2
        go_wp2_with fail
        go_roundg k
        case measure => have := HG.out; omega
        case rel => exact ⟨k, y, by clear v1 v2; omega, rfl, HY.out, rfl, LM, rfl⟩

end Go.Proofs.Ytpdedeaejlkokaa
