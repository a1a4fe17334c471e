/-
  What the document's own functions of layer 15 answer: Sync, Crash.
-/
import Derived.Test.YtpdedeaejlkokaaDRef3
import Derived.Deep.LoopGhost
namespace Go.Proofs.Ytpdedeaejlkokaa
open Go.RowKit

theorem RDI.P {B : Nat} {O : Nat → Prop} {d : Dk} {g : Nat} {w : World} (H : RDI B O d g w) {k : Nat} {x : Nat × List UInt8} (hk : d.p[k]? = some x) :
    ∃ b c h, w.cell? ⟨g, 2, none⟩ = some (.slice (some ⟨b, 0, none⟩) d.p.length c) ∧ b < w.heap.size ∧ w.cell? ⟨b, k * 2, none⟩ = some (.int .i64 (x.1 : Int)) ∧ w.cell? ⟨b, k * 2 + 1, none⟩ = some (.slice h.a h.n h.c) ∧ Byt w B h x.2 := by
  obtain ⟨lt, hg, vL, vT, vP, hl, hp, q1, q2, q3, q4, q5, q6, q7, q8, q9, q10, q11⟩ := H
  have hkl := (List.getElem?_eq_some_iff.1 hk).1
  obtain ⟨b, c, rfl, _, hb⟩ := World.ownsRow.form q5 (by omega)
  obtain ⟨h, e1, hy⟩ := q6.get hk
  refine ⟨b, c, h, dcell2 q1, hb, ?_, ?_, hy⟩
  · rw [World.ownsRow.cellAt q5 (k * 2) (by omega)]
    have := flat_get pcells_len hp k 0 _ e1 (by decide)
    rw [Nat.add_zero] at this
    exact this
  · rw [World.ownsRow.cellAt q5 (k * 2 + 1) (by omega)]
    exact flat_get pcells_len hp k 1 _ e1 (by decide)
theorem RDI.Plen {B : Nat} {O : Nat → Prop} {d : Dk} {g : Nat} {w : World} (H : RDI B O d g w) : ∃ A c, w.cell? ⟨g, 2, none⟩ = some (.slice A d.p.length c) := by
  obtain ⟨vL, vT, vP, h1, _, _, A, c, rfl⟩ := H.var
  exact ⟨A, c, dcell2 h1⟩
theorem lays_p (p : List (Nat × List UInt8)) : ∀ d : Dk, (p.foldl dkLay d).p = d.p ∧ (p.foldl dkLay d).l.length = d.l.length ∧ (p.foldl dkLay d).t.length = d.t.length ∧ (p.foldl dkLay d).f = d.f := by
  induction p with
  | nil => exact fun d => ⟨rfl, rfl, rfl, rfl⟩
  | cons x p ih =>
    intro d
    obtain ⟨a, b, c, e⟩ := ih (dkLay d x)
    exact ⟨a, by rw [List.foldl_cons, b]; simp [dkLay], by rw [List.foldl_cons, c]; simp [dkLay], e⟩
theorem lays_next {p : List (Nat × List UInt8)} {k : Nat} {x : Nat × List UInt8} (hk : p[k]? = some x) (d : Dk) : (p.take (k + 1)).foldl dkLay d = dkLay ((p.take k).foldl dkLay d) x := by
  rw [take_get hk, List.foldl_append]; rfl

set_option maxHeartbeats 4000000 in
set_option maxRecDepth 100000 in
theorem rsync15 (B : Nat) (O : Nat → Prop) (g m : Nat) (d : Dk) (w : World) (H : RDI B O d g w) (hB : B ≤ w.heap.size) (ok : DkOk m d) (hm : m ≤ 5000) (hp : d.p.length ≤ 100000) (hf : d.f ≤ 9223372036854775807) :
    Calls Try.prog 27 #[.pointer (some ⟨g, 0, none⟩)] w (RTo B O g (dkSync d).1 (.int .i64 (dkSync d).2) w) := by
  have HH := Lib.hid H; have HLT := Lib.hid H.lt; have HBB := Lib.hid hB; have OK := Lib.hid ok
  have HF : Hid (-1 ≤ d.f ∧ d.f ≤ 9223372036854775807) := ⟨ok.f, hf⟩
  obtain ⟨n, hn⟩ : ∃ n, n = d.p.length := ⟨_, rfl⟩
  have HN := Lib.hid hn
  have n1 : n ≤ 100000 := by omega
  clear H hB ok hf hn hp
  go_enter Try.func27, Try.ntmps27
  go_wp2_with fail
  refine (rcall15 B O g d _ HH.out HF.out).mono ?_
  rintro e w1 ⟨rfl, h1, h2, h3⟩
  have D1 := Lib.hid h1; have K1 := Lib.hid h2; have S1 := Lib.hid h3
  clear h1 h2 h3
  by_cases f0 : d.f = 0
  · obtain ⟨e1, e2⟩ := on_no f0
    rw [e1]
    rw [e2] at D1
    have E : Hid (dkSync d = (d, 42)) := if_pos f0
    clear e1 e2 f0
    go_wp2_with fail
    go_ret
    rw [E.out]
    exact ⟨rfl, D1.out.grown HLT.out HBB.out, K1.out⟩
  obtain ⟨e1, e2⟩ := on_yes f0
  rw [e1]
  rw [e2] at D1
  have E : Hid (dkSync d = ({ d.p.foldl dkLay (dkTick d) with p := [] }, 0)) := if_neg f0
  clear e1 e2 f0
  have D0 : Hid (RDI B (Grow O w w1) ((d.p.take 0).foldl dkLay (dkTick d)) g w1) := D1.out.grown HLT.out HBB.out
  go_wp2_with fail
  go_loopg [3] n (fun gh s3 wx => ∃ k : Nat, k ≤ n ∧ Hid (gh = n - k) ∧ s3 = .int .i64 (k : Int) ∧ Hid (RDI B (Grow O w wx) ((d.p.take k).foldl dkLay (dkTick d)) g wx) ∧ Hid (Kept B O w wx))
  case atStart => exact ⟨0, by omega, by show _ = _; omega, rfl, D0, K1⟩
  case round =>
    obtain ⟨k, hk, HG, rfl, DK, KK⟩ := hrel
    obtain ⟨A2, c2, g2⟩ := DK.out.Plen
    rw [(lays_p _ _).1, tick_p, ← HN.out] at g2
    by_cases kn : k < n
    · have ki : (k : Int) < (n : Int) := by omega
      have k0 : (0 : Int) ≤ (k : Int) := by omega
      have hx := List.getElem?_eq_getElem (show k < d.p.length by rw [← HN.out]; exact kn)
      obtain ⟨x, hxe⟩ : ∃ x, x = d.p[k]'(by rw [← HN.out]; exact kn) := ⟨_, rfl⟩
      rw [← hxe] at hx
      have XK := Lib.hid hx
      obtain ⟨b, c, h, z0, z1, z2, z3, z4⟩ := DK.out.P (k := k) (x := x) (by rw [(lays_p _ _).1, tick_p]; exact hx)
      rw [(lays_p _ _).1, tick_p, ← HN.out] at z0
      rw [g2] at z0
      injection z0 with z0
      injection z0 with z0 _ z00
      subst z0 z00
      have X2 := (OK.out.p x (List.mem_of_getElem? hx))
      have hn64 : h.n = 64 := by rw [z4.n]; exact X2.2
      obtain ⟨ha, hn', hc⟩ := h
      dsimp only at z3 hn64
      subst hn64
      have BY := Lib.hid z4
      have XX := Lib.hid X2
      obtain ⟨xi, xb⟩ := x
      dsimp only at z2
      have hll : ((d.p.take k).foldl dkLay (dkTick d)).l.length = m := by rw [(lays_p _ _).2.1, tick_l]; exact OK.out.l
      have htl : ((d.p.take k).foldl dkLay (dkTick d)).t.length = m := by rw [(lays_p _ _).2.2.1, tick_t]; exact OK.out.t
      have HLL := Lib.hid hll; have HTL := Lib.hid htl
      clear hxe hx X2 z4 hll htl
      go_wp2_with fail
      refine (rlaid15 B (Grow O w wr) g _ xi ha 64 hc xb _ DK.out (Nat.le_trans HBB.out KK.out.1.size) (by rw [HLL.out]; exact XX.out.1) (by rw [HTL.out]; exact XX.out.1) BY.out.rg XX.out.2.symm (by decide) (by rw [HLL.out, HTL.out]; exact ⟨hm, hm⟩)).mono ?_
      rintro e w5 ⟨rfl, h1, h2⟩
      have D5 : Hid (RDI B (Grow O w w5) ((d.p.take (k + 1)).foldl dkLay (dkTick d)) g w5) := by
        show RDI _ _ _ _ _
        rw [lays_next XK.out]
        exact h1.regrow2 HLT.out HBB.out KK.out.1.size h2.1.size (Nat.le_refl _)
      have K5 : Hid (Kept B O w w5) := KK.out.next h2 fun b q => grow_old q
      clear h1 h2 g2 z1 z2 z3
      go_wp2_with fail
      go_roundg (n - (k + 1))
      case measure => have := HG.out; omega
      case rel => exact ⟨k + 1, by omega, rfl, by go_num, D5, K5⟩
    · obtain rfl : k = n := by omega
      have ki : decide ((k : Int) < (k : Int)) = false := decide_eq_false (Int.lt_irrefl _)
      have e : d.p.take k = d.p := by rw [HN.out]; exact List.take_length
      have DE := DK.out
      rw [e] at DE
      have D6 := Lib.hid DE.empty
      have gf := (dcell DE.var.choose_spec.choose_spec.choose_spec.1).2.2.2.2 2
      have OG := Lib.hid DE.own
      clear DE e
      go_wp2_with fail
      go_ret
      rw [E.out]
      exact ⟨rfl, D6.out.regrow HLT.out HBB.out KK.out.1.size (by rw [World.size_setCell]; exact Nat.le_refl _), KK.out.set (grow_old OG.out) (DK.out.lt g OG.out).1 _⟩

end Go.Proofs.Ytpdedeaejlkokaa
