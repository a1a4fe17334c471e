/-
  The document's disk in memory.
-/
import Derived.Test.YtpdedeaejlkokaaDOwn
namespace Go.Proofs.Ytpdedeaejlkokaa
open Go.RowKit

/-- The document's disk d, behind block g. -/
structure RDI (B : Nat) (O : Nat → Prop) (d : Dk) (g : Nat) (w : World) : Prop where
  lt : ∀ b, O b → B ≤ b ∧ b < w.heap.size
  own : O g
  m : ∃ (vL vT vP : Value) (hl : List Hd) (hp : List (Nat × Hd)),
    w.heap[g]? = some (.cells #[vL, vT, vP, .int .i64 d.f] 61 (0, 0)) ∧
    w.ownsRow B 31 1 vL d.l.length (hl.flatMap hcells) ∧ Bys w B hl d.l ∧
    w.ownsRow B 4 1 vT d.t.length (d.t.flatMap qcells) ∧
    w.ownsRow B 72 2 vP d.p.length (hp.flatMap pcells) ∧ Wrs w B hp d.p ∧
    (∀ b, vL.ownBlock = some b → O b) ∧ (∀ b, vT.ownBlock = some b → O b) ∧ (∀ b, vP.ownBlock = some b → O b) ∧
    (∀ h ∈ hl, ∀ a, h.a = some a → O a.block) ∧ (∀ x ∈ hp, ∀ a, x.2.a = some a → O a.block)
theorem RDI.stay {B : Nat} {O : Nat → Prop} {d : Dk} {g : Nat} {w w' : World} (H : RDI B O d g w) (hs : w.heap.size ≤ w'.heap.size) (hb : ∀ b, O b → w'.heap[b]? = w.heap[b]?) : RDI B O d g w' := by
  obtain ⟨lt, hg, vL, vT, vP, hl, hp, h1, h2, h3, h4, h5, h6, h7, h8, h9, h10, h11⟩ := H
  exact ⟨fun b q => ⟨(lt b q).1, Nat.lt_of_lt_of_le (lt b q).2 hs⟩, hg, vL, vT, vP, hl, hp, (hb g hg).trans h1, own_stay h2 fun b q => hb b (h7 b q), h3.stay fun h q a e => hb _ (h10 h q a e), own_stay h4 fun b q => hb b (h8 b q), own_stay h5 fun b q => hb b (h9 b q), h6.stay fun x q a e => hb _ (h11 x q a e), h7, h8, h9, h10, h11⟩
theorem RDI.below {B : Nat} {O : Nat → Prop} {d : Dk} {g : Nat} {w w' : World} (H : RDI B O d g w) (hb : Below w.heap.size w w') : RDI B O d g w' := H.stay hb.size fun b q => hb.block b (H.lt b q).2
theorem RDI.kept {B B' : Nat} {O O' : Nat → Prop} {d : Dk} {g : Nat} {w w' : World} (H : RDI B O d g w) (hk : Kept B' O' w w') (ho : ∀ b, O b → ¬ O' b) : RDI B O d g w' := H.stay hk.1.size fun b q => hk.2 b (H.lt b q).2 (ho b q)
theorem RDI.grow {B : Nat} {O O' : Nat → Prop} {d : Dk} {g : Nat} {w : World} (H : RDI B O d g w) (h1 : ∀ b, O b → O' b) (h2 : ∀ b, O' b → B ≤ b ∧ b < w.heap.size) : RDI B O' d g w := by
  obtain ⟨lt, hg, vL, vT, vP, hl, hp, q1, q2, q3, q4, q5, q6, h7, h8, h9, h10, h11⟩ := H
  exact ⟨h2, h1 g hg, vL, vT, vP, hl, hp, q1, q2, q3, q4, q5, q6, fun b q => h1 _ (h7 b q), fun b q => h1 _ (h8 b q), fun b q => h1 _ (h9 b q), fun h q a e => h1 _ (h10 h q a e), fun x q a e => h1 _ (h11 x q a e)⟩
theorem RDI.grown {B : Nat} {O : Nat → Prop} {d : Dk} {g : Nat} {w w' : World} (H : RDI B O d g w') (h1 : ∀ b, O b → B ≤ b ∧ b < w.heap.size) (h2 : B ≤ w.heap.size) : RDI B (Grow O w w') d g w' :=
  H.grow (grow_start O w w') fun b q => by
    rcases q with q | q
    · exact ⟨(h1 b q).1, (H.lt b q).2⟩
    · exact ⟨by omega, q.2⟩
theorem dcell0 {w : World} {g : Nat} {vL vT vP : Value} {f : Int} (h1 : w.heap[g]? = some (.cells #[vL, vT, vP, .int .i64 f] 61 (0, 0))) : w.cell? ⟨g, 0, none⟩ = some vL := by rw [Lib.cell_of_heap h1]; rfl
theorem dcell1 {w : World} {g : Nat} {vL vT vP : Value} {f : Int} (h1 : w.heap[g]? = some (.cells #[vL, vT, vP, .int .i64 f] 61 (0, 0))) : w.cell? ⟨g, 1, none⟩ = some vT := by rw [Lib.cell_of_heap h1]; rfl
theorem dcell2 {w : World} {g : Nat} {vL vT vP : Value} {f : Int} (h1 : w.heap[g]? = some (.cells #[vL, vT, vP, .int .i64 f] 61 (0, 0))) : w.cell? ⟨g, 2, none⟩ = some vP := by rw [Lib.cell_of_heap h1]; rfl
theorem RDI.regrow {B : Nat} {O : Nat → Prop} {d : Dk} {g : Nat} {w w1 w' : World} (H : RDI B (Grow O w w1) d g w') (h1 : ∀ b, O b → B ≤ b ∧ b < w.heap.size) (h2 : B ≤ w.heap.size) (h3 : w.heap.size ≤ w1.heap.size) (h4 : w1.heap.size ≤ w'.heap.size) : RDI B (Grow O w w') d g w' :=
  H.grow (fun b q => q.elim Or.inl fun q => Or.inr ⟨q.1, by omega⟩) fun b q => by
    rcases q with q | q
    · exact ⟨(h1 b q).1, by have := (h1 b q).2; omega⟩
    · exact ⟨by omega, q.2⟩
/-- With another fuse. -/
theorem RDI.fuse {B : Nat} {O : Nat → Prop} {d : Dk} {g : Nat} {w : World} (H : RDI B O d g w) (f : Int) : RDI B O { d with f := f } g (w.setCell ⟨g, 3, none⟩ (.int .i64 f)) := by
  obtain ⟨lt, hg, vL, vT, vP, hl, hp, h1, h2, h3, h4, h5, h6, h7, h8, h9, h10, h11⟩ := H
  have ne : ∀ b, b ≠ g → (w.setCell ⟨g, 3, none⟩ (.int .i64 f)).heap[b]? = w.heap[b]? := fun b hn => Below.heap_setCell _ _ _ _ hn
  have hB : ∀ {h : Hd} {l : List UInt8}, Byt w B h l → ∀ a, h.a = some a → a.block ≠ g := fun H a ha e => by
    obtain ⟨cs, z⟩ := own_type H (b := a.block) (by simp [Value.ownBlock, ha])
    rw [e, h1] at z
    injection z with z
    injection z with _ z _
    exact absurd z (by decide)
  refine ⟨fun b q => ⟨(lt b q).1, by rw [World.size_setCell]; exact (lt b q).2⟩, hg, vL, vT, vP, hl, hp, Lib.heap_setCell_same h1 _, own_apart h2 h1 (by decide) ne, ?_, own_apart h4 h1 (by decide) ne, own_apart h5 h1 (by decide) ne, ?_, h7, h8, h9, h10, h11⟩
  · exact ⟨h3.1, fun i h l e1 e2 => (h3.2 i h l e1 e2).stay fun a ha => ne _ (hB (h3.2 i h l e1 e2) a ha)⟩
  · exact ⟨h6.1, fun i x y e1 e2 => ⟨(h6.2 i x y e1 e2).1, (h6.2 i x y e1 e2).2.stay fun a ha => ne _ (hB (h6.2 i x y e1 e2).2 a ha)⟩⟩
/-- With no write pending. -/
theorem RDI.empty {B : Nat} {O : Nat → Prop} {d : Dk} {g : Nat} {w : World} (H : RDI B O d g w) : RDI B O { d with p := [] } g (w.setCell ⟨g, 2, none⟩ (.slice none 0 0)) := by
  obtain ⟨lt, hg, vL, vT, vP, hl, hp, h1, h2, h3, h4, h5, h6, h7, h8, h9, h10, h11⟩ := H
  have ne : ∀ b, b ≠ g → (w.setCell ⟨g, 2, none⟩ (.slice none 0 0)).heap[b]? = w.heap[b]? := fun b hn => Below.heap_setCell _ _ _ _ hn
  have hB : ∀ {h : Hd} {l : List UInt8}, Byt w B h l → ∀ a, h.a = some a → a.block ≠ g := fun H a ha e => by
    obtain ⟨cs, z⟩ := own_type H (b := a.block) (by simp [Value.ownBlock, ha])
    rw [e, h1] at z
    injection z with z
    injection z with _ z _
    exact absurd z (by decide)
  refine ⟨fun b q => ⟨(lt b q).1, by rw [World.size_setCell]; exact (lt b q).2⟩, hg, vL, vT, .slice none 0 0, hl, [], Lib.heap_setCell_same h1 _, own_apart h2 h1 (by decide) ne, ?_, own_apart h4 h1 (by decide) ne, World.ownsRow_nil _ _ _ _, Wrs.nil _ _, h7, h8, fun b q => by simp [Value.ownBlock] at q, h10, fun x q => by simp at q⟩
  exact ⟨h3.1, fun i h l e1 e2 => (h3.2 i h l e1 e2).stay fun a ha => ne _ (hB (h3.2 i h l e1 e2) a ha)⟩
theorem slice_some {v : Value} {b n c : Nat} (h : v = .slice (some ⟨b, 0, none⟩) n c) : v.ownBlock = some b := by rw [h]; rfl
/-- With other bytes in a sector. -/
theorem RDI.setL {B : Nat} {O O' : Nat → Prop} {d : Dk} {g : Nat} {w : World} (H : RDI B O d g w) {b n c i : Nat} (hc : w.cell? ⟨g, 0, none⟩ = some (.slice (some ⟨b, 0, none⟩) n c)) {h : Hd} {l : List UInt8} (hb : Byt w B h l)
    (h1 : ∀ b, O b → O' b) (h2 : ∀ b, O' b → B ≤ b ∧ b < w.heap.size) (h3 : ∀ a, h.a = some a → O' a.block) : RDI B O' { d with l := d.l.set i l } g (w.setCell ⟨b, i, none⟩ (.slice h.a h.n h.c)) ∧ O b := by
  obtain ⟨lt, hg, vL, vT, vP, hl, hp, q1, q2, q3, q4, q5, q6, q7, q8, q9, q10, q11⟩ := H
  have hv := (dcell0 q1).symm.trans hc
  obtain rfl := Option.some.inj hv
  obtain ⟨cs, hty⟩ := own_type q2 (b := b) rfl
  have ne : ∀ k, k ≠ b → (w.setCell ⟨b, i, none⟩ (.slice h.a h.n h.c)).heap[k]? = w.heap[k]? := fun k hn => Below.heap_setCell _ _ _ _ hn
  have hB : ∀ {h : Hd} {l : List UInt8}, Byt w B h l → ∀ a, h.a = some a → a.block ≠ b := fun H a ha e => by
    obtain ⟨cs, z⟩ := own_type H (b := a.block) (by simp [Value.ownBlock, ha])
    rw [e, hty] at z
    injection z with z
    injection z with _ z _
    exact absurd z (by decide)
  have gb : g ≠ b := fun e => by
    rw [e, hty] at q1
    injection q1 with z
    injection z with _ z _
    exact absurd z (by decide)
  have hn : n = d.l.length := by
    obtain ⟨A, cc, e, _⟩ := own_rg hcells_len (by decide) q2
    injection e
  subst hn
  have st := (World.ownsRow.stored q2 i (.slice h.a h.n h.c)).1
  rw [← flat_set (f := hcells) (fun x => ⟨_, rfl⟩) hl i h _ rfl] at st
  refine ⟨⟨fun b q => ⟨(h2 b q).1, by rw [World.size_setCell]; exact (h2 b q).2⟩, h1 g hg, _, vT, vP, hl.set i h, hp, (ne g gb).trans q1, by simpa using st, ?_, own_apart q4 hty (by decide) ne, own_apart q5 hty (by decide) ne, ?_, fun b q => h1 _ (q7 b q), fun b q => h1 _ (q8 b q), fun b q => h1 _ (q9 b q), fun x q a e => ?_, fun x q a e => h1 _ (q11 x q a e)⟩, q7 b rfl⟩
  · have : Bys w B (hl.set i h) (d.l.set i l) := q3.set i hb
    exact ⟨this.1, fun j h' l' e1 e2 => (this.2 j h' l' e1 e2).stay fun a ha => ne _ (hB (this.2 j h' l' e1 e2) a ha)⟩
  · exact ⟨q6.1, fun j x y e1 e2 => ⟨(q6.2 j x y e1 e2).1, (q6.2 j x y e1 e2).2.stay fun a ha => ne _ (hB (q6.2 j x y e1 e2).2 a ha)⟩⟩
  · rcases List.mem_or_eq_of_mem_set q with q | q
    · exact h1 _ (q10 x q a e)
    · rw [q] at e; exact h3 a e
/-- With another mark at a sector. -/
theorem RDI.setT {B : Nat} {O : Nat → Prop} {d : Dk} {g : Nat} {w : World} (H : RDI B O d g w) {b n c : Nat} (i : Nat) (t : Bool) (hc : w.cell? ⟨g, 1, none⟩ = some (.slice (some ⟨b, 0, none⟩) n c)) : RDI B O { d with t := d.t.set i t } g (w.setCell ⟨b, i, none⟩ (.bool t)) ∧ O b := by
  obtain ⟨lt, hg, vL, vT, vP, hl, hp, q1, q2, q3, q4, q5, q6, q7, q8, q9, q10, q11⟩ := H
  have hv := (dcell1 q1).symm.trans hc
  obtain rfl := Option.some.inj hv
  obtain ⟨cs, hty⟩ := own_type q4 (b := b) rfl
  have ne : ∀ k, k ≠ b → (w.setCell ⟨b, i, none⟩ (.bool t)).heap[k]? = w.heap[k]? := fun k hn => Below.heap_setCell _ _ _ _ hn
  have hB : ∀ {h : Hd} {l : List UInt8}, Byt w B h l → ∀ a, h.a = some a → a.block ≠ b := fun H a ha e => by
    obtain ⟨cs, z⟩ := own_type H (b := a.block) (by simp [Value.ownBlock, ha])
    rw [e, hty] at z
    injection z with z
    injection z with _ z _
    exact absurd z (by decide)
  have gb : g ≠ b := fun e => by
    rw [e, hty] at q1
    injection q1 with z
    injection z with _ z _
    exact absurd z (by decide)
  have hn : n = d.t.length := by
    obtain ⟨A, cc, e, _⟩ := own_rg qcells_len (by decide) q4
    injection e
  subst hn
  have st := (World.ownsRow.stored q4 i (.bool t)).1
  rw [← flat_set (f := qcells) (fun x => ⟨_, rfl⟩) d.t i t _ rfl] at st
  refine ⟨⟨fun b q => ⟨(lt b q).1, by rw [World.size_setCell]; exact (lt b q).2⟩, hg, vL, _, vP, hl, hp, (ne g gb).trans q1, own_apart q2 hty (by decide) ne, ?_, by simpa using st, own_apart q5 hty (by decide) ne, ?_, q7, q8, q9, q10, q11⟩, q8 b rfl⟩
  · exact ⟨q3.1, fun j h' l' e1 e2 => (q3.2 j h' l' e1 e2).stay fun a ha => ne _ (hB (q3.2 j h' l' e1 e2) a ha)⟩
  · exact ⟨q6.1, fun j x y e1 e2 => ⟨(q6.2 j x y e1 e2).1, (q6.2 j x y e1 e2).2.stay fun a ha => ne _ (hB (q6.2 j x y e1 e2).2 a ha)⟩⟩
/-- The cells of a disk's variable. -/
theorem RDI.var {B : Nat} {O : Nat → Prop} {d : Dk} {g : Nat} {w : World} (H : RDI B O d g w) :
    ∃ (vL vT vP : Value), w.heap[g]? = some (.cells #[vL, vT, vP, .int .i64 d.f] 61 (0, 0)) ∧ (∃ A c, vL = .slice A d.l.length c) ∧ (∃ A c, vT = .slice A d.t.length c ∧ Rg qcells w A d.t) ∧ (∃ A c, vP = .slice A d.p.length c) := by
  obtain ⟨lt, hg, vL, vT, vP, hl, hp, h1, h2, h3, h4, h5, h6, h7, h8, h9, h10, h11⟩ := H
  refine ⟨vL, vT, vP, h1, ?_, ?_, ?_⟩
  · obtain ⟨A, c, e, _⟩ := own_rg hcells_len (by decide) h2
    exact ⟨A, c, e⟩
  · obtain ⟨A, c, e, _, hr⟩ := own_rg qcells_len (by decide) h4
    exact ⟨A, c, e, hr⟩
  · obtain ⟨A, c, e, _⟩ := own_rg pcells_len (by decide) h5
    exact ⟨A, c, e⟩
theorem dcell {w : World} {g : Nat} {vL vT vP : Value} {f : Int} (h1 : w.heap[g]? = some (.cells #[vL, vT, vP, .int .i64 f] 61 (0, 0))) :
    w.cell? ⟨g, 0, none⟩ = some vL ∧ w.cell? ⟨g, 1, none⟩ = some vT ∧ w.cell? ⟨g, 2, none⟩ = some vP ∧ w.cell? ⟨g, 3, none⟩ = some (.int .i64 f) ∧ ∀ j, w.frozen? ⟨g, j, none⟩ = false := by
  refine ⟨?_, ?_, ?_, ?_, fun j => Lib.frozen_of_heap h1 j⟩ <;> (rw [Lib.cell_of_heap h1]; rfl)
/-- A call that answers, and has done something with its disk. -/
def RTo (B : Nat) (O : Nat → Prop) (g : Nat) (d : Dk) (v : Value) (w : World) (e : Ending) (w' : World) : Prop :=
  e = .returned v ∧ RDI B (Grow O w w') d g w' ∧ Kept B O w w'

/-- What a disk is behind a call. -/
def dkCall (d : Dk) : Dk := if d.f = 0 then d else dkTick d
def dkOn (d : Dk) : Bool := !decide (d.f = 0)
theorem on_no {d : Dk} (h : d.f = 0) : dkOn d = false ∧ dkCall d = d := ⟨by simp [dkOn, h], if_pos h⟩
theorem on_yes {d : Dk} (h : ¬ d.f = 0) : dkOn d = true ∧ dkCall d = dkTick d := ⟨by simp [dkOn, h], if_neg h⟩

set_option maxHeartbeats 1000000 in
theorem rcall15 (B : Nat) (O : Nat → Prop) (g : Nat) (d : Dk) (w : World) (H : RDI B O d g w) (hf : -1 ≤ d.f ∧ d.f ≤ 9223372036854775807) :
    Calls Try.prog 40 #[.pointer (some ⟨g, 0, none⟩)] w fun e w' => e = .returned (.bool (dkOn d)) ∧ RDI B O (dkCall d) g w' ∧ Kept B O w w' ∧ w'.heap.size = w.heap.size := by
  obtain ⟨vL, vT, vP, h1, z1, z2, z3⟩ := H.var
  obtain ⟨c0, c1, c2, c3, fr⟩ := dcell h1
  have f3 := fr 3
  have HH := Lib.hid H
  have HB : Hid (B ≤ g) := (H.lt g H.own).1
  clear H h1 fr c0 c1 c2 z1 z2 z3
  obtain ⟨f, hfe⟩ : ∃ f, f = d.f := ⟨_, rfl⟩
  rw [← hfe] at c3 hf
  have HF := Lib.hid hfe
  clear hfe
  by_cases z : f = 0
  · obtain ⟨e1, e2⟩ := on_no (d := d) (HF.out.symm.trans z)
    rw [e1, e2]
    have b0 : (f == 0) = true := by simp [z]
    subst z
    go_enter Try.func40, Try.ntmps40
    go_wp2_with fail
    go_ret
    exact ⟨rfl, HH.out, Kept.refl _ _ _, rfl⟩
  · obtain ⟨e1, e2⟩ := on_yes (d := d) (fun q => z (HF.out.trans q))
    rw [e1, e2]
    have b0 : (f == 0) = false := by simpa using z
    by_cases p : 0 < f
    · have d1 : decide (f > 0) = true := decide_eq_true p
      have d2 : decide (0 < f) = true := decide_eq_true p
      have E : Hid (dkTick d = { d with f := f - 1 }) := by
        show _ = _
        unfold dkTick
        rw [← HF.out, if_pos p]
      have v1 : IntKind.i64.wrap (f - 1) = f - 1 := IntWalk.i64_in _ (by omega)
      have v2 : wrap64 (f - 1) = f - 1 := IntWalk.wrap64_in _ (by omega)
      obtain ⟨m, hm⟩ : ∃ m, m = f - 1 := ⟨_, rfl⟩
      rw [← hm] at v1 v2 E
      have v1 : IntKind.i64.wrap (f - 1) = m := by rw [hm] at v1 ⊢; exact v1
      have v2 : wrap64 (f - 1) = m := by rw [hm] at v2 ⊢; exact v2
      clear z p hf hm e1 e2
      go_enter Try.func40, Try.ntmps40
      go_wp2_with fail
      go_ret
      exact ⟨rfl, by rw [E.out]; exact HH.out.fuse _, (Kept.refl B O w).set (Or.inl HH.out.own) HB.out _, World.size_setCell _ _ _⟩
    · have d1 : decide (f > 0) = false := decide_eq_false p
      have d2 : decide (0 < f) = false := decide_eq_false p
      have E : Hid (dkTick d = d) := by
        show _ = _
        unfold dkTick
        rw [← HF.out, if_neg p]
      clear z p hf e1 e2
      go_enter Try.func40, Try.ntmps40
      go_wp2_with fail
      go_ret
      exact ⟨rfl, by rw [E.out]; exact HH.out, Kept.refl _ _ _, rfl⟩

set_option maxHeartbeats 1000000 in
theorem rpend15 (B : Nat) (O : Nat → Prop) (g : Nat) (d : Dk) (w : World) (H : RDI B O d g w) :
    Calls Try.prog 17 #[.pointer (some ⟨g, 0, none⟩)] w fun e w' => e = .returned (.int .i64 (d.p.length : Int)) ∧ w = w' := by
  obtain ⟨vL, vT, vP, h1, z1, z2, A, c, rfl⟩ := H.var
  obtain ⟨c0, c1, c2, c3, fr⟩ := dcell h1
  clear H h1 fr c0 c1 c3 z1 z2
  obtain ⟨n, hn⟩ : ∃ n, n = d.p.length := ⟨_, rfl⟩
  rw [← hn] at c2 ⊢
  clear hn
  go_enter Try.func17, Try.ntmps17
  go_wp2_with fail
  go_ret
  exact ⟨rfl, rfl⟩

set_option maxHeartbeats 1000000 in
theorem rfuse15 (B : Nat) (O : Nat → Prop) (g : Nat) (d : Dk) (k : Int) (w : World) (H : RDI B O d g w) :
    Calls Try.prog 28 #[.pointer (some ⟨g, 0, none⟩), .int .i64 k] w (RTo B O g (dkFuse d k) (.tuple #[]) w) := by
  obtain ⟨vL, vT, vP, h1, z1, z2, z3⟩ := H.var
  obtain ⟨c0, c1, c2, c3, fr⟩ := dcell h1
  have f3 := fr 3
  have HH := Lib.hid H
  have HB : Hid (B ≤ g) := (H.lt g H.own).1
  clear H h1 fr c0 c1 c2 z1 z2 z3
  obtain ⟨m, hm⟩ : ∃ m, m = max k (-1) := ⟨_, rfl⟩
  have HM := Lib.hid hm
  have E : Hid (dkFuse d k = { d with f := m }) := by show _ = _; unfold dkFuse; rw [hm]
  have lt := Lib.hid HH.out.lt
  by_cases q : k < -1
  · have d1 : decide (k < -1) = true := decide_eq_true q
    have d2 : decide (-1 > k) = true := decide_eq_true (by omega)
    have hm1 : max k (-1) = m := hm.symm
    clear hm
    go_enter Try.func28, Try.ntmps28
    go_wp2_with fail
    go_end0
    exact ⟨rfl, by rw [E.out, show m = -1 by rw [HM.out]; omega]; exact (HH.out.fuse (-1)).grown lt.out (Nat.le_of_lt (Nat.lt_of_le_of_lt HB.out (lt.out g HH.out.own).2)), (Kept.refl B O w).set (Or.inl HH.out.own) HB.out _⟩
  · have d1 : decide (k < -1) = false := decide_eq_false q
    have d2 : decide (-1 > k) = false := decide_eq_false (by omega)
    have hm1 : max k (-1) = m := hm.symm
    have mk : m = k := by omega
    have MK := Lib.hid mk
    clear hm mk hm1
    go_enter Try.func28, Try.ntmps28
    go_wp2_with fail
    go_end0
    exact ⟨rfl, by rw [E.out, MK.out]; exact (HH.out.fuse k).grown lt.out (Nat.le_of_lt (Nat.lt_of_le_of_lt HB.out (lt.out g HH.out.own).2)), (Kept.refl B O w).set (Or.inl HH.out.own) HB.out _⟩

end Go.Proofs.Ytpdedeaejlkokaa
