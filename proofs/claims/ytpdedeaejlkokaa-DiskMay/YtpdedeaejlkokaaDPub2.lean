/-
  A disk of package disk in memory: what stays of it, and what is laid in it.
-/
import Derived.Test.YtpdedeaejlkokaaDPub1
namespace Go.Proofs.Ytpdedeaejlkokaa
open Go.RowKit

/-- The disk d of package disk, behind block g; its pending writes are the slice vP. -/
structure DP (B : Nat) (O : Nat → Prop) (d : Dk) (g : Nat) (vP : Value) (w : World) : Prop where
  lt : ∀ b, O b → B ≤ b ∧ b < w.heap.size
  own : O g
  ok : ∃ n, DkOk n d ∧ n ≤ 5000
  m : ∃ (vL : Value) (mb : Nat),
    w.heap[g]? = some (.cells #[vL, vP, .map (some mb), .int .i64 d.f] 57 (0, 0)) ∧
    w.ownsRow B 67 64 vL d.l.length (d.l.flatMap scells) ∧
    w.ownsRow B 69 65 vP d.p.length (d.p.flatMap wcells) ∧ TM w mb d.t ∧
    (∀ b, vL.ownBlock = some b → O b) ∧ (∀ b, vP.ownBlock = some b → O b) ∧ O mb
theorem DP.stay {B : Nat} {O : Nat → Prop} {d : Dk} {g : Nat} {vP : Value} {w w' : World} (H : DP B O d g vP w) (hs : w.heap.size ≤ w'.heap.size) (hb : ∀ b, O b → w'.heap[b]? = w.heap[b]?) : DP B O d g vP w' := by
  obtain ⟨lt, hg, ok, vL, mb, h1, h2, h3, h4, h5, h6, h7⟩ := H
  exact ⟨fun b q => ⟨(lt b q).1, Nat.lt_of_lt_of_le (lt b q).2 hs⟩, hg, ok, vL, mb, (hb g hg).trans h1, own_stay h2 fun b q => hb b (h5 b q), own_stay h3 fun b q => hb b (h6 b q), h4.stay (hb mb h7), h5, h6, h7⟩
theorem DP.below {B : Nat} {O : Nat → Prop} {d : Dk} {g : Nat} {vP : Value} {w w' : World} (H : DP B O d g vP w) (hb : Below w.heap.size w w') : DP B O d g vP w' := H.stay hb.size fun b q => hb.block b (H.lt b q).2
theorem DP.kept {B B' : Nat} {O O' : Nat → Prop} {d : Dk} {g : Nat} {vP : Value} {w w' : World} (H : DP B O d g vP w) (hk : Kept B' O' w w') (ho : ∀ b, O b → ¬ O' b) : DP B O d g vP w' := H.stay hk.1.size fun b q => hk.2 b (H.lt b q).2 (ho b q)
theorem DP.grow {B : Nat} {O O' : Nat → Prop} {d : Dk} {g : Nat} {vP : Value} {w : World} (H : DP B O d g vP w) (h1 : ∀ b, O b → O' b) (h2 : ∀ b, O' b → B ≤ b ∧ b < w.heap.size) : DP B O' d g vP w := by
  obtain ⟨lt, hg, ok, vL, mb, q1, q2, q3, q4, q5, q6, q7⟩ := H
  exact ⟨h2, h1 g hg, ok, vL, mb, q1, q2, q3, q4, fun b q => h1 _ (q5 b q), fun b q => h1 _ (q6 b q), h1 _ q7⟩
theorem DP.grown {B : Nat} {O : Nat → Prop} {d : Dk} {g : Nat} {vP : Value} {w w' : World} (H : DP B O d g vP w') (h1 : ∀ b, O b → B ≤ b ∧ b < w.heap.size) (h2 : B ≤ w.heap.size) : DP B (Grow O w w') d g vP w' :=
  H.grow (grow_start O w w') fun b q => by
    rcases q with q | q
    · exact ⟨(h1 b q).1, (H.lt b q).2⟩
    · exact ⟨by omega, q.2⟩
theorem DP.regrow {B : Nat} {O : Nat → Prop} {d : Dk} {g : Nat} {vP : Value} {w w1 w' : World} (H : DP B (Grow O w w1) d g vP w') (h1 : ∀ b, O b → B ≤ b ∧ b < w.heap.size) (h2 : B ≤ w.heap.size) (h3 : w.heap.size ≤ w1.heap.size) (h4 : w1.heap.size ≤ w'.heap.size) : DP B (Grow O w w') d g vP w' :=
  H.grow (fun b q => q.elim Or.inl fun q => Or.inr ⟨q.1, by omega⟩) fun b q => by
    rcases q with q | q
    · exact ⟨(h1 b q).1, by have := (h1 b q).2; omega⟩
    · exact ⟨by omega, q.2⟩
theorem map_not {w : World} {B e n s m : Nat} {v : Value} {xs : List Value} {es : Array MapEntry} {clock : Nat} (h : w.ownsRow B e s v n xs) (hm : w.heap[m]? = some (.map es clock)) : ∀ b, v.ownBlock = some b → b ≠ m := fun b hb e => by
  obtain ⟨cs, z⟩ := own_type h hb
  rw [e, hm] at z
  cases z
theorem pcell {w : World} {g mb : Nat} {vL vP : Value} {f : Int} (h1 : w.heap[g]? = some (.cells #[vL, vP, .map (some mb), .int .i64 f] 57 (0, 0))) :
    w.cell? ⟨g, 0, none⟩ = some vL ∧ w.cell? ⟨g, 1, none⟩ = some vP ∧ w.cell? ⟨g, 2, none⟩ = some (.map (some mb)) ∧ w.cell? ⟨g, 3, none⟩ = some (.int .i64 f) ∧ ∀ j, w.frozen? ⟨g, j, none⟩ = false := by
  refine ⟨?_, ?_, ?_, ?_, fun j => Lib.frozen_of_heap h1 j⟩ <;> (rw [Lib.cell_of_heap h1]; rfl)
/-- With another fuse. -/
theorem DP.fuse {B : Nat} {O : Nat → Prop} {d : Dk} {g : Nat} {vP : Value} {w : World} (H : DP B O d g vP w) (f : Int) (hf : -1 ≤ f) : DP B O { d with f := f } g vP (w.setCell ⟨g, 3, none⟩ (.int .i64 f)) := by
  obtain ⟨lt, hg, ⟨n, ok, hn⟩, vL, mb, h1, h2, h3, h4, h5, h6, h7⟩ := H
  have ne : ∀ b, b ≠ g → (w.setCell ⟨g, 3, none⟩ (.int .i64 f)).heap[b]? = w.heap[b]? := fun b hn => Below.heap_setCell _ _ _ _ hn
  obtain ⟨es, clock, hm⟩ := h4.map
  exact ⟨fun b q => ⟨(lt b q).1, by rw [World.size_setCell]; exact (lt b q).2⟩, hg, ⟨n, ⟨ok.l, ok.t, ok.b, ok.p, hf⟩, hn⟩, vL, mb, Lib.heap_setCell_same h1 _, own_apart h2 h1 (by decide) ne, own_apart h3 h1 (by decide) ne, h4.stay (ne mb fun e => by rw [e, h1] at hm; cases hm), h5, h6, h7⟩
/-- With no write pending. -/
theorem DP.empty {B : Nat} {O : Nat → Prop} {d : Dk} {g : Nat} {vP : Value} {w : World} (H : DP B O d g vP w) : DP B O { d with p := [] } g (.slice none 0 0) (w.setCell ⟨g, 1, none⟩ (.slice none 0 0)) := by
  obtain ⟨lt, hg, ⟨n, ok, hn⟩, vL, mb, h1, h2, h3, h4, h5, h6, h7⟩ := H
  have ne : ∀ b, b ≠ g → (w.setCell ⟨g, 1, none⟩ (.slice none 0 0)).heap[b]? = w.heap[b]? := fun b hn => Below.heap_setCell _ _ _ _ hn
  obtain ⟨es, clock, hm⟩ := h4.map
  exact ⟨fun b q => ⟨(lt b q).1, by rw [World.size_setCell]; exact (lt b q).2⟩, hg, ⟨n, ⟨ok.l, ok.t, ok.b, fun x hx => by simp at hx, ok.f⟩, hn⟩, vL, mb, Lib.heap_setCell_same h1 _, own_apart h2 h1 (by decide) ne, World.ownsRow_nil _ _ _ _, h4.stay (ne mb fun e => by rw [e, h1] at hm; cases hm), h5, fun b q => by simp [Value.ownBlock] at q, h7⟩
/-- With other bytes in a sector. -/
theorem DP.setL {B : Nat} {O : Nat → Prop} {d : Dk} {g : Nat} {vP : Value} {w : World} (H : DP B O d g vP w) {b n c i : Nat} (hc : w.cell? ⟨g, 0, none⟩ = some (.slice (some ⟨b, 0, none⟩) n c)) (hi : i < d.l.length) {l : List UInt8} (hl : l.length = 64) :
    DP B O { d with l := d.l.set i l } g vP (w.setCells b (i * 64) (scells l)) ∧ O b := by
  obtain ⟨lt, hg, ⟨m, ok, hm⟩, vL, mb, q1, q2, q3, q4, q5, q6, q7⟩ := H
  have hv := (pcell q1).1.symm.trans hc
  obtain rfl := Option.some.inj hv
  obtain ⟨cs, hty⟩ := own_type q2 (b := b) rfl
  have ne : ∀ k, k ≠ b → (w.setCells b (i * 64) (scells l)).heap[k]? = w.heap[k]? := fun k hn => sets_other hn _ _ _
  have gb : g ≠ b := fun e => by
    rw [e, hty] at q1
    injection q1 with z
    injection z with _ z _
    exact absurd z (by decide)
  obtain ⟨es, clock, hmb⟩ := q4.map
  have hn : n = d.l.length := by
    obtain ⟨A, cc, e, _⟩ := own_rg scells_len (by decide) q2
    injection e
  subst hn
  have st := own_put scells_len q2 hi (by decide) l
  exact ⟨⟨fun b q => ⟨(lt b q).1, by rw [sets_size]; exact (lt b q).2⟩, hg, ⟨m, ⟨by simp [ok.l], ok.t, mem_set_len ok.b hl, ok.p, ok.f⟩, hm⟩, _, mb, (ne g gb).trans q1, by simpa using st, own_apart q3 hty (by decide) ne, q4.stay (ne mb (map_not q2 hmb b rfl).symm), q5, q6, q7⟩, q5 b rfl⟩
/-- With another mark at a sector. -/
theorem DP.setT {B : Nat} {O : Nat → Prop} {d : Dk} {g : Nat} {vP : Value} {w w' : World} (H : DP B O d g vP w) {mb : Nat} (hc : w.cell? ⟨g, 2, none⟩ = some (.map (some mb))) (ht : w.mapTurned w' mb) {i : Nat} {t : Bool} (h : TM w' mb (d.t.set i t)) :
    DP B O { d with t := d.t.set i t } g vP w' ∧ O mb := by
  obtain ⟨lt, hg, ⟨m, ok, hm⟩, vL, mb', q1, q2, q3, q4, q5, q6, q7⟩ := H
  have hv := (pcell q1).2.2.1.symm.trans hc
  injection hv with hv
  injection hv with hv
  obtain rfl := Option.some.inj hv
  obtain ⟨es, clock, hmb⟩ := q4.map
  have ne : ∀ k, k ≠ mb' → w'.heap[k]? = w.heap[k]? := fun k hk => turned_other ht hk
  exact ⟨⟨fun b q => ⟨(lt b q).1, by rw [turned_size ht]; exact (lt b q).2⟩, hg, ⟨m, ⟨ok.l, by simp [ok.t], ok.b, ok.p, ok.f⟩, hm⟩, vL, mb', (ne g fun e => by rw [e, hmb] at q1; cases q1).trans q1, own_stay q2 fun b q => ne b (map_not q2 hmb b q), own_stay q3 fun b q => ne b (map_not q3 hmb b q), h, q5, q6, q7⟩, q7⟩
/-- What stands in a disk's variable. -/
theorem DP.var {B : Nat} {O : Nat → Prop} {d : Dk} {g : Nat} {vP : Value} {w : World} (H : DP B O d g vP w) :
    ∃ (A A' : Option Addr) (c c' mb : Nat), vP = .slice A' d.p.length c' ∧ w.heap[g]? = some (.cells #[.slice A d.l.length c, vP, .map (some mb), .int .i64 d.f] 57 (0, 0)) ∧ Rg scells w A d.l ∧ Rg wcells w A' d.p ∧ TM w mb d.t ∧ O mb ∧ (∀ a, A' = some a → O a.block) := by
  obtain ⟨lt, hg, ok, vL, mb, q1, q2, q3, q4, q5, q6, q7⟩ := H
  obtain ⟨A, c, rfl, _, r1⟩ := own_rg scells_len (by decide) q2
  obtain ⟨A', c', rfl, _, r2⟩ := own_rg wcells_len (by decide) q3
  exact ⟨A, A', c, c', mb, rfl, q1, r1, r2, q4, q7, fun a e => q6 _ (by simp [Value.ownBlock, e])⟩
theorem DP.L {B : Nat} {O : Nat → Prop} {d : Dk} {g : Nat} {vP : Value} {w : World} (H : DP B O d g vP w) {i : Nat} (hi : i < d.l.length) :
    ∃ b c, w.cell? ⟨g, 0, none⟩ = some (.slice (some ⟨b, 0, none⟩) d.l.length c) ∧ O b ∧ b ≠ g ∧ w.rangeAt b (i * 64) (scells (d.l.getD i [])) ∧ w.there b (i * 64) 64 := by
  obtain ⟨lt, hg, ok, vL, mb, q1, q2, q3, q4, q5, q6, q7⟩ := H
  obtain ⟨b, c, rfl, _, _⟩ := World.ownsRow.form q2 (by omega)
  have e1 := List.getElem?_eq_getElem hi
  have e2 : d.l.getD i [] = d.l[i] := by simp [List.getD_eq_getElem?_getD, hi]
  have hat : w.rangeAt b (i * 64) (scells (d.l.getD i [])) := fun j v hv => by
    have hj : j < 64 := by rw [← scells_len (d.l.getD i [])]; exact (List.getElem?_eq_some_iff.1 hv).1
    rw [World.ownsRow.cellAt q2 _ (by omega), flat_get scells_len d.l i j _ e1 hj, ← e2]
    exact hv
  refine ⟨b, c, (pcell q1).1, q5 b rfl, fun e => own_ne_type q2 q1 (by decide) (by rw [← e]; rfl), hat, fun j hj => ⟨?_, World.ownsRow.frozenAt q2 _⟩⟩
  rw [hat j _ (List.getElem?_eq_getElem (by rw [scells_len]; exact hj))]; rfl
theorem DP.P {B : Nat} {O : Nat → Prop} {d : Dk} {g : Nat} {vP : Value} {w : World} (H : DP B O d g vP w) {k : Nat} {x : Nat × List UInt8} (hk : d.p[k]? = some x) :
    ∃ b c, vP = .slice (some ⟨b, 0, none⟩) d.p.length c ∧ O b ∧ w.rangeAt b (k * 65) (wcells x) := by
  obtain ⟨lt, hg, ok, vL, mb, q1, q2, q3, q4, q5, q6, q7⟩ := H
  have hi := (List.getElem?_eq_some_iff.1 hk).1
  obtain ⟨b, c, rfl, _, _⟩ := World.ownsRow.form q3 (by omega)
  refine ⟨b, c, rfl, q6 b rfl, fun j v hv => ?_⟩
  have hj : j < 65 := by rw [← wcells_len x]; exact (List.getElem?_eq_some_iff.1 hv).1
  rw [World.ownsRow.cellAt q3 _ (by omega), flat_get wcells_len d.p k j _ hk hj]
  exact hv
theorem range_tail {w : World} {b o : Nat} {v : Value} {cs : List Value} (h : w.rangeAt b o (v :: cs)) : w.cell? ⟨b, o, none⟩ = some v ∧ w.rangeAt b (o + 1) cs :=
  ⟨h 0 v rfl, fun j u hu => by rw [Nat.add_assoc, Nat.add_comm 1 j]; exact h (j + 1) u hu⟩
theorem range_stay {w w' : World} {b o : Nat} {cs : List Value} (h : w.rangeAt b o cs) (e : w'.heap[b]? = w.heap[b]?) : w'.rangeAt b o cs := fun j v hv => (World.cell?_of_block e).trans (h j v hv)
theorem range_below {w w' : World} {b o : Nat} {cs : List Value} (h : w.rangeAt b o cs) (lt : b < w.heap.size) (hb : Below w.heap.size w w') : w'.rangeAt b o cs := range_stay h (hb.block b lt)
theorem there_stay {w w' : World} {b o n : Nat} (h : w.there b o n) (lt : b < w.heap.size) (hb : Below w.heap.size w w') : w'.there b o n := fun j hj => ⟨by rw [hb.cell (p := ⟨b, o + j, none⟩) lt]; exact (h j hj).1, by rw [hb.frozen (p := ⟨b, o + j, none⟩) lt]; exact (h j hj).2⟩

/-- The disk d of package disk, behind block g. -/
def DI (B : Nat) (O : Nat → Prop) (d : Dk) (g : Nat) (w : World) : Prop := ∃ vP, DP B O d g vP w
theorem DI.lt {B : Nat} {O : Nat → Prop} {d : Dk} {g : Nat} {w : World} (H : DI B O d g w) : ∀ b, O b → B ≤ b ∧ b < w.heap.size := H.elim fun _ h => h.lt
theorem DI.own {B : Nat} {O : Nat → Prop} {d : Dk} {g : Nat} {w : World} (H : DI B O d g w) : O g := H.elim fun _ h => h.own
theorem DI.stay {B : Nat} {O : Nat → Prop} {d : Dk} {g : Nat} {w w' : World} (H : DI B O d g w) (hs : w.heap.size ≤ w'.heap.size) (hb : ∀ b, O b → w'.heap[b]? = w.heap[b]?) : DI B O d g w' := H.imp fun _ h => h.stay hs hb
theorem DI.below {B : Nat} {O : Nat → Prop} {d : Dk} {g : Nat} {w w' : World} (H : DI B O d g w) (hb : Below w.heap.size w w') : DI B O d g w' := H.imp fun _ h => h.below hb
theorem DI.kept {B B' : Nat} {O O' : Nat → Prop} {d : Dk} {g : Nat} {w w' : World} (H : DI B O d g w) (hk : Kept B' O' w w') (ho : ∀ b, O b → ¬ O' b) : DI B O d g w' := H.imp fun _ h => h.kept hk ho
theorem DI.grow {B : Nat} {O O' : Nat → Prop} {d : Dk} {g : Nat} {w : World} (H : DI B O d g w) (h1 : ∀ b, O b → O' b) (h2 : ∀ b, O' b → B ≤ b ∧ b < w.heap.size) : DI B O' d g w := H.imp fun _ h => h.grow h1 h2
/-- A call that answers, and has done something with its disk. -/
def DTo (B : Nat) (O : Nat → Prop) (g : Nat) (d : Dk) (v : Value) (w : World) (e : Ending) (w' : World) : Prop :=
  e = .returned v ∧ DI B (Grow O w w') d g w' ∧ Kept B O w w'

end Go.Proofs.Ytpdedeaejlkokaa
