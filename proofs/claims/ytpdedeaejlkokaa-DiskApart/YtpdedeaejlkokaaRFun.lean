/-
  What a round of a loop over an iterator leaves as it lay; a region that draws its order within a round: apart from any program.
-/
import Derived.Test.YtpdedeaejlkokaaBase
import Derived.RangeFuncNested
import Derived.RangeFuncBound
import Derived.RangeFuncCalls
import Derived.RangeFuncLeaves
import Derived.Shelf.Abstract
import Derived.Shelf.RegionOpen
import Derived.WalkKit
import Derived.OwnWalkIn
import Derived.TacticsInMore
import Derived.LoopNIn
import Derived.LoopIn
import Derived.Maps.AppendAt
import Derived.OrdersIn
import Derived.Deep.RegionHeld3
namespace Go.Proofs.Ytpdedeaejlkokaa
open Go.RowKit

/-- What lay below B, and all blocks of cells that are none of X's, lie as they lay. -/
structure Kx (B : Nat) (X : Nat → Nat → Prop) (W W' : World) : Prop where
  below : Below B W W'
  keep : ∀ (k : Nat) (cs : Array Value) (T : Nat) (fr : Nat × Nat), W.heap[k]? = some (.cells cs T fr) → ¬ X k T → W'.heap[k]? = some (.cells cs T fr)
theorem Kx.refl (B : Nat) (X : Nat → Nat → Prop) (W : World) : Kx B X W W := ⟨Below.refl _ _, fun _ _ _ _ h _ => h⟩
theorem Kx.trans {B : Nat} {X : Nat → Nat → Prop} {W1 W2 W3 : World} (h : Kx B X W1 W2) (k : Kx B X W2 W3) : Kx B X W1 W3 :=
  ⟨h.below.trans k.below, fun b cs T fr h0 hx => k.keep b cs T fr (h.keep b cs T fr h0 hx) hx⟩
theorem Kx.alloc {B : Nat} {X : Nat → Nat → Prop} {W W' : World} (h : Kx B X W W') (hB : B ≤ W'.heap.size) (o : Obj) : Kx B X W (W'.alloc o) :=
  ⟨h.below.alloc hB o, fun b cs T fr h0 hx => by
    have h1 := h.keep b cs T fr h0 hx
    exact (Below.heap_alloc W' o b (Array.getElem?_eq_some_iff.1 h1).1).trans h1⟩
theorem Kx.set {B : Nat} {X : Nat → Nat → Prop} {W W' : World} (h : Kx B X W W') {b off : Nat} (hB : B ≤ b) (hX : ∀ T, X b T) (v : Value) : Kx B X W (W'.setCell ⟨b, off, none⟩ v) :=
  ⟨h.below.setCell (p := ⟨b, off, none⟩) hB v, fun k cs T fr h0 hx => by
    have h1 := h.keep k cs T fr h0 hx
    exact (Below.heap_setCell _ _ _ _ (by show k ≠ b; intro e; subst e; exact hx (hX T))).trans h1⟩
/-- A new block that was laid in between. -/
theorem Kx.setNew {B : Nat} {X : Nat → Nat → Prop} {W W' : World} (h : Kx B X W W') {b off : Nat} (hB : B ≤ b) (hb : W.heap.size ≤ b) (v : Value) : Kx B X W (W'.setCell ⟨b, off, none⟩ v) :=
  ⟨h.below.setCell (p := ⟨b, off, none⟩) hB v, fun k cs T fr h0 hx => by
    have h1 := h.keep k cs T fr h0 hx
    have h2 := (Array.getElem?_eq_some_iff.1 h0).1
    exact (Below.heap_setCell _ _ _ _ (by show k ≠ b; omega)).trans h1⟩
theorem Kx.put {B : Nat} {X : Nat → Nat → Prop} {w : World} (hB : B ≤ w.heap.size) (W : World) (l : Nat) (o o' : Obj) (hl : w.heap.size ≤ l) (h0 : W.heap[l]? = some o) (hc : o.isCells = false) (hw : o.isWalk = false) : Kx B X W (W.putObj l o') :=
  ⟨belowK_b hB W l o o' hl h0 hc hw, fun k cs T fr h1 _ => (World.putObj_heap_other (by intro e; subst e; rw [h0] at h1; cases h1; simp [Obj.isCells] at hc)).trans h1⟩
theorem ownFrom_kx {β : Type} {B B' : Nat} {X : Nat → Nat → Prop} {w0 : World} (hB : B ≤ w0.heap.size) (hB' : B ≤ B') : OwnFrom B' (fun (_ : β) W => Kx B X w0 W) :=
  fun s Y Z row hs hg hr => ⟨ownFrom_below hB hB' s Y Z row hs.below hg hr, fun k cs T fr h0 hx => by
    have h1 := hs.keep k cs T fr h0 hx
    refine (hg.block k (Array.getElem?_eq_some_iff.1 h1).1 (fun e => ?_)).trans h1
    obtain ⟨_, o, ho, hc⟩ := hr k e.symm
    rw [h1] at ho; cases ho
    simp [Obj.isCells] at hc⟩
theorem Kx.of_below {X : Nat → Nat → Prop} {W W' : World} (h : Below W.heap.size W W') : ∀ B, B ≤ W.heap.size → Kx B X W W' := fun _ hB =>
  ⟨h.mono hB, fun k _ _ _ h0 _ => (h.block k (Array.getElem?_eq_some_iff.1 h0).1).trans h0⟩
theorem keeps_below {B : Nat} {W W' : World} (h : Below W.heap.size W W') : KeepsFrom B W W' :=
  ⟨h.size, fun k _ _ h0 _ => (h.block k (Array.getElem?_eq_some_iff.1 h0).1).trans h0⟩
/-- A world that has grown. -/
theorem grown_below {W W' : World} (h : Below W.heap.size W W') : W.grownBy W' none :=
  ⟨h.os, h.tape, h.output, h.size, fun k hk _ => h.block k hk⟩
/-- A block of cells that a loop's body may not write. -/
theorem cells_own {β : Type} (b : Nat) (cs : Array Value) (T : Nat) (fr : Nat × Nat) : Own (fun (_ : β) W => W.heap[b]? = some (.cells cs T fr)) := fun _ X Y row hs hg hrow =>
  (hg.block b (Array.getElem?_eq_some_iff.1 hs).1 (fun e => by obtain ⟨o, ho, hc⟩ := hrow b e.symm; rw [hs] at ho; cases ho; simp [Obj.isCells] at hc)).trans hs

/-! ### A region that draws its order, within a round -/
def noDefers (ops : Array Oper) : Prop := ∀ (i : Nat) (o : Oper), ops[i]? = some o → ∀ c, o.op ≠ .defer c
theorem noDefers_of {ops : Array Oper} (h : (ops.all fun o => match o.op with | .defer _ => false | _ => true) = true) : noDefers ops := fun i o ho c hc => by
  have h1 := Array.all_eq_true.1 h i (Array.getElem?_eq_some_iff.1 ho).1
  rw [(Array.getElem?_eq_some_iff.1 ho).2, hc] at h1
  simp at h1
theorem opsIn_of_ops {P : Program} {ops : Array Oper} {Q : Exit → Act → World → Prop} (hd : noDefers ops) (hl : ¬ LetsOut Q) (l n : Nat) :
    ∀ (is : List Nat) (a : Act) (w : World), wpOps P ops Q is a w → wpOpsIn (Fence.wide.inRound l) n P ops Q is a w
  | [], _, _, h => h
  | i :: is, a, w, h => by
    unfold wpOps at h
    unfold wpOpsIn
    cases ho : ops[i]? with
    | none => rw [ho] at h; exact opsIn_of_ops hd hl l n is a w h
    | some o =>
      rw [ho] at h
      simp only [] at h ⊢
      split
      · rename_i hw
        rw [if_pos hw] at h
        rcases h with h | ⟨_, h⟩
        · refine ⟨fun _ _ => trivial, ?_⟩
          rw [Oper.semAt_eq _ _ _ (hd i o ho)]
          unfold Oper.wp at h
          generalize (execOp a.eval o).run P w = r at h ⊢
          cases r with
          | ok x w' =>
            cases x <;> simp only [Oper.upon, Oper.uponIn] at h ⊢
            case value u => exact opsIn_of_ops hd hl l n is _ _ h
            case skip => exact opsIn_of_ops hd hl l n is _ _ h
            case defer d => exact opsIn_of_ops hd hl l n is _ _ h
            case enter f args =>
              refine ⟨fun z => by simp [Fence.wide] at z, CallsIn.inRound l (callsIn_wide.2 (h.mono fun e w'' he => ?_))⟩
              cases e with
              | returned u => exact opsIn_of_ops hd hl l n is _ _ he
              | panicked c => exact he
              | outgrown => exact he
            case row row args =>
              refine ⟨fun z => by simp [Fence.wide] at z, fun c cs _ => ?_⟩
              obtain ⟨v, w'', hv, hs⟩ := h c cs
              exact ⟨v, w'', opsIn_of_ops hd hl l n is _ _ hv, stepsIn_wide.2 hs⟩
          | halt x w' => cases x <;> simp only [Oper.upon, Oper.uponIn] at h ⊢ <;> exact h
        · exact absurd h hl
      · rename_i hw
        rw [if_neg hw] at h
        exact ⟨fun _ _ => trivial, opsIn_of_ops hd hl l n is _ _ h⟩
theorem region_round {P : Program} {ops : Array Oper} {Q : Exit → Act → World → Prop} {S : World → Prop} {a : Act} {w : World} {id : Nat} (hd : noDefers ops) (hl : ¬ LetsOut Q) (l n : Nat) (hm : P.follows .mixedOrders = true) (hS : S w.drew)
    (h : S w.drew → wpAnyH P .any ops Q S ops.size (Array.replicate ops.size false) a w.drew) : (Code.region id ops true).wpIn (Fence.wide.inRound l) n P Q a w :=
  wpIn_region_draw fun t => by
    simp only [Region.schedule, hm, Bool.true_or, if_true]
    exact opsIn_of_ops hd hl l n _ _ _ (wpAny_sound ops.size t _ a _ (wpAny_of_held _ _ _ _ (h hS)))
theorem cb_own {β : Type} (b T : Nat) (v : Value) : Own (fun (_ : β) W => CB W b T v) := cells_own b _ T _
theorem cb_put {W : World} {b T D : Nat} {v : Value} (o : Obj) (h : CB W b T v) (hD : b ≠ D) : CB (W.putObj D o) b T v := (World.putObj_heap_other hD).trans h

end Go.Proofs.Ytpdedeaejlkokaa
