/-
  What the laws of this seat stand on, part 8.
-/
import Derived.Test.YtklgjhldebdegaaB07
import Derived.Deep.AppendLies
import Derived.RangeFuncNested
import Derived.RangeFuncBound
import Derived.RangeFuncCalls
import Derived.RangeFuncLeaves
import Derived.Shelf.Abstract
import Derived.Shelf.RegionOpen
import Derived.WalkKit
import Derived.OwnWalkIn
import Derived.TacticsInMore
import Derived.LoopNIn
import Derived.LoopIn
import Derived.Maps.AppendAt
import Derived.OrdersIn
import Derived.Deep.RegionHeld3
import Derived.Laws.StructEq
namespace Go.Proofs.Ytklgjhldebdegaa
open Go.RowKit
set_option maxHeartbeats 2000000 in
set_option maxRecDepth 100000 in
theorem rstages8 (c h x : Int) (A : Option Addr) (cA n : Nat) (ls : List Ly) (w : World) (hx : Rl w A ls) (ln : n = ls.length) (hn : n ≤ 60) :
    Calls Try.prog 7 #[.agg #[.int .i64 c, .int .i64 h, .int .i64 x, .slice A n cA]] w (RowTo icells (stagesN ⟨c, h, x, ls⟩) w) := by
  obtain ⟨i0, hi, hz0, hz1, hz2⟩ := info_parts Try.info3
  obtain ⟨er, her⟩ : ∃ er, er = errN ⟨c, h, x, ls⟩ := ⟨_, rfl⟩
  have HER := Lib.hid her
  have N0 := Lib.hid (NB.new w c h x (.slice A n cA))
  have B0 : Hid (Below w.heap.size w (w.alloc (.cells #[.int .i64 c, .int .i64 h, .int .i64 x, .slice A n cA] 26))) := (Below.refl _ w).alloc (Nat.le_refl _) _
  clear her
  have HX := Lib.hid hx; have LX := Lib.hid ln
  have hn1 : n ≤ 1000 := by omega
  clear hx ln
  go_enter Try.func7, Try.ntmps7
  go_wp2_with fail
  generalize w.alloc (.cells #[.int .i64 c, .int .i64 h, .int .i64 x, .slice A n cA] 26) = W at N0 B0 ⊢
  go_loopg [3, 4] n (fun g s3 s4 wx => ∃ k : Nat, k ≤ n ∧ Hid (g = n - k) ∧ s4 = .int .i64 (k : Int) ∧ Hid (wx.ownsRow W.heap.size 3 1 s3 (stK ls k).length ((stK ls k).flatMap icells)) ∧ Hid (k = 0 ∨ er = 0) ∧ Hid (Below W.heap.size W wx))
  case atStart => exact ⟨0, by omega, by show _ = _; omega, rfl, World.ownsRow_nil _ _ _ _, .inl rfl, Below.refl _ _⟩
  case round =>
    obtain ⟨k, hk, HG, rfl, OW, HZ, BK⟩ := hrel
    have BW := Lib.hid (chain B0.out BK.out)
    have NW := Lib.hid (N0.out.below BK.out)
    obtain ⟨c0, c1, c2, c3⟩ := NW.out.cells
    by_cases kn : k < n
    · have ki : (k : Int) < (n : Int) := by omega
      go_wp2_with fail
      refine (rright_of c h x A cA n ls _ (HX.out.below BW.out) LX.out hn1).mono ?_
      rintro e w2 ⟨rfl, hb⟩
      rw [← HER.out]
      have B2 := Lib.hid (chain BK.out hb)
      have BW2 := Lib.hid (chain BW.out hb)
      have N2 := Lib.hid (NW.out.below hb)
      have O2 := Lib.hid (own_belowE OW.out hb)
      clear hb c0 c1 c2 c3 OW BK BW NW
      obtain ⟨c0, c1, c2, c3⟩ := N2.out.cells
      by_cases h0 : ¬ er = 0
      · have b0 : (er == 0) = false := by simpa using h0
        obtain rfl : k = 0 := HZ.out.elim (fun z => z) (fun z => absurd z h0)
        have E0 : Hid (stagesN ⟨c, h, x, ls⟩ = []) := if_neg (by rw [← HER.out]; exact h0)
        obtain ⟨A', c', rfl, e1, hr, e3, e4⟩ := own_cap icells_len (by decide) O2.out
        have HR := Lib.hid hr; have E3 := Lib.hid e3; have E4 := Lib.hid e4
        clear h0 hr e1 e3 e4
        go_wp2_with fail
        go_ret
        refine ⟨A', c', _, rfl, by rw [E0.out]; rfl, by rw [E0.out]; exact Rg.nil _ _ _, BW2.out, E3.out, E4.out⟩
      have h0 : er = 0 := by omega
      have b0 : (er == 0) = true := by rw [h0]; rfl
      have kl : k < ls.length := by rw [← LX.out]; exact kn
      obtain ⟨b1, o1, rfl, l1, q⟩ := HX.out (by omega)
      obtain ⟨z0, z1, z2, z3⟩ := (q k kl).below BW2.out l1
      obtain ⟨l, hl⟩ : ∃ l, l = ls.getD k Ly.z := ⟨_, rfl⟩
      rw [← hl] at z0 z1 z2 z3
      have HL := Lib.hid hl; have H0 := Lib.hid h0
      have ln60 := stK_len ls k
      clear q hl h0 kl
      by_cases k3 : l.k = 3
      · have d : (l.k != 3) = false := by rw [k3]; rfl
        have O3 : Hid (w2.ownsRow W.heap.size 3 1 u3 (stK ls (k + 1)).length ((stK ls (k + 1)).flatMap icells)) := by
          have : stK ls (k + 1) = stK ls k := by simp only [stK]; rw [← HL.out, if_pos k3, List.append_nil]
          show World.ownsRow _ _ _ _ _ _ _
          rw [this]; exact O2.out
        clear k3
        go_wp2_with fail
        go_roundg (n - (k + 1))
        case measure => have := HG.out; omega
        case rel => exact ⟨k + 1, by omega, rfl, by go_num, O3, .inr H0.out, B2⟩
      · have d : (l.k != 3) = true := by simpa using k3
        have E1 : Hid (stK ls (k + 1) = stK ls k ++ [((k : Nat) : Int)]) := by show _ = _; simp only [stK]; rw [← HL.out, if_neg k3]
        have hs := B2.out.size
        clear k3
        go_wp2_with (at_builtin; refine wpList_append_own _ rfl _ _ 33 rfl W.heap.size 3 i0 (.int .i64 0) 1 8 Try.underlying33 hi hz0 hz1 hz2 rfl (by decide) _ _ _ rfl (O2.out.alloc _) ⟨w2.heap.size, 0, none⟩ 1 1 (icells (k : Int)) rfl rfl ?c1 (icells_one _) ?c3 ?c4 ?c5 ?_)
        case c1 => first | exact fun _ _ h => h | exact new_cells
        case c3 => unfold maxLen; omega
        case c4 => omega
        case c5 => first | omega | (simp; omega)
        intro v' w4 hown2 hgrow hcp
        clear hcp
        have O4 : Hid (w4.ownsRow W.heap.size 3 1 v' (stK ls (k + 1)).length ((stK ls (k + 1)).flatMap icells)) := by
          show World.ownsRow _ _ _ _ _ _ _
          rw [E1.out, List.length_append, List.flatMap_append]
          simpa using hown2
        have B4 : Hid (Below W.heap.size W w4) := (B2.out.alloc hs _).grown hgrow (by simp; omega) (fun q hqq => (O2.out.lt _ hqq).1)
        clear hown2 hgrow O2 B2 hs
        go_wp2_with fail
        go_roundg (n - (k + 1))
        case measure => have := HG.out; omega
        case rel => exact ⟨k + 1, by omega, rfl, by go_num, O4, .inr H0.out, B4⟩
    · obtain rfl : k = n := by omega
      have E0 : Hid (stagesN ⟨c, h, x, ls⟩ = stK ls k) := by
        show _ = _
        rcases HZ.out with z | z
        · subst z
          have : ls = [] := List.length_eq_zero_iff.1 LX.out.symm
          subst this
          unfold stagesN; split <;> rfl
        · rw [show stagesN ⟨c, h, x, ls⟩ = stK ls ls.length from if_pos (by rw [← HER.out]; exact z), LX.out]
      obtain ⟨A', c', rfl, e1, hr, e3, e4⟩ := own_cap icells_len (by decide) OW.out
      have HR := Lib.hid hr; have E3 := Lib.hid e3; have E4 := Lib.hid e4
      clear hr e1 e3 e4
      go_wp2_with fail
      go_ret
      exact ⟨A', c', _, rfl, by rw [E0.out], by rw [E0.out]; exact HR.out, BW.out, E3.out, E4.out⟩

def GC (w : World) (b : Nat) (g : Gt) : Prop := w.heap[b]? = some (.cells #[.int .i64 g.l, .int .i64 g.a, .int .i64 g.t, .int .i64 g.x, .int .i64 g.w] 175 (0, 0))
theorem GC.lt {w : World} {b : Nat} {g : Gt} (H : GC w b g) : b < w.heap.size := (Array.getElem?_eq_some_iff.1 H).1
theorem GC.below {w w' : World} {b : Nat} {g : Gt} (H : GC w b g) (hb : Below w.heap.size w w') : GC w' b g := (hb.block b H.lt).trans H
theorem GC.cells {w : World} {b : Nat} {g : Gt} (H : GC w b g) : w.cell? ⟨b, 0, none⟩ = some (.int .i64 g.l) ∧ w.cell? ⟨b, 1, none⟩ = some (.int .i64 g.a) ∧ w.cell? ⟨b, 2, none⟩ = some (.int .i64 g.t) ∧ w.cell? ⟨b, 3, none⟩ = some (.int .i64 g.x) ∧ w.cell? ⟨b, 4, none⟩ = some (.int .i64 g.w) := by
  refine ⟨?_, ?_, ?_, ?_, ?_⟩ <;> (rw [Lib.cell_of_heap H]; rfl)
theorem GC.frozen {w : World} {b : Nat} {g : Gt} (H : GC w b g) (j : Nat) : w.frozen? ⟨b, j, none⟩ = false := Lib.frozen_of_heap H j
def gv (g : Gt) : Value := .agg #[.int .i64 g.l, .int .i64 g.a, .int .i64 g.t, .int .i64 g.x, .int .i64 g.w]
theorem below_set5 {w0 w : World} {B b : Nat} (H : Below B w0 w) (hb : B ≤ b) (v0 v1 v2 v3 v4 : Value) :
    Below B w0 (((((w.setCell ⟨b, 0, none⟩ v0).setCell ⟨b, 1, none⟩ v1).setCell ⟨b, 2, none⟩ v2).setCell ⟨b, 3, none⟩ v3).setCell ⟨b, 4, none⟩ v4) :=
  ((((H.setCell (p := ⟨b, 0, none⟩) hb _).setCell (p := ⟨b, 1, none⟩) hb _).setCell (p := ⟨b, 2, none⟩) hb _).setCell (p := ⟨b, 3, none⟩) hb _).setCell (p := ⟨b, 4, none⟩) hb _

end Go.Proofs.Ytklgjhldebdegaa

namespace Go.Proofs.Ytklgjhldebdegaa
open Go.RowKit

theorem made_rg (w : World) (n T : Nat) : Rg ucells (w.alloc (.cells (madeCells #[.int .u64 0] n) T)) (some ⟨w.heap.size, 0, none⟩) (noughts n) :=
  rg_block (heap_alloc_new w _) (by
    rw [toList_madeCells_one]
    unfold noughts
    induction n with
    | zero => rfl
    | succ n ih => rw [List.replicate_succ, List.replicate_succ, List.flatMap_cons, ← ih]; rfl)
/-- A row of numbers that is handed out, of whatever room, if p does not hold. -/
def RowAny (p : Prop) (us : List UInt64) (w : World) (e : Ending) (w' : World) : Prop :=
  ∃ (A : Option Addr) (k n : Nat), e = .returned (.slice A n k) ∧ n = us.length ∧ Rg ucells w' A us ∧ Below w.heap.size w w' ∧ (p → n ≤ k ∧ k ≤ maxLen)
theorem skip_step {c h x : Int} {ls : List Ly} (e : errN ⟨c, h, x, ls⟩ = 0) {k : Nat} (hk : k < ls.length) (k3 : (ls.getD k Ly.z).k = 3) {ys ws : List UInt64} (hy : (ys.length : Int) = (endS ⟨c, h, x⟩ (ls.take k)).n) (hw : (ws.length : Int) = totW (knN ⟨c, h, x, ls⟩)) :
    okL ⟨c, h, x, ls⟩ (k : Nat) ys ws = true ∧ poolsU ⟨c, h, x, ls⟩ k ys = poolsU ⟨c, h, x, ls⟩ (k + 1) (layN ⟨c, h, x, ls⟩ (k : Nat) ys ws) ∧ ((layN ⟨c, h, x, ls⟩ (k : Nat) ys ws).length : Int) = (endS ⟨c, h, x⟩ (ls.take (k + 1))).n := by
  have ok : okL ⟨c, h, x, ls⟩ (k : Nat) ys ws = true := decide_eq_true ⟨⟨e, by omega, by show (k : Int) < (ls.length : Int); omega⟩, by rw [at_some e (get_ly hk)]; exact hy, hw⟩
  refine ⟨ok, ?_, ?_⟩
  · rw [pools_pool (N := ⟨c, h, x, ls⟩) hk k3, lay_yes ok]
    congr 1
    exact lay_noW (Or.inr (by rw [at_kind e hk]; exact k3)) _ _ _
  · rw [lay_yes ok, lay_len, run_end c h x ls (get_ly hk), at_some e (get_ly hk)]
    have := size_bd (outS (endS ⟨c, h, x⟩ (ls.take k)) (ls.getD k Ly.z))
    show ((outS _ _).n.toNat : Int) = _
    omega

end Go.Proofs.Ytklgjhldebdegaa

namespace Go.Proofs.Ytklgjhldebdegaa
open Go.RowKit
theorem first_row {c h x : Int} {ls : List Ly} {xs : List UInt64} (e : errN ⟨c, h, x, ls⟩ = 0) (hl : (xs.length : Int) = (⟨c, h, x⟩ : Sh).n) : okFi ⟨c, h, x, ls⟩ xs = true ∧ firstU ⟨c, h, x, ls⟩ xs = poolsU ⟨c, h, x, ls⟩ 0 xs ∧ 0 < (poolsU ⟨c, h, x, ls⟩ 0 xs).length ∧ (poolsU ⟨c, h, x, ls⟩ 0 xs).length ≤ 128 := by
  have ok : okFi ⟨c, h, x, ls⟩ xs = true := decide_eq_true ⟨e, hl⟩
  refine ⟨ok, if_pos ok, ?_⟩
  have := pools_len e ls.length 0 xs (by omega) (by omega) (by rw [hl]; rfl)
  obtain ⟨r, f3, t, _⟩ := ok_all e
  have sk := skip_top (ls := ls) (i := 0) (by omega)
  have er : (endS ⟨c, h, x⟩ (ls.take (skipN ls 0))).r = true := end_right _ _ r (all_take f3 _) (fit_take t _)
  have a := size_pos er
  have b := size_bd (endS ⟨c, h, x⟩ (ls.take (skipN ls 0)))
  omega

end Go.Proofs.Ytklgjhldebdegaa

namespace Go.Proofs.Ytklgjhldebdegaa
open Go.RowKit

/-- What lay below B, and all blocks of cells that are none of X's, lie as they lay. -/
structure Kx (B : Nat) (X : Nat → Nat → Prop) (W W' : World) : Prop where
  below : Below B W W'
  keep : ∀ (k : Nat) (cs : Array Value) (T : Nat) (fr : Nat × Nat), W.heap[k]? = some (.cells cs T fr) → ¬ X k T → W'.heap[k]? = some (.cells cs T fr)
theorem Kx.refl (B : Nat) (X : Nat → Nat → Prop) (W : World) : Kx B X W W := ⟨Below.refl _ _, fun _ _ _ _ h _ => h⟩
theorem Kx.trans {B : Nat} {X : Nat → Nat → Prop} {W1 W2 W3 : World} (h : Kx B X W1 W2) (k : Kx B X W2 W3) : Kx B X W1 W3 :=
  ⟨h.below.trans k.below, fun b cs T fr h0 hx => k.keep b cs T fr (h.keep b cs T fr h0 hx) hx⟩
theorem Kx.alloc {B : Nat} {X : Nat → Nat → Prop} {W W' : World} (h : Kx B X W W') (hB : B ≤ W'.heap.size) (o : Obj) : Kx B X W (W'.alloc o) :=
  ⟨h.below.alloc hB o, fun b cs T fr h0 hx => by
    have h1 := h.keep b cs T fr h0 hx
    exact (Below.heap_alloc W' o b (Array.getElem?_eq_some_iff.1 h1).1).trans h1⟩
theorem Kx.set {B : Nat} {X : Nat → Nat → Prop} {W W' : World} (h : Kx B X W W') {b off : Nat} (hB : B ≤ b) (hX : ∀ T, X b T) (v : Value) : Kx B X W (W'.setCell ⟨b, off, none⟩ v) :=
  ⟨h.below.setCell (p := ⟨b, off, none⟩) hB v, fun k cs T fr h0 hx => by
    have h1 := h.keep k cs T fr h0 hx
    exact (Below.heap_setCell _ _ _ _ (by show k ≠ b; intro e; subst e; exact hx (hX T))).trans h1⟩
theorem Kx.put {B : Nat} {X : Nat → Nat → Prop} {w : World} (hB : B ≤ w.heap.size) (W : World) (l : Nat) (o o' : Obj) (hl : w.heap.size ≤ l) (h0 : W.heap[l]? = some o) (hc : o.isCells = false) (hw : o.isWalk = false) : Kx B X W (W.putObj l o') :=
  ⟨belowK_b hB W l o o' hl h0 hc hw, fun k cs T fr h1 _ => (World.putObj_heap_other (by intro e; subst e; rw [h0] at h1; cases h1; simp [Obj.isCells] at hc)).trans h1⟩
/-- A world that has grown. -/
theorem grown_below {W W' : World} (h : Below W.heap.size W W') : W.grownBy W' none :=
  ⟨h.os, h.tape, h.output, h.size, fun k hk _ => h.block k hk⟩
/-- A block of cells that a loop's body may not write. -/
theorem cells_own {β : Type} (b : Nat) (cs : Array Value) (T : Nat) (fr : Nat × Nat) : Own (fun (_ : β) W => W.heap[b]? = some (.cells cs T fr)) := fun _ X Y row hs hg hrow =>
  (hg.block b (Array.getElem?_eq_some_iff.1 hs).1 (fun e => by obtain ⟨o, ho, hc⟩ := hrow b e.symm; rw [hs] at ho; cases ho; simp [Obj.isCells] at hc)).trans hs

/-! ### A region that draws its order, within a round -/
def noDefers (ops : Array Oper) : Prop := ∀ (i : Nat) (o : Oper), ops[i]? = some o → ∀ c, o.op ≠ .defer c
theorem noDefers_of {ops : Array Oper} (h : (ops.all fun o => match o.op with | .defer _ => false | _ => true) = true) : noDefers ops := fun i o ho c hc => by
  have h1 := Array.all_eq_true.1 h i (Array.getElem?_eq_some_iff.1 ho).1
  rw [(Array.getElem?_eq_some_iff.1 ho).2, hc] at h1
  simp at h1
theorem opsIn_of_ops {P : Program} {ops : Array Oper} {Q : Exit → Act → World → Prop} (hd : noDefers ops) (hl : ¬ LetsOut Q) (l n : Nat) :
    ∀ (is : List Nat) (a : Act) (w : World), wpOps P ops Q is a w → wpOpsIn (Fence.wide.inRound l) n P ops Q is a w
  | [], _, _, h => h
  | i :: is, a, w, h => by
    unfold wpOps at h
    unfold wpOpsIn
    cases ho : ops[i]? with
    | none => rw [ho] at h; exact opsIn_of_ops hd hl l n is a w h
    | some o =>
      rw [ho] at h
      simp only [] at h ⊢
      split
      · rename_i hw
        rw [if_pos hw] at h
        rcases h with h | ⟨_, h⟩
        · refine ⟨fun _ _ => trivial, ?_⟩
          rw [Oper.semAt_eq _ _ _ (hd i o ho)]
          unfold Oper.wp at h
          generalize (execOp a.eval o).run P w = r at h ⊢
          cases r with
          | ok x w' =>
            cases x <;> simp only [Oper.upon, Oper.uponIn] at h ⊢
            case value u => exact opsIn_of_ops hd hl l n is _ _ h
            case skip => exact opsIn_of_ops hd hl l n is _ _ h
            case defer d => exact opsIn_of_ops hd hl l n is _ _ h
            case enter f args =>
              refine ⟨fun z => by simp [Fence.wide] at z, CallsIn.inRound l (callsIn_wide.2 (h.mono fun e w'' he => ?_))⟩
              cases e with
              | returned u => exact opsIn_of_ops hd hl l n is _ _ he
              | panicked c => exact he
              | outgrown => exact he
            case row row args =>
              refine ⟨fun z => by simp [Fence.wide] at z, fun c cs _ => ?_⟩
              obtain ⟨v, w'', hv, hs⟩ := h c cs
              exact ⟨v, w'', opsIn_of_ops hd hl l n is _ _ hv, stepsIn_wide.2 hs⟩
          | halt x w' => cases x <;> simp only [Oper.upon, Oper.uponIn] at h ⊢ <;> exact h
        · exact absurd h hl
      · rename_i hw
        rw [if_neg hw] at h
        exact ⟨fun _ _ => trivial, opsIn_of_ops hd hl l n is _ _ h⟩
theorem region_round {P : Program} {ops : Array Oper} {Q : Exit → Act → World → Prop} {S : World → Prop} {a : Act} {w : World} {id : Nat} (hd : noDefers ops) (hl : ¬ LetsOut Q) (l n : Nat) (hm : P.follows .mixedOrders = true) (hS : S w.drew)
    (h : S w.drew → wpAnyH P .any ops Q S ops.size (Array.replicate ops.size false) a w.drew) : (Code.region id ops true).wpIn (Fence.wide.inRound l) n P Q a w :=
  wpIn_region_draw fun t => by
    simp only [Region.schedule, hm, Bool.true_or, if_true]
    exact opsIn_of_ops hd hl l n _ _ _ (wpAny_sound ops.size t _ a _ (wpAny_of_held _ _ _ _ (h hS)))

end Go.Proofs.Ytklgjhldebdegaa

namespace Go.Proofs.Ytklgjhldebdegaa
open Go.RowKit Go.Shelf
attribute [local go_sem] Oper.semAt_some

def encS (N : Nt) (y : St N) : Array Value := #[.int .i64 (numS N y.1), .agg #[.int .i64 ((y.1 : Nat) : Int), .int .i64 (firstS N y.1), .int .i64 (manyS N y.1), .int .i64 (eachS N y.1)]]

set_option maxHeartbeats 1000000 in
theorem gsize8 (s : Sh) (hr : s.r = true) (w : World) : Calls Try.prog 28 #[.agg #[.int .i64 s.c, .int .i64 s.h, .int .i64 s.x]] w fun e w' => e = .returned (.int .i64 s.n) ∧ Below w.heap.size w w' := by
  obtain ⟨r1, r2, r3, r4, r5, r6, r7⟩ := right_bd hr
  have HN := Lib.hid (Sh.n_eq hr)
  have m1 := mul_bd (show 0 ≤ s.c by omega) r2 (show 0 ≤ s.h by omega) r4
  obtain ⟨p, hp⟩ : ∃ p, p = s.c * s.h := ⟨_, rfl⟩
  rw [← hp] at m1 r7
  have m2 := mul_bd m1.1 m1.2 (show 0 ≤ s.x by omega) r6
  obtain ⟨q, hq⟩ : ∃ q, q = p * s.x := ⟨_, rfl⟩
  rw [← hq] at m2 r7
  have v1 : IntKind.i64.wrap (s.c * s.h) = p := by rw [IntWalk.i64_in _ (by rw [← hp]; omega)]; exact hp.symm
  have v2 : wrap64 (s.c * s.h) = p := by rw [IntWalk.wrap64_in _ (by rw [← hp]; omega)]; exact hp.symm
  have v3 : IntKind.i64.wrap (p * s.x) = q := by rw [IntWalk.i64_in _ (by rw [← hq]; omega)]; exact hq.symm
  have v4 : wrap64 (p * s.x) = q := by rw [IntWalk.wrap64_in _ (by rw [← hq]; omega)]; exact hq.symm
  have HQ : Hid (s.n = q) := by show _ = _; rw [HN.out, hq, hp]
  clear hp hq m1 m2 r1 r2 r3 r4 r5 r6 r7 HN
  go_enter Try.func28, Try.ntmps28
  go_wp2_with fail
  go_ret
  exact ⟨by rw [HQ.out]; rfl, (Below.refl _ w).alloc (Nat.le_refl _) _⟩

set_option maxHeartbeats 1000000 in
theorem gspans8 (c h x : Int) (v : Value) (w : World) : Calls Try.prog 32 #[.agg #[.int .i64 c, .int .i64 h, .int .i64 x, v]] w fun e w' => e = .returned (.func (.func 48) #[] #[.pointer (some ⟨w.heap.size, 0, none⟩)]) ∧ w' = w.alloc (.cells #[.int .i64 c, .int .i64 h, .int .i64 x, v] 26) := by
  have hmf : ∀ (fn : Fn) (first cap : Array Value) (w : World), (Instr.makeFunc fn first cap).run Try.prog w = .ok (.func fn first cap) w := fun _ _ _ _ => rfl
  go_enter Try.func32, Try.ntmps32
  go_wp2_with fail
  go_ret
  exact ⟨rfl, rfl⟩

theorem shp_from (A : Option Addr) (n cap : Nat) (h1 : 1 ≤ n) (h2 : n ≤ cap) (w : World) : (Instr.slice 52 (.slice A n cap) (some (.int .i64 1)) none none).run Try.prog w = .ok (.slice (if cap = 1 then A else A.map (·.add (1 * 3))) (n - 1) (cap - 1)) w := by
  by_cases hc : cap = 1
  · subst hc
    obtain rfl : n = 1 := by omega
    go_simp
  · rcases A with _ | ad
    · go_simp
      intro hh; omega
    · go_simp
      intro hh; omega

set_option maxHeartbeats 4000000 in
set_option maxRecDepth 100000 in
theorem spans1_stops (m : Nat) (c h x : Int) (A : Option Addr) (cA n : Nat) (ls : List Ly) (w : World) (hx : Rl w A ls) (ln : n = ls.length) (hn : n ≤ 60) (bn : Nat) (X : Nat → Nat → Prop) (w0 : World)
    (hN : NB w0 bn c h x (.slice A n cA)) (hX1 : ¬ X bn 26) (hX2 : ∀ k, w0.heap.size ≤ k → ¬ X k 23) (hB : Below w.heap.size w w0) :
    SeqStopsK Fence.wide m Try.prog 48 #[.pointer (some ⟨bn, 0, none⟩)] (encS ⟨c, h, x, ls⟩) (Kx w.heap.size X) (fun ys => ys = stL ⟨c, h, x, ls⟩) (fun pre => pre <+: stL ⟨c, h, x, ls⟩) 60 w0 := by
  intro l J Jx W hW hJ hJx hY h0
  have HY := Lib.hid hY; have HJ := Lib.hid hJ; have HX1 := Lib.hid hX1; have HX2 := Lib.hid hX2
  have HX := Lib.hid hx; have LX := Lib.hid ln
  have NW := Lib.hid (NB.below hN hW)
  have BW := Lib.hid (chain hB hW)
  have SW : w0.heap.size ≤ W.heap.size := hW.size
  have J0 := Lib.hid h0
  have hn1 : n ≤ 1000 := by omega
  obtain ⟨er, her⟩ : ∃ er, er = errN ⟨c, h, x, ls⟩ := ⟨_, rfl⟩
  have HER := Lib.hid her
  obtain ⟨c0, c1, c2, c3⟩ := NW.out.cells
  clear hY hJ hJx hX1 hX2 hx ln hN hB hW h0 her
  refine callsIn_of_wp Try.func48 rfl trivial ?_ rfl
  simp only [Try.ntmps48, List.size_toArray, List.length_cons, List.length_nil, Nat.reduceAdd, Nat.reduceSub, Array.replicate_succ, Array.replicate_zero, List.push_toArray, List.append_toArray, List.nil_append, List.cons_append]
  gi_wp2_with fail
  refine ⟨trivial, fun z => by simp [Fence.wide] at z, (callsIn_wide.2 (shapes_new c h x A cA n ls _ (HX.out.below BW.out) LX.out hn1)).mono ?_⟩
  rintro e w1 ⟨A1, k1, n1, rfl, hn1', hR, hb, hd1, hd2, hnew⟩
  rw [← HER.out]
  have BW1 := Lib.hid (chain BW.out hb)
  have N1 := Lib.hid (NB.below NW.out hb)
  have J1 := Lib.hid (HJ.out _ _ _ none J0.out (grown_below hb) (fun r e => by cases e))
  have R1 := Lib.hid hR; have L1 := Lib.hid hn1'; have C1 := Lib.hid hd1; have NEW := Lib.hid hnew
  have sz1 := hb.size
  clear hb hR hn1' hd1 hd2 hnew c0 c1 c2 c3 J0 NW BW
  by_cases h0 : ¬ er = 0
  · have b0 : (er != 0) = true := by simpa using h0
    have E0 : Hid (stL ⟨c, h, x, ls⟩ = []) := stI_none (by rw [← HER.out]; exact h0) _
    clear h0
    gi_wp2_with fail
    refine bodyPost_ret (results_none rfl _ _ _) rfl ?_
    exact ⟨⟨_, rfl⟩, .inl ⟨[], E0.out.symm, J1.out⟩⟩
  have h0 : er = 0 := by omega
  have b0 : (er != 0) = false := by rw [h0]; rfl
  have HE : Hid (errN ⟨c, h, x, ls⟩ = 0) := HER.out.symm.trans h0
  clear h0 HER
  obtain ⟨ss, hss⟩ : ∃ ss, ss = shL ⟨c, h, x⟩ ls := ⟨_, rfl⟩
  have SS := Lib.hid hss
  have hR := R1.out; have hL := L1.out
  rw [shN_ok HE.out, ← hss] at hR hL
  have sl : ss.length = n + 1 := by rw [hss, sh_len, ← LX.out]
  obtain ⟨bS, oS, rfl, lS, qS⟩ := hR (by omega)
  obtain ⟨nb, cs, fr, hblk⟩ := NEW.out _ rfl
  have nb : W.heap.size ≤ bS := nb
  have hblk : w1.heap[bS]? = some (.cells cs 23 fr) := hblk
  have QS := Lib.hid qS; have BLK := Lib.hid hblk; have NBK := Lib.hid nb
  obtain rfl : n1 = n + 1 := by omega
  have cap1 : n + 1 ≤ k1 := C1.out
  have hsl := shp_from (some ⟨bS, oS, none⟩) (n + 1) k1 (by omega) cap1
  obtain ⟨A2, hA2⟩ : ∃ A2 : Option Addr, A2 = (if k1 = 1 then some ⟨bS, oS, none⟩ else (some ⟨bS, oS, none⟩ : Option Addr).map (·.add (1 * 3))) := ⟨_, rfl⟩
  rw [← hA2, Nat.add_sub_cancel] at hsl
  obtain ⟨c2, hc2⟩ : ∃ c2, c2 = k1 - 1 := ⟨_, rfl⟩
  rw [← hc2] at hsl
  have HA2 : Hid (0 < n → A2 = some ⟨bS, oS + 3, none⟩) := fun hp => by rw [hA2, if_neg (by omega)]; rfl
  have SL := Lib.hid sl; have CAP := Lib.hid cap1
  clear hss hR hL sl qS hblk nb cap1 hA2 hc2 NEW C1 R1 L1
  have NU0 : Hid (numS ⟨c, h, x, ls⟩ 0 = 0) := rfl
  have FI0 : Hid (firstS ⟨c, h, x, ls⟩ 0 = 0) := rfl
  gi_wp2_with fail
  gi_loopw [5, 6, 20] (fun s5 s6 s20 wr => ∃ k : Nat, k ≤ n ∧ s20 = .int .i64 (k : Int) ∧ s5 = .int .i64 (numS ⟨c, h, x, ls⟩ k) ∧ s6 = .int .i64 (firstS ⟨c, h, x, ls⟩ k) ∧ Hid (J (stI ⟨c, h, x, ls⟩ k) wr) ∧ Hid (Below w.heap.size w wr) ∧ Hid (NB wr bn c h x (.slice A n cA)) ∧ Hid (wr.heap[bS]? = some (.cells cs 23 fr))) (fun _ _ s20 _ => n - (intOf s20).toNat)
  case atStart => exact ⟨0, Nat.zero_le _, rfl, by rw [NU0.out], by rw [FI0.out], J1, BW1, N1, BLK⟩
  case round =>
    obtain ⟨k, hk, rfl, rfl, rfl, JK, BK, NK, SK⟩ := hrel
    by_cases kn : k < n
    · have ki : (k : Int) < (n : Int) := by omega
      have kl : k < ls.length := by rw [← LX.out]; exact kn
      have G := good_i HE.out kl
      obtain ⟨S, hS⟩ : ∃ S, S = (atN ⟨c, h, x, ls⟩ (k : Nat)).u := ⟨_, rfl⟩
      obtain ⟨P, hP⟩ : ∃ P, P = (atN ⟨c, h, x, ls⟩ (k : Nat)).p := ⟨_, rfl⟩
      have gS : ss[k + 1]? = some S := by
        have hl := get_ly kl
        have hK : (knL ⟨c, h, x⟩ 0 ls)[k]? = some (atN ⟨c, h, x, ls⟩ (k : Nat)) := by
          rw [at_some HE.out hl]
          have := kn_get ls ⟨c, h, x⟩ 0 k _ hl
          rw [Int.zero_add] at this
          exact this
        rw [SS.out, sh_kn ls _ 0, List.getElem?_cons_succ, List.getElem?_map, hK, hS]; rfl
      obtain ⟨t0, t1, t2⟩ := sh_at QS.out gS
      have e1 : ∀ i, wr.cell? ⟨bS, i, none⟩ = w1.cell? ⟨bS, i, none⟩ := fun i => World.cell?_of_block (SK.out.trans BLK.out.symm)
      have z0 : wr.cell? ⟨bS, oS + 3 + k * 3, none⟩ = some (.int .i64 S.c) := by rw [e1, show oS + 3 + k * 3 = oS + (k + 1) * 3 by omega]; exact t0
      have z1 : wr.cell? ⟨bS, oS + 3 + k * 3 + 1, none⟩ = some (.int .i64 S.h) := by rw [e1, show oS + 3 + k * 3 + 1 = oS + (k + 1) * 3 + 1 by omega]; exact t1
      have z2 : wr.cell? ⟨bS, oS + 3 + k * 3 + 2, none⟩ = some (.int .i64 S.x) := by rw [e1, show oS + 3 + k * 3 + 2 = oS + (k + 1) * 3 + 2 by omega]; exact t2
      obtain ⟨c0, c1, c2', c3⟩ := NK.out.cells
      have eA := HA2.out (by omega)
      subst eA
      have PP := Lib.hid hP; have HS := Lib.hid hS; have GG := Lib.hid G
      have szr := BK.out.size
      have PR : Hid (∀ w', Rl w' A ls → Calls Try.prog 49 #[.agg #[.int .i64 c, .int .i64 h, .int .i64 x, .slice A n cA], .int .i64 (k : Int)] w' fun e w'' => e = .returned (.int .i64 P) ∧ Below w'.heap.size w' w'') := fun w' z => by rw [hP]; exact products_of c h x A cA n ls (k : Int) w' z LX.out hn1
      clear gS t0 t1 t2 e1 hP hS G
      have lN := NK.out.lt
      gi_wp2_with fail
      have BA : Hid (Below w.heap.size w (wr.alloc (.cells #[.int .i64 S.c, .int .i64 S.h, .int .i64 S.x] 23))) := BK.out.alloc szr _
      refine ⟨trivial, fun z => by simp [Fence.wide] at z, (callsIn_wide.2 (PR.out _ (HX.out.below BA.out))).mono ?_⟩
      rintro e w2 ⟨rfl, hb⟩
      have BR2 : Hid (Below wr.heap.size wr w2) := chain ((Below.refl _ wr).alloc (Nat.le_refl _) _) hb
      have OB : Hid (SB w2 wr.heap.size S) := (SB.new wr S).below hb
      have BK2 := Lib.hid (chain BK.out BR2.out)
      have NK2 := Lib.hid (NK.out.below BR2.out)
      have SK2 : Hid (w2.heap[bS]? = some (.cells cs 23 fr)) := (BR2.out.block bS (Array.getElem?_eq_some_iff.1 SK.out).1).trans SK.out
      have JK2 := Lib.hid (HJ.out _ _ _ none JK.out (grown_below BR2.out) (fun r e => by cases e))
      clear hb z0 z1 z2 c0 c1 c2' c3 lN BA JK
      by_cases p0 : P = 0
      · have bp : (P == 0) = true := by rw [p0]; rfl
        have nS : ¬ isS ⟨c, h, x, ls⟩ k := fun z => z.2 (PP.out.symm.trans p0)
        have E1 := Lib.hid (stI_no nS)
        have F1 : Hid (firstS ⟨c, h, x, ls⟩ k = firstS ⟨c, h, x, ls⟩ (k + 1)) := by
          have q := gatesL_all GG.out (k : Nat)
          rw [← PP.out, p0] at q
          show ((gatesK ⟨c, h, x, ls⟩ k).length : Int) = ((gatesK ⟨c, h, x, ls⟩ (k + 1)).length : Int)
          rw [gatesK_next, List.length_append, Int.natCast_add, q]; omega
        clear p0 nS
        gi_wp2_with fail
        go_roundw
        case rel => exact ⟨k + 1, by omega, by go_num, by unfold numS; rw [E1.out], by rw [F1.out], by rw [E1.out]; exact JK2, BK2, NK2, SK2⟩
        case measure => simp [intOf]; omega
      · have bp : (P == 0) = false := by simpa using p0
        have hS : isS ⟨c, h, x, ls⟩ k := ⟨by rw [← LX.out]; exact kn, fun z => p0 (PP.out.trans z)⟩
        have E1 := Lib.hid (stI_yes hS)
        obtain ⟨⟨f1, f2⟩, f3, f4, f5, f6, f7, f8⟩ := st_facts (by rw [← LX.out]; exact hn) (⟨k, hS⟩ : St ⟨c, h, x, ls⟩)
        have f9 := gates_bd (c := c) (h := h) (x := x) (ls := ls)
        obtain ⟨nu, hnu⟩ : ∃ nu, nu = numS ⟨c, h, x, ls⟩ k := ⟨_, rfl⟩
        obtain ⟨fi, hfi⟩ : ∃ fi, fi = firstS ⟨c, h, x, ls⟩ k := ⟨_, rfl⟩
        obtain ⟨ea, hea⟩ : ∃ ea, ea = eachS ⟨c, h, x, ls⟩ k := ⟨_, rfl⟩
        have f4 : 1 ≤ P := by rw [PP.out]; exact f4
        have f5 : fi + P ≤ 512 := by rw [hfi, PP.out]; exact Int.le_trans f5 (by omega)
        have f7 : S.n * ea = P := by rw [hea, PP.out, HS.out]; exact f7
        have f8 : 1 ≤ S.n := by rw [HS.out]; exact f8
        have f3 : 0 ≤ fi := by rw [hfi]; exact f3
        have f1 : 0 ≤ nu := by rw [hnu]; exact f1
        have f2 : nu ≤ 60 := by rw [hnu]; exact f2
        have f6 : 1 ≤ ea := by rw [hea]; exact f6
        have dv : P.tdiv S.n = ea := by rw [← f7]; exact Int.mul_tdiv_cancel_left ea (by omega)
        have nz : ¬ S.n = 0 := by omega
        have nz2 : (S.n == 0) = false := by simp; omega
        have ea9 : ea ≤ 512 := by
          have := Int.mul_le_mul_of_nonneg_right f8 (show 0 ≤ ea by omega)
          omega
        have v1 : IntKind.i64.wrap (P.tdiv S.n) = ea := by rw [dv, IntWalk.i64_in _ (by omega)]
        have v2 : wrap64 (P.tdiv S.n) = ea := by rw [dv, IntWalk.wrap64_in _ (by omega)]
        have v3 : IntKind.i64.wrap (nu + 1) = nu + 1 := by rw [IntWalk.i64_in _ (by omega)]
        have v4 : IntKind.i64.wrap (fi + P) = fi + P := by rw [IntWalk.i64_in _ (by omega)]
        have v5 : wrap64 (nu + 1) = nu + 1 := by rw [IntWalk.wrap64_in _ (by omega)]
        have v6 : wrap64 (fi + P) = fi + P := by rw [IntWalk.wrap64_in _ (by omega)]
        have NU : Hid (nu + 1 = numS ⟨c, h, x, ls⟩ (k + 1)) := by show nu + 1 = _; rw [hnu]; unfold numS; rw [E1.out, List.length_append]; simp
        have FI : Hid (fi + P = firstS ⟨c, h, x, ls⟩ (k + 1)) := by
          have q := gatesL_all GG.out (k : Nat)
          rw [← PP.out] at q
          rw [hfi]
          show ((gatesK ⟨c, h, x, ls⟩ k).length : Int) + P = ((gatesK ⟨c, h, x, ls⟩ (k + 1)).length : Int)
          rw [gatesK_next, List.length_append, Int.natCast_add, q]
        have SZ : Hid (∀ w', Calls Try.prog 28 #[.agg #[.int .i64 S.c, .int .i64 S.h, .int .i64 S.x]] w' fun e w'' => e = .returned (.int .i64 S.n) ∧ Below w'.heap.size w' w'') := fun w' => gsize8 S (by rw [HS.out]; exact GG.out.ur) w'
        have YL : Hid (∀ W1, J (stI ⟨c, h, x, ls⟩ k) W1 → YieldAt Fence.wide (m - 1) Try.prog l #[.int .i64 nu, .agg #[.int .i64 (k : Int), .int .i64 fi, .int .i64 P, .int .i64 ea]] W1 fun e W' => (e = .returned (.bool true) ∧ J (stI ⟨c, h, x, ls⟩ (k + 1)) W' ∧ Kx w.heap.size X W1 W') ∨ (e = .returned (.bool false) ∧ Jx (stI ⟨c, h, x, ls⟩ (k + 1)) W')) := fun W1 j1 => by
          have := HY.out (stI ⟨c, h, x, ls⟩ k) ⟨k, hS⟩ W1 j1 (by have := stI_len (N := ⟨c, h, x, ls⟩) k; omega)
          rw [hnu, hfi, hea, PP.out, E1.out]
          exact this
        obtain ⟨o0, o1, o2⟩ := OB.out.cells
        rw [← hnu, ← hfi]
        clear p0 f1 f2 f3 f4 f5 f6 f7 f8 f9 dv ea9 hnu hfi hea
        gi_wp2_with fail
        refine ⟨trivial, fun z => by simp [Fence.wide] at z, (callsIn_wide.2 (SZ.out _)).mono ?_⟩
        rintro e w3 ⟨rfl, hb⟩
        have BK3 := Lib.hid (chain BK2.out hb)
        have NK3 := Lib.hid (NK2.out.below hb)
        have SK3 : Hid (w3.heap[bS]? = some (.cells cs 23 fr)) := (hb.block bS (Array.getElem?_eq_some_iff.1 SK2.out).1).trans SK2.out
        have j3 := HJ.out _ _ _ none JK2.out (grown_below hb) (fun r e => by cases e)
        obtain ⟨fn, tm, asg, bod, hy, hR⟩ := YL.out _ j3
        have HRR := Lib.hid hR
        clear hb o0 o1 o2 j3 hR JK2 OB
        gi_wp2_with fail
        refine ⟨fun z => by simp [Fence.wide] at z, HRR.out.mono ?_⟩
        rintro e w4 (⟨rfl, hj4, hk4⟩ | ⟨rfl, hj4⟩)
        · have JK4 := Lib.hid hj4
          have BK4 := Lib.hid (BK3.out.trans hk4.below)
          have NK4 : Hid (NB w4 bn c h x (.slice A n cA)) := hk4.keep _ _ _ _ NK3.out HX1.out
          have SK4 : Hid (w4.heap[bS]? = some (.cells cs 23 fr)) := hk4.keep _ _ _ _ SK3.out (HX2.out _ (Nat.le_trans SW NBK.out))
          clear hj4 hk4 hy
          gi_wp2_with fail
          go_roundw
          case rel => exact ⟨k + 1, by omega, by go_num, by rw [NU.out], by rw [FI.out], JK4, BK4, NK4, SK4⟩
          case measure => simp [intOf]; omega
        · have JX4 := Lib.hid hj4
          clear hj4 hy
          gi_wp2_with fail
          refine bodyPost_ret (results_none rfl _ _ _) rfl ?_
          exact ⟨⟨_, rfl⟩, .inr ⟨_, stI_pre (by show k + 1 ≤ ls.length; rw [← LX.out]; omega), JX4.out⟩⟩
    · obtain rfl : k = n := by omega
      gi_wp2_with fail
      go_end0
      exact ⟨⟨_, rfl⟩, .inl ⟨_, by rw [LX.out]; rfl, JK.out⟩⟩

end Go.Proofs.Ytklgjhldebdegaa

namespace Go.Proofs.Ytklgjhldebdegaa
open Go.RowKit Go.Shelf
attribute [local go_sem] Oper.semAt_some

/-- A stage's own cells. -/
def PB (w : World) (b : Nat) (l f m e : Int) : Prop := w.heap[b]? = some (.cells #[.int .i64 l, .int .i64 f, .int .i64 m, .int .i64 e] 76 (0, 0))
theorem PB.lt {w : World} {b : Nat} {l f m e : Int} (H : PB w b l f m e) : b < w.heap.size := (Array.getElem?_eq_some_iff.1 H).1
theorem PB.below {w w' : World} {b : Nat} {l f m e : Int} (H : PB w b l f m e) (hb : Below w.heap.size w w') : PB w' b l f m e := (hb.block b H.lt).trans H
theorem PB.cells {w : World} {b : Nat} {l f m e : Int} (H : PB w b l f m e) :
    w.cell? ⟨b, 0, none⟩ = some (.int .i64 l) ∧ w.cell? ⟨b, 1, none⟩ = some (.int .i64 f) ∧ w.cell? ⟨b, 2, none⟩ = some (.int .i64 m) ∧ w.cell? ⟨b, 3, none⟩ = some (.int .i64 e) :=
  ⟨by rw [Lib.cell_of_heap H]; rfl, by rw [Lib.cell_of_heap H]; rfl, by rw [Lib.cell_of_heap H]; rfl, by rw [Lib.cell_of_heap H]; rfl⟩
end Go.Proofs.Ytklgjhldebdegaa

namespace Go.Proofs.Ytklgjhldebdegaa
open Go.RowKit Go.Shelf
attribute [local go_sem] Oper.semAt_some

/-! ### Blocks that are laid one behind the other -/
theorem cb_own {β : Type} (b T : Nat) (v : Value) : Own (fun (_ : β) W => CB W b T v) := cells_own b _ T _

set_option maxHeartbeats 1000000 in
theorem gtotal8 (c h x : Int) (A : Option Addr) (cA n : Nat) (ls : List Ly) (w : World) (hx : Rl w A ls) (ln : n = ls.length) (hn : n ≤ 60) :
    Calls Try.prog 27 #[.agg #[.int .i64 c, .int .i64 h, .int .i64 x, .slice A n cA]] w fun e w' => e = .returned (.int .i64 (totP (knN ⟨c, h, x, ls⟩))) ∧ Below w.heap.size w w' := by
  have HX := Lib.hid hx; have LX := Lib.hid ln
  have hn1 : n ≤ 1000 := by omega
  clear hx ln
  go_enter Try.func27, Try.ntmps27
  go_wp2_with fail
  refine (all_any c h x A cA n ls _ (HX.out.below ((Below.refl _ w).alloc (Nat.le_refl _) _)) LX.out hn1).mono ?_
  rintro e w1 ⟨rfl, hb⟩
  have B1 := Lib.hid (chain ((Below.refl w.heap.size w).alloc (Nat.le_refl _) _) hb)
  clear hb
  go_wp2_with fail
  go_ret
  exact ⟨rfl, B1.out⟩

set_option maxHeartbeats 4000000 in
set_option maxRecDepth 100000 in
theorem gstages8 (c h x : Int) (A : Option Addr) (cA n : Nat) (ls : List Ly) (w : World) (hx : Rl w A ls) (ln : n = ls.length) (hn : n ≤ 60) :
    Calls Try.prog 22 #[.agg #[.int .i64 c, .int .i64 h, .int .i64 x, .slice A n cA]] w (RowTo icells (stagesN ⟨c, h, x, ls⟩) w) := by
  obtain ⟨i0, hi, hz0, hz1, hz2⟩ := info_parts Try.info3
  have HX := Lib.hid hx; have LX := Lib.hid ln
  clear hx ln
  obtain ⟨m, hm⟩ : ∃ m : Nat, 9 ≤ m := ⟨9, Nat.le_refl _⟩
  refine (callsIn_wide (n := m)).1 ?_
  refine callsIn_of_wp_marks Try.func22 rfl trivial ?_ rfl
  simp only [Try.ntmps22, List.size_toArray, List.length_cons, List.length_nil, Nat.reduceAdd, Nat.reduceSub, Array.replicate_succ, Array.replicate_zero, List.push_toArray, List.append_toArray, List.nil_append, List.cons_append]
  gi_wp2_with fail
  refine ⟨trivial, fun z => by simp [Fence.wide] at z, (callsIn_wide.2 (gspans8 c h x (.slice A n cA) _)).mono ?_⟩
  rintro e w1 ⟨rfl, rfl⟩
  gi_wp2_with fail
  have bL : Boxed (((w.alloc (.cells #[.int .i64 c, .int .i64 h, .int .i64 x, .slice A n cA] 26)).alloc (.cells #[.slice none 0 0] 33)).alloc (.cells #[.int .i64 c, .int .i64 h, .int .i64 x, .slice A n cA] 26)) (w.heap.size + 1) 33 (.slice none 0 0) := by
    have := (Boxed.new (w.alloc (.cells #[.int .i64 c, .int .i64 h, .int .i64 x, .slice A n cA] 26)) 33 (.slice none 0 0)).alloc (.cells #[.int .i64 c, .int .i64 h, .int .i64 x, .slice A n cA] 26)
    rwa [World.size_alloc] at this
  have bN : NB (((w.alloc (.cells #[.int .i64 c, .int .i64 h, .int .i64 x, .slice A n cA] 26)).alloc (.cells #[.slice none 0 0] 33)).alloc (.cells #[.int .i64 c, .int .i64 h, .int .i64 x, .slice A n cA] 26)) (w.heap.size + 1 + 1) c h x (.slice A n cA) := by
    have := NB.new ((w.alloc (.cells #[.int .i64 c, .int .i64 h, .int .i64 x, .slice A n cA] 26)).alloc (.cells #[.slice none 0 0] 33)) c h x (.slice A n cA)
    rwa [World.size_alloc, World.size_alloc] at this
  have hB0 : Below w.heap.size w (((w.alloc (.cells #[.int .i64 c, .int .i64 h, .int .i64 x, .slice A n cA] 26)).alloc (.cells #[.slice none 0 0] 33)).alloc (.cells #[.int .i64 c, .int .i64 h, .int .i64 x, .slice A n cA] 26)) := (((Below.refl _ w).alloc (Nat.le_refl _) _).alloc (by simp) _).alloc (by simp; omega) _
  have hsz : (((w.alloc (.cells #[.int .i64 c, .int .i64 h, .int .i64 x, .slice A n cA] 26)).alloc (.cells #[.slice none 0 0] 33)).alloc (.cells #[.int .i64 c, .int .i64 h, .int .i64 x, .slice A n cA] 26)).heap.size = w.heap.size + 3 := by simp
  obtain ⟨W0, hW0⟩ : ∃ W0, (((w.alloc (.cells #[.int .i64 c, .int .i64 h, .int .i64 x, .slice A n cA] 26)).alloc (.cells #[.slice none 0 0] 33)).alloc (.cells #[.int .i64 c, .int .i64 h, .int .i64 x, .slice A n cA] 26)) = W0 := ⟨_, rfl⟩
  rw [hW0] at bL bN hB0 hsz ⊢
  clear hW0
  refine wpIn_rangeFunc_ownH (F := Fence.wide) rfl (by omega) (gf := 48) (lb := #[.pointer (some ⟨w.heap.size + 1 + 1, 0, none⟩)]) rfl trivial (enters_of Try.func48 (by kernel_rfl) rfl)
    (spans1_stops (m - 1) c h x A cA n ls w HX.out LX.out hn (w.heap.size + 1 + 1) (fun _ T => T = 3 ∨ T = 33) W0 bN (by decide) (fun _ _ => by decide) hB0) (fun h k => h.trans k) (fun W l o o' => Kx.put (by omega) W l o o') (Below.refl _ _) (fun _ => rfl)
    (fun pre W => (∃ v, Boxed W (w.heap.size + 1) 33 v ∧ W.ownsRow w.heap.size 3 1 v pre.length ((pre.map (fun y => ((y.1 : Nat) : Int))).flatMap icells) ∧ True) ∧ Below w.heap.size w W)
    (fun _ _ _ => False)
    (OwnFrom.and (Own.from (holdsRow_own w.heap.size (w.heap.size + 1) 33 3 1 (fun pre : List (St ⟨c, h, x, ls⟩) => pre.length) (fun pre => (pre.map (fun y => ((y.1 : Nat) : Int))).flatMap icells) (fun _ _ => True)) _) (ownFrom_below (Nat.le_refl _) (by omega)))
    (fun _ _ _ _ _ hs _ _ => hs)
    ⟨⟨_, bL, World.ownsRow_nil _ _ _ _, trivial⟩, hB0⟩
    (fun y a' W => ∃ Bx, w.heap.size + 1 < Bx ∧ PB W Bx ((y.1 : Nat) : Int) (firstS ⟨c, h, x, ls⟩ y.1) (manyS ⟨c, h, x, ls⟩ y.1) (eachS ⟨c, h, x, ls⟩ y.1) ∧ a' = { tmps := #[.agg #[.int .i64 c, .int .i64 h, .int .i64 x, .slice A n cA], .pointer (some ⟨w.heap.size, 0, none⟩), .slice none 0 0, .pointer (some ⟨w.heap.size + 1, 0, none⟩), undef, .pointer (some ⟨Bx, 0, none⟩), .agg #[.int .i64 c, .int .i64 h, .int .i64 x, .slice A n cA], .func (.func 48) #[] #[.pointer (some ⟨w.heap.size + 1 + 1, 0, none⟩)], .int .i64 (numS ⟨c, h, x, ls⟩ y.1), .agg #[.int .i64 ((y.1 : Nat) : Int), .int .i64 (firstS ⟨c, h, x, ls⟩ y.1), .int .i64 (manyS ⟨c, h, x, ls⟩ y.1), .int .i64 (eachS ⟨c, h, x, ls⟩ y.1)], undef, undef, undef, undef, undef, undef], defers := [] })
    (fun y a' _ P1 P2 row hs hg hr => by obtain ⟨Bx, e1, e2, e3⟩ := hs; exact ⟨Bx, e1, cells_own Bx _ _ _ () P1 P2 row e2 hg (fun r e => (hr r e).2), e3⟩)
    ?assign ?body ?done ?stop
  case assign =>
    rintro l pre y W K ⟨⟨v, hv, hrow, _⟩, hB⟩ hK
    simp only [encS]
    gi_wp2_with fail
    exact hK _ _ ((KeepsOthers.alloc _ _).from _) ((Kx.refl _ _ W).alloc hB.size _) ⟨⟨v, hv.alloc _, hrow.alloc _, trivial⟩, hB.alloc hB.size _⟩ ⟨W.heap.size, hv.lt, heap_alloc_new W _, rfl⟩
  case body =>
    rintro l pre y a' W hl ⟨r, hr⟩ ⟨⟨v, hv, hrow, _⟩, hB⟩ ⟨Bx, hBx, bX, rfl⟩ hlt
    obtain ⟨x0, x1, x2, x3⟩ := bX.cells
    have hc := hv.cell
    have lX := bX.lt
    have szW := hB.size
    have HRW := Lib.hid hrow; have HV := Lib.hid hv; have HBB := Lib.hid hB; have BX := Lib.hid bX
    clear hrow hv hB bX hr hl x1 x2 x3
    gi_wp2_with (gi_at_builtin; refine wpListIn_append_own _ rfl _ _ 33 rfl w.heap.size 3 i0 (.int .i64 0) 1 8 Try.underlying33 hi hz0 hz1 hz2 rfl (by decide) _ _ _ rfl (HRW.out.alloc _) ⟨W.heap.size, 0, none⟩ 1 1 (icells ((y.1 : Nat) : Int)) rfl rfl (cell_one_new _ _ _) (icells_one _) (by unfold maxLen; omega) (by omega) (by simp; omega) ?_; intro v' w1 hown' hgrow _; obtain ⟨g', cap', rfl⟩ := ownsRow_succ hown'; obtain ⟨hv1, hv2, hr2, hk2, hb2⟩ := HV.out.appended (by decide) HRW.out HBB.out.size (by omega) hown' hgrow; have hc1 := hv1.cell; have hf1 := hv1.frozen)
    refine ⟨hk2.from _, ⟨hb2, fun k cs T fr h0 hx => ?_⟩, ⟨⟨_, hv2, by simpa using hr2, trivial⟩, HBB.out.trans hb2⟩⟩
    have q0 : k ≠ w.heap.size + 1 := fun e => by subst e; rw [show W.heap[w.heap.size + 1]? = _ from HV.out] at h0; cases h0; exact hx (.inr rfl)
    have q1 := (Below.heap_alloc W (.cells #[.int .i64 ((y.1 : Nat) : Int)] 3) k (Array.getElem?_eq_some_iff.1 h0).1).trans h0
    have q2 := (hgrow.block k (Array.getElem?_eq_some_iff.1 q1).1 (own_ne_type (HRW.out.alloc _) q1 (fun e => hx (.inl e)))).trans q1
    exact (Below.heap_setCell _ _ _ _ q0).trans q2
  case done =>
    rintro D ys W hD rfl ⟨⟨v, hv, hrow, _⟩, hB⟩ hK
    have hc := hv.cell
    obtain ⟨A2, c2, rfl, d1, d2, d3, d4⟩ := own_cap icells_len (by decide) (ownsRow_putObj hrow (.deferred none) hK rfl)
    have D1 := Lib.hid d1; have D2 := Lib.hid d2; have D3 := Lib.hid d3; have D4 := Lib.hid d4; have HK := Lib.hid hK; have HBB := Lib.hid hB
    clear d1 d2 d3 d4 hrow hB hK
    gi_wp2_with fail
    refine ⟨by simp, .inl ⟨_, _, rfl, run_takeDeferred HK.out, ?_⟩⟩
    refine ⟨_, results_tmp rfl _ _ _, A2, c2, _, rfl, ?_, ?_, HBB.out.trans (belowK_b (w := w) (Nat.le_refl _) W D _ _ (by omega) HK.out rfl rfl), D3.out, D4.out⟩
    · rw [← stL_st, List.length_map]
    · rw [← stL_st]; exact D2.out
  case stop =>
    rintro D q pre W _ _ hf _
    exact hf.elim

end Go.Proofs.Ytklgjhldebdegaa

namespace Go.Proofs.Ytklgjhldebdegaa
open Go.RowKit Go.Shelf
attribute [local go_sem] Oper.semAt_some

theorem cb_put {W : World} {b T D : Nat} {v : Value} (o : Obj) (h : CB W b T v) (hD : b ≠ D) : CB (W.putObj D o) b T v := (World.putObj_heap_other hD).trans h

set_option maxHeartbeats 4000000 in
set_option maxRecDepth 100000 in
theorem grange8 (c h x : Int) (A : Option Addr) (cA n : Nat) (ls : List Ly) (s : Int) (a b : Int) (hab : rangeN ⟨c, h, x, ls⟩ s = (a, b)) (w : World) (hx : Rl w A ls) (ln : n = ls.length) (hn : n ≤ 60) :
    Calls Try.prog 23 #[.agg #[.int .i64 c, .int .i64 h, .int .i64 x, .slice A n cA], .int .i64 s] w fun e w' => e = .returned (.tuple #[.int .i64 a, .int .i64 b]) ∧ Below w.heap.size w w' := by
  have HAB := Lib.hid hab
  have HX := Lib.hid hx; have LX := Lib.hid ln
  clear hx ln hab
  obtain ⟨m, hm⟩ : ∃ m : Nat, 9 ≤ m := ⟨9, Nat.le_refl _⟩
  refine (callsIn_wide (n := m)).1 ?_
  refine callsIn_of_wp_marks Try.func23 rfl trivial ?_ rfl
  simp only [Try.ntmps23, List.size_toArray, List.length_cons, List.length_nil, Nat.reduceAdd, Nat.reduceSub, Array.replicate_succ, Array.replicate_zero, List.push_toArray, List.append_toArray, List.nil_append, List.cons_append]
  gi_wp2_with fail
  refine ⟨trivial, fun z => by simp [Fence.wide] at z, (callsIn_wide.2 (gspans8 c h x (.slice A n cA) _)).mono ?_⟩
  rintro e w1 ⟨rfl, rfl⟩
  gi_wp2_with fail
  obtain ⟨os, hos⟩ : ∃ os : List Obj, os = [.cells #[.int .i64 c, .int .i64 h, .int .i64 x, .slice A n cA] 26, .cells #[.int .i64 s] 3, .cells #[.int .i64 0] 3, .cells #[.int .i64 0] 3, .cells #[.int .i64 c, .int .i64 h, .int .i64 x, .slice A n cA] 26] := ⟨_, rfl⟩
  have bS : CB (os.foldl World.alloc w) (w.heap.size + 1) 3 (.int .i64 s) := tow_at os w 1 _ (by rw [hos]; rfl)
  have b0 : CB (os.foldl World.alloc w) (w.heap.size + 1 + 1) 3 (.int .i64 0) := tow_at os w 2 _ (by rw [hos]; rfl)
  have b1 : CB (os.foldl World.alloc w) (w.heap.size + 1 + 1 + 1) 3 (.int .i64 0) := tow_at os w 3 _ (by rw [hos]; rfl)
  have bN : NB (os.foldl World.alloc w) (w.heap.size + 1 + 1 + 1 + 1) c h x (.slice A n cA) := tow_at os w 4 _ (by rw [hos]; rfl)
  have hB0 := tow_below os w
  have hsz : (os.foldl World.alloc w).heap.size = w.heap.size + 5 := by rw [tow_size, hos]; rfl
  obtain ⟨W0, hW0⟩ : ∃ W0, os.foldl World.alloc w = W0 := ⟨_, rfl⟩
  have eW : [.cells #[.int .i64 c, .int .i64 h, .int .i64 x, .slice A n cA] 26, .cells #[.int .i64 s] 3, .cells #[.int .i64 0] 3, .cells #[.int .i64 0] 3, .cells #[.int .i64 c, .int .i64 h, .int .i64 x, .slice A n cA] 26].foldl World.alloc w = W0 := by rw [← hos]; exact hW0
  rw [hW0] at bS b0 b1 bN hB0 hsz
  simp only [List.foldl_cons, List.foldl_nil] at eW
  rw [eW]
  clear hW0 eW hos os
  refine wpIn_rangeFunc_ownH (F := Fence.wide) rfl (by omega) (gf := 48) (lb := #[.pointer (some ⟨w.heap.size + 1 + 1 + 1 + 1, 0, none⟩)]) rfl trivial (enters_of Try.func48 (by kernel_rfl) rfl)
    (spans1_stops (m - 1) c h x A cA n ls w HX.out LX.out hn (w.heap.size + 1 + 1 + 1 + 1) (fun k _ => k = w.heap.size + 1 + 1 ∨ k = w.heap.size + 1 + 1 + 1) W0 bN (by omega) (fun _ _ => by omega) hB0) (fun h k => h.trans k) (fun W l o o' => Kx.put (by omega) W l o o') (Below.refl _ _) (fun _ => rfl)
    (fun pre W => ((((∀ y ∈ pre, ¬ numS ⟨c, h, x, ls⟩ y.1 = s) ∧ CB W (w.heap.size + 1) 3 (.int .i64 s)) ∧ CB W (w.heap.size + 1 + 1) 3 (.int .i64 0)) ∧ CB W (w.heap.size + 1 + 1 + 1) 3 (.int .i64 0)) ∧ Below w.heap.size w W)
    (fun q _ W => (∃ y : St ⟨c, h, x, ls⟩, (q = .ret ∧ numS ⟨c, h, x, ls⟩ y.1 = s) ∧ CB W (w.heap.size + 1 + 1) 3 (.int .i64 (firstS ⟨c, h, x, ls⟩ y.1)) ∧ CB W (w.heap.size + 1 + 1 + 1) 3 (.int .i64 (manyS ⟨c, h, x, ls⟩ y.1))) ∧ Below w.heap.size w W)
    (OwnFrom.and (OwnFrom.and (OwnFrom.and (OwnFrom.and (ownFrom_pure _ _) (Own.from (cb_own _ _ _) _)) (Own.from (cb_own _ _ _) _)) (Own.from (cb_own _ _ _) _)) (ownFrom_below (Nat.le_refl _) (by omega)))
    (fun q => OwnFrom.and (fun p P1 P2 row hs hg hr => by obtain ⟨y, e1, e2, e3⟩ := hs; exact ⟨y, e1, cb_own _ _ _ () P1 P2 row e2 hg (fun r e => (hr r e).2), cb_own _ _ _ () P1 P2 row e3 hg (fun r e => (hr r e).2)⟩) (ownFrom_below (Nat.le_refl _) (by omega)))
    ⟨⟨⟨⟨by simp, bS⟩, b0⟩, b1⟩, hB0⟩
    (fun y a' W => ∃ Bx, w.heap.size + 1 + 1 + 1 < Bx ∧ PB W Bx ((y.1 : Nat) : Int) (firstS ⟨c, h, x, ls⟩ y.1) (manyS ⟨c, h, x, ls⟩ y.1) (eachS ⟨c, h, x, ls⟩ y.1) ∧ a' = { tmps := #[.agg #[.int .i64 c, .int .i64 h, .int .i64 x, .slice A n cA], .int .i64 s, .pointer (some ⟨w.heap.size, 0, none⟩), .pointer (some ⟨w.heap.size + 1, 0, none⟩), .pointer (some ⟨w.heap.size + 1 + 1, 0, none⟩), .pointer (some ⟨w.heap.size + 1 + 1 + 1, 0, none⟩), .int .i64 (numS ⟨c, h, x, ls⟩ y.1), .pointer (some ⟨Bx, 0, none⟩), .agg #[.int .i64 c, .int .i64 h, .int .i64 x, .slice A n cA], .func (.func 48) #[] #[.pointer (some ⟨w.heap.size + 1 + 1 + 1 + 1, 0, none⟩)], .int .i64 (numS ⟨c, h, x, ls⟩ y.1), .agg #[.int .i64 ((y.1 : Nat) : Int), .int .i64 (firstS ⟨c, h, x, ls⟩ y.1), .int .i64 (manyS ⟨c, h, x, ls⟩ y.1), .int .i64 (eachS ⟨c, h, x, ls⟩ y.1)], undef, undef, undef, undef, undef, undef, undef], defers := [] })
    (fun y a' _ P1 P2 row hs hg hr => by obtain ⟨Bx, e1, e2, e3⟩ := hs; exact ⟨Bx, e1, cells_own Bx _ _ _ () P1 P2 row e2 hg (fun r e => (hr r e).2), e3⟩)
    ?assign ?body ?done ?stop
  case assign =>
    rintro l pre y W K ⟨⟨⟨⟨hp, dS⟩, d0⟩, d1⟩, hB⟩ hK
    simp only [encS]
    gi_wp2_with fail
    have al := (Below.refl W.heap.size W).alloc (Nat.le_refl _) (.cells #[.int .i64 ((y.1 : Nat) : Int), .int .i64 (firstS ⟨c, h, x, ls⟩ y.1), .int .i64 (manyS ⟨c, h, x, ls⟩ y.1), .int .i64 (eachS ⟨c, h, x, ls⟩ y.1)] 76)
    exact hK _ _ ((KeepsOthers.alloc _ _).from _) ((Kx.refl _ _ W).alloc hB.size _) ⟨⟨⟨⟨hp, dS.below al⟩, d0.below al⟩, d1.below al⟩, hB.alloc hB.size _⟩ ⟨W.heap.size, by have := d1.lt; omega, heap_alloc_new W _, rfl⟩
  case body =>
    rintro l pre y a' W hl ⟨r, hr⟩ ⟨⟨⟨⟨hp, dS⟩, d0⟩, d1⟩, hB⟩ ⟨Bx, hBx, bX, rfl⟩ hlt
    obtain ⟨x0, x1, x2, x3⟩ := bX.cells
    have hc := dS.cell
    have z0 := d0.cell; have z1 := d1.cell; have q0 := d0.frozen; have q1 := d1.frozen
    have lX := bX.lt
    have szW := hB.size
    have D0 := Lib.hid d0; have D1 := Lib.hid d1; have DS := Lib.hid dS; have HBB := Lib.hid hB; have BX := Lib.hid bX; have HP := Lib.hid hp
    obtain ⟨nu, hnu⟩ : ∃ nu, nu = numS ⟨c, h, x, ls⟩ y.1 := ⟨_, rfl⟩
    rw [← hnu]
    have NU := Lib.hid hnu
    clear d0 d1 dS hB bX hr hl x0 x3 hp hnu
    by_cases hs : nu = s
    · have e1 : (nu == s) = true := by simpa using hs
      have HS := Lib.hid hs
      clear hs
      gi_wp2_with fail
      obtain ⟨fi, hfi⟩ : ∃ fi, fi = firstS ⟨c, h, x, ls⟩ y.1 := ⟨_, rfl⟩
      obtain ⟨ma, hma⟩ : ∃ ma, ma = manyS ⟨c, h, x, ls⟩ y.1 := ⟨_, rfl⟩
      rw [← hfi] at x1
      rw [← hma] at x2
      have FI := Lib.hid hfi; have MA := Lib.hid hma
      clear hfi hma
      refine region_round (S := fun w' => w'.cell? ⟨Bx, 1, none⟩ = some (.int .i64 fi) ∧ w'.cell? ⟨Bx, 2, none⟩ = some (.int .i64 ma)) (noDefers_of (by kernel_rfl)) (fun ⟨_, _, hz⟩ => hz) l _ (by kernel_rfl) ⟨x1, x2⟩ (fun hHeld => ?_)
      refine wpAnyH_take (i := 0) (v := ?vv1) (by simp only [List.getElem?_toArray, List.getElem?_cons_zero]; rfl) (by kernel_rfl) (by kernel_rfl) (by kernel_rfl) (fun _ _ _ h => h) (Or.inl ⟨by rfl, ?yy1⟩) (by assumption) ?rr1
      case yy1 => (intro w hSw; (try dsimp only at hSw); go_simp; first | done | with_reducible rfl)
      simp only [Act.put, List.setIfInBounds_toArray, List.set_cons_zero, List.set_cons_succ]
      refine wpAnyH_take (i := 1) (v := ?vv2) (by simp only [List.getElem?_toArray, List.getElem?_cons_zero, List.getElem?_cons_succ]; rfl) (by kernel_rfl) (by kernel_rfl) (by kernel_rfl) (fun _ _ _ h => h) (Or.inl ⟨by rfl, ?yy2⟩) (by assumption) ?rr2
      case yy2 => (intro w hSw; (try dsimp only at hSw); go_simp; first | done | with_reducible rfl)
      simp only [Act.put, List.setIfInBounds_toArray, List.set_cons_zero, List.set_cons_succ]
      refine wpAnyH_take (i := 2) (v := ?vv3) (by simp only [List.getElem?_toArray, List.getElem?_cons_zero, List.getElem?_cons_succ]; rfl) (by kernel_rfl) (by kernel_rfl) (by kernel_rfl) (fun _ _ _ h => h) (Or.inl ⟨by rfl, ?yy3⟩) (by assumption) ?rr3
      case yy3 => (intro w hSw; (try dsimp only at hSw); go_simp; first | done | with_reducible rfl)
      simp only [Act.put, List.setIfInBounds_toArray, List.set_cons_zero, List.set_cons_succ]
      refine wpAnyH_take (i := 3) (v := ?vv4) (by simp only [List.getElem?_toArray, List.getElem?_cons_zero, List.getElem?_cons_succ]; rfl) (by kernel_rfl) (by kernel_rfl) (by kernel_rfl) (fun _ _ _ h => h) (Or.inl ⟨by rfl, ?yy4⟩) (by assumption) ?rr4
      case yy4 => (intro w hSw; (try dsimp only at hSw); go_simp; first | done | with_reducible rfl)
      simp only [Act.put, List.setIfInBounds_toArray, List.set_cons_zero, List.set_cons_succ]
      refine wpAnyH_ready (rs := [4]) (by kernel_rfl) (by simp) ?_
      refine AllReadyH.cons (by simp only [List.getElem?_toArray, List.getElem?_cons_zero, List.getElem?_cons_succ]; rfl) (fun K hK => ?_) AllReadyH.nil
      go_simp
      have n0 : ¬ Bx = w.heap.size + 1 + 1 := by omega
      have n1 : ¬ Bx = w.heap.size + 1 + 1 + 1 := by omega
      have E4 : Hid (CB (W.setCell ⟨w.heap.size + 1 + 1, 0, none⟩ (.int .i64 fi)).drew (w.heap.size + 1 + 1) 3 (.int .i64 fi)) := CB.set D0.out _
      have E5 : Hid (CB (W.setCell ⟨w.heap.size + 1 + 1, 0, none⟩ (.int .i64 fi)).drew (w.heap.size + 1 + 1 + 1) 3 (.int .i64 0)) := CB.other D1.out _ _ (by show w.heap.size + 1 + 1 + 1 ≠ w.heap.size + 1 + 1; omega)
      have B4 : Hid (Below w.heap.size w (W.setCell ⟨w.heap.size + 1 + 1, 0, none⟩ (.int .i64 fi)).drew) := chain (HBB.out.setCell (p := ⟨w.heap.size + 1 + 1, 0, none⟩) (by show w.heap.size ≤ w.heap.size + 1 + 1; omega) _) (below_drew _)
      have K4 : Hid (KeepsOthers W (W.setCell ⟨w.heap.size + 1 + 1, 0, none⟩ (.int .i64 fi)).drew) := (KeepsOthers.setCell _ _ _).trans (KeepsOthers.drew _)
      have g0 : (W.setCell ⟨w.heap.size + 1 + 1, 0, none⟩ (.int .i64 fi)).drew.cell? ⟨Bx, 1, none⟩ = some (.int .i64 fi) := (World.cell?_of_block (a := ⟨Bx, 1, none⟩) (Below.heap_setCell W ⟨w.heap.size + 1 + 1, 0, none⟩ _ Bx n0)).trans x1
      have g1 : (W.setCell ⟨w.heap.size + 1 + 1, 0, none⟩ (.int .i64 fi)).drew.cell? ⟨Bx, 2, none⟩ = some (.int .i64 ma) := (World.cell?_of_block (a := ⟨Bx, 2, none⟩) (Below.heap_setCell W ⟨w.heap.size + 1 + 1, 0, none⟩ _ Bx n0)).trans x2
      refine hK.out _ _ ⟨g0, g1⟩ (fun hHeld => ?_)
      have GV0 := Lib.hid g0; have GV1 := Lib.hid g1
      have DS4 : Hid (CB (W.setCell ⟨w.heap.size + 1 + 1, 0, none⟩ (.int .i64 fi)).drew (w.heap.size + 1) 3 (.int .i64 s)) := CB.other DS.out _ _ (by show w.heap.size + 1 ≠ w.heap.size + 1 + 1; omega)
      clear hK K hHeld g0 g1 z0 z1 q0 q1 x1 x2 hc
      try simp only [Act.put, List.setIfInBounds_toArray, List.set_cons_zero, List.set_cons_succ]
      generalize (W.setCell ⟨w.heap.size + 1 + 1, 0, none⟩ (.int .i64 fi)).drew = V at E4 E5 B4 K4 GV0 GV1 DS4 ⊢
      refine wpAnyH_ready (rs := [5]) (by kernel_rfl) (by simp) ?_
      refine AllReadyH.cons (by simp only [List.getElem?_toArray, List.getElem?_cons_zero, List.getElem?_cons_succ]; rfl) (fun K hK => ?_) AllReadyH.nil
      have z1 := E5.out.cell; have q1 := E5.out.frozen
      go_simp
      refine hK.out _ _ ?cS (fun hHeld => ?_)
      case cS => exact ⟨(World.cell?_of_block (a := ⟨Bx, 1, none⟩) (Below.heap_setCell V ⟨w.heap.size + 1 + 1 + 1, 0, none⟩ _ Bx n1)).trans GV0.out, (World.cell?_of_block (a := ⟨Bx, 2, none⟩) (Below.heap_setCell V ⟨w.heap.size + 1 + 1 + 1, 0, none⟩ _ Bx n1)).trans GV1.out⟩
      clear hK K hHeld z1 q1
      try simp only [Act.put, List.setIfInBounds_toArray, List.set_cons_zero, List.set_cons_succ]
      refine wpAnyH_done (by kernel_rfl) ?_ _
      gi_wp2_with fail
      exact ⟨(K4.out.trans (KeepsOthers.setCell _ _ _)).from _, ⟨y, ⟨rfl, NU.out.symm.trans HS.out⟩, by rw [← FI.out]; exact CB.other E4.out _ _ (by show w.heap.size + 1 + 1 ≠ w.heap.size + 1 + 1 + 1; omega), by rw [← MA.out]; exact CB.set E5.out _⟩, B4.out.setCell (p := ⟨w.heap.size + 1 + 1 + 1, 0, none⟩) (by show w.heap.size ≤ w.heap.size + 1 + 1 + 1; omega) _⟩
    · have e1 : (nu == s) = false := by simpa using hs
      have HS := Lib.hid hs
      clear hs
      gi_wp2_with fail
      exact ⟨KeepsFrom.refl _ _, Kx.refl _ _ _, ⟨⟨⟨⟨fun z hz => (List.mem_append.1 hz).elim (HP.out z) (fun e e' => by simp at e; subst e; exact HS.out (NU.out.trans e')), DS.out⟩, D0.out⟩, D1.out⟩, HBB.out⟩⟩
  case done =>
    rintro D ys W hD rfl ⟨⟨⟨⟨hp, dS⟩, d0⟩, d1⟩, hB⟩ hK
    have z0 := d0.cell; have z1 := d1.cell; have q0 := d0.frozen; have q1 := d1.frozen
    have D0 := Lib.hid d0; have D1 := Lib.hid d1; have HBB := Lib.hid hB; have HP := Lib.hid hp; have HK := Lib.hid hK
    obtain ⟨rfl, rfl⟩ : a = 0 ∧ b = 0 := by
      have := HAB.out
      rw [range_miss HP.out] at this
      injection this with z1 z2
      exact ⟨z1.symm, z2.symm⟩
    clear dS d0 d1 hB hp hK
    gi_wp2_with fail
    have hK' := ((KeepsOthers.setCell W ⟨w.heap.size + 1 + 1, 0, none⟩ (.int .i64 0)).trans (KeepsOthers.setCell _ ⟨w.heap.size + 1 + 1 + 1, 0, none⟩ (.int .i64 0))).same D _ HK.out rfl
    have e0 : CB ((W.setCell ⟨w.heap.size + 1 + 1, 0, none⟩ (.int .i64 0)).setCell ⟨w.heap.size + 1 + 1 + 1, 0, none⟩ (.int .i64 0)) (w.heap.size + 1 + 1) 3 (.int .i64 0) := CB.other (CB.set D0.out _) _ _ (by show w.heap.size + 1 + 1 ≠ w.heap.size + 1 + 1 + 1; omega)
    have e1 : CB ((W.setCell ⟨w.heap.size + 1 + 1, 0, none⟩ (.int .i64 0)).setCell ⟨w.heap.size + 1 + 1 + 1, 0, none⟩ (.int .i64 0)) (w.heap.size + 1 + 1 + 1) 3 (.int .i64 0) := CB.set (CB.other D1.out _ _ (by show w.heap.size + 1 + 1 + 1 ≠ w.heap.size + 1 + 1; omega)) _
    have B5 : Below w.heap.size w ((W.setCell ⟨w.heap.size + 1 + 1, 0, none⟩ (.int .i64 0)).setCell ⟨w.heap.size + 1 + 1 + 1, 0, none⟩ (.int .i64 0)) := (HBB.out.setCell (p := ⟨w.heap.size + 1 + 1, 0, none⟩) (by show w.heap.size ≤ w.heap.size + 1 + 1; omega) _).setCell (p := ⟨w.heap.size + 1 + 1 + 1, 0, none⟩) (by show w.heap.size ≤ w.heap.size + 1 + 1 + 1; omega) _
    generalize (W.setCell ⟨w.heap.size + 1 + 1, 0, none⟩ (.int .i64 0)).setCell ⟨w.heap.size + 1 + 1 + 1, 0, none⟩ (.int .i64 0) = V at hK' e0 e1 B5 ⊢
    refine ⟨by simp, .inl ⟨_, _, rfl, run_takeDeferred hK', ?_⟩⟩
    have p0 := (cb_put (D := D) (.deferred none) e0 (by omega)).cell
    have p1 := (cb_put (D := D) (.deferred none) e1 (by omega)).cell
    refine ⟨.tuple #[.int .i64 0, .int .i64 0], by simp [results, Try.results23, go_sem, p0, p1], rfl, B5.trans (belowK_b (w := w) (Nat.le_refl _) V D _ _ (by omega) hK' rfl rfl)⟩
  case stop =>
    rintro D q pre W hD hpre ⟨⟨y, ⟨rfl, hs⟩, e0, e1⟩, hB⟩ hK
    obtain ⟨rfl, rfl⟩ : a = firstS ⟨c, h, x, ls⟩ y.1 ∧ b = manyS ⟨c, h, x, ls⟩ y.1 := by
      have := HAB.out
      rw [← hs, range_of y] at this
      injection this with z1 z2
      exact ⟨z1.symm, z2.symm⟩
    gi_wp2_with fail
    refine ⟨by simp, .inl ⟨_, _, rfl, run_takeDeferred hK, ?_⟩⟩
    have p0 := (cb_put (D := D) (.deferred none) e0 (by omega)).cell
    have p1 := (cb_put (D := D) (.deferred none) e1 (by omega)).cell
    refine ⟨.tuple #[.int .i64 (firstS ⟨c, h, x, ls⟩ y.1), .int .i64 (manyS ⟨c, h, x, ls⟩ y.1)], by simp [results, Try.results23, go_sem, p0, p1], rfl, hB.trans (belowK_b (w := w) (Nat.le_refl _) W D _ _ (by omega) hK rfl rfl)⟩

end Go.Proofs.Ytklgjhldebdegaa

namespace Go.Proofs.Ytklgjhldebdegaa
open Go.RowKit

theorem grange_bd {c h x : Int} {ls : List Ly} (hn : ls.length ≤ 60) (s : Int) : (0 ≤ (rangeN ⟨c, h, x, ls⟩ s).1 ∧ (rangeN ⟨c, h, x, ls⟩ s).1 ≤ 100000000) ∧ (0 ≤ (rangeN ⟨c, h, x, ls⟩ s).2 ∧ (rangeN ⟨c, h, x, ls⟩ s).2 ≤ 2000000) := by
  unfold rangeN
  split
  · have l60 : (stagesN ⟨c, h, x, ls⟩).length ≤ 60 := by
      unfold stagesN
      split
      · have := stK_len ls ls.length; show (stK ls ls.length).length ≤ 60; omega
      · simp
    have := tot_bd (((stagesN ⟨c, h, x, ls⟩).take s.toNat).map (atN ⟨c, h, x, ls⟩)) (fun y hy => by obtain ⟨i, _, rfl⟩ := List.mem_map.1 hy; exact at_ok _ _)
    rw [List.length_map, List.length_take] at this
    have : min s.toNat (stagesN ⟨c, h, x, ls⟩).length ≤ 60 := by omega
    have p := (at_ok ⟨c, h, x, ls⟩ ((stagesN ⟨c, h, x, ls⟩).getD s.toNat 0)).p
    exact ⟨⟨by omega, by omega⟩, ⟨p.1, by have := p.2; omega⟩⟩
  · exact ⟨⟨by decide, by decide⟩, ⟨by decide, by decide⟩⟩

set_option maxHeartbeats 2000000 in
set_option maxRecDepth 100000 in
theorem gline8 (c h x : Int) (A : Option Addr) (cA n : Nat) (ls : List Ly) (s : Int) (a b : Int) (hab : lineN ⟨c, h, x, ls⟩ s = (a, b)) (w : World) (hx : Rl w A ls) (ln : n = ls.length) (hn : n ≤ 60) :
    Calls Try.prog 16 #[.agg #[.int .i64 c, .int .i64 h, .int .i64 x, .slice A n cA], .int .i64 s] w fun e w' => e = .returned (.tuple #[.int .i64 a, .int .i64 b]) ∧ Below w.heap.size w w' := by
  have HAB := Lib.hid hab
  obtain ⟨er, her⟩ : ∃ er, er = errN ⟨c, h, x, ls⟩ := ⟨_, rfl⟩
  have HER := Lib.hid her
  obtain ⟨ra, hra⟩ : ∃ ra, ra = (rangeN ⟨c, h, x, ls⟩ s).1 := ⟨_, rfl⟩
  obtain ⟨rb, hrb⟩ : ∃ rb, rb = (rangeN ⟨c, h, x, ls⟩ s).2 := ⟨_, rfl⟩
  have HRA := Lib.hid hra; have HRB := Lib.hid hrb
  have bd := grange_bd (c := c) (h := h) (x := x) (ls := ls) (by rw [← ln]; exact hn) s
  rw [← hra, ← hrb] at bd
  obtain ⟨⟨ra0, ra1⟩, ⟨rb0, rb1⟩⟩ := bd
  have RNG : Hid (∀ w', Rl w' A ls → n = ls.length → Calls Try.prog 23 #[.agg #[.int .i64 c, .int .i64 h, .int .i64 x, .slice A n cA], .int .i64 s] w' fun e w'' => e = .returned (.tuple #[.int .i64 ra, .int .i64 rb]) ∧ Below w'.heap.size w' w'') := fun w' z1 z2 =>
    grange8 c h x A cA n ls s ra rb (by rw [hra, hrb]) w' z1 z2 hn
  clear hab her hra hrb
  have HX := Lib.hid hx; have LX := Lib.hid ln
  have hn1 : n ≤ 1000 := by omega
  clear hx ln
  go_enter Try.func16, Try.ntmps16
  go_wp2_with fail
  refine (shapes_any c h x A cA n ls _ (HX.out.below ((Below.refl _ w).alloc (Nat.le_refl _) _)) LX.out hn1).mono ?_
  rintro e w1 ⟨A1, k1, n1, rfl, hn1', hR, hb, hd1, hd2⟩
  rw [← HER.out]
  have B1 := Lib.hid (chain ((Below.refl w.heap.size w).alloc (Nat.le_refl _) _) hb)
  have N1 := Lib.hid ((NB.new w c h x (.slice A n cA)).below hb)
  obtain ⟨c0, c1, c2, c3⟩ := N1.out.cells
  have R1 := Lib.hid hR; have L1 := Lib.hid hn1'
  clear hb hR hd1 hd2 hn1'
  by_cases h0 : ¬ er = 0
  · have b0 : (er == 0) = false := by simpa using h0
    obtain ⟨ea, eb⟩ : 2 * ra = a ∧ 2 * rb = b := by
      have := HAB.out
      rw [show lineN ⟨c, h, x, ls⟩ s = (2 * (rangeN ⟨c, h, x, ls⟩ s).1, 2 * (rangeN ⟨c, h, x, ls⟩ s).2) from if_neg (by rw [← HER.out]; exact fun z => h0 z.1)] at this
      injection this with z1 z2
      exact ⟨by rw [HRA.out]; exact z1, by rw [HRB.out]; exact z2⟩
    have v1 : IntKind.i64.wrap (2 * ra) = a := by rw [IntWalk.i64_in _ (by omega)]; exact ea
    have v2 : wrap64 (2 * ra) = a := by rw [IntWalk.wrap64_in _ (by omega)]; exact ea
    have v3 : IntKind.i64.wrap (2 * rb) = b := by rw [IntWalk.i64_in _ (by omega)]; exact eb
    have v4 : wrap64 (2 * rb) = b := by rw [IntWalk.wrap64_in _ (by omega)]; exact eb
    clear h0 ea eb
    go_wp2_with fail
    refine (RNG.out _ (HX.out.below B1.out) LX.out).mono ?_
    rintro e w2 ⟨rfl, hb⟩
    have B2 := Lib.hid (chain B1.out hb)
    clear hb
    go_wp2_with fail
    go_ret2
    exact ⟨rfl, B2.out⟩
  have h0 : er = 0 := by omega
  have b0 : (er == 0) = true := by rw [h0]; rfl
  have HE : Hid (errN ⟨c, h, x, ls⟩ = 0) := HER.out.symm.trans h0
  clear h0
  go_wp2_with fail
  refine (gstages8 c h x A cA n ls _ (HX.out.below B1.out) LX.out hn).mono ?_
  rintro e w2 ⟨A2, k2, n2, rfl, hn2, hR2, hb, hd1, hd2⟩
  have B2 := Lib.hid (chain B1.out hb)
  have N2 := Lib.hid (N1.out.below hb)
  have R2 := Lib.hid (R1.out.below hb)
  have L2 := Lib.hid hn2
  clear hb hR2 hn2 hd1 hd2 c0 c1 c2 c3
  obtain ⟨c0, c1, c2, c3⟩ := N2.out.cells
  by_cases hs : ¬ s = (n2 : Int)
  · have b1 : (s == (n2 : Int)) = false := by simpa using hs
    obtain ⟨ea, eb⟩ : 2 * ra = a ∧ 2 * rb = b := by
      have := HAB.out
      rw [show lineN ⟨c, h, x, ls⟩ s = (2 * (rangeN ⟨c, h, x, ls⟩ s).1, 2 * (rangeN ⟨c, h, x, ls⟩ s).2) from if_neg (by rw [← L2.out]; exact fun z => hs z.2)] at this
      injection this with z1 z2
      exact ⟨by rw [HRA.out]; exact z1, by rw [HRB.out]; exact z2⟩
    have v1 : IntKind.i64.wrap (2 * ra) = a := by rw [IntWalk.i64_in _ (by omega)]; exact ea
    have v2 : wrap64 (2 * ra) = a := by rw [IntWalk.wrap64_in _ (by omega)]; exact ea
    have v3 : IntKind.i64.wrap (2 * rb) = b := by rw [IntWalk.i64_in _ (by omega)]; exact eb
    have v4 : wrap64 (2 * rb) = b := by rw [IntWalk.wrap64_in _ (by omega)]; exact eb
    clear hs ea eb
    go_wp2_with fail
    refine (RNG.out _ (HX.out.below B2.out) LX.out).mono ?_
    rintro e w3 ⟨rfl, hb⟩
    have B3 := Lib.hid (chain B2.out hb)
    clear hb
    go_wp2_with fail
    go_ret2
    exact ⟨rfl, B3.out⟩
  have hs : s = (n2 : Int) := Decidable.not_not.1 hs
  have b1 : (s == (n2 : Int)) = true := by rw [hs]; simp
  obtain ⟨T, hT⟩ : ∃ T, T = endS ⟨c, h, x⟩ ls := ⟨_, rfl⟩
  obtain ⟨Y, hY⟩ : ∃ Y, Y = totP (knN ⟨c, h, x, ls⟩) := ⟨_, rfl⟩
  obtain ⟨ea, eb⟩ : 2 * Y = a ∧ T.n = b := by
    have := HAB.out
    rw [show lineN ⟨c, h, x, ls⟩ s = (2 * totP (knN ⟨c, h, x, ls⟩), (endS ⟨c, h, x⟩ ls).n) from if_pos ⟨HE.out, by rw [← L2.out]; exact hs⟩] at this
    injection this with z1 z2
    exact ⟨by rw [hY]; exact z1, by rw [hT]; exact z2⟩
  obtain ⟨y0, y1⟩ : 0 ≤ Y ∧ Y ≤ 512 := by
    obtain ⟨r, f3, t, _, p5, _⟩ := ok_all HE.out
    have r : (⟨c, h, x⟩ : Sh).r = true := r
    rw [hY, (tots HE.out).2]
    exact ⟨(sums_nn r f3 t).2, p5⟩
  have HTR : Hid (T.r = true) := by
    obtain ⟨r, f3, t, _, _, _⟩ := ok_all HE.out
    rw [hT]; exact end_right ls ⟨c, h, x⟩ r f3 t
  have v1 : IntKind.i64.wrap (2 * Y) = a := by rw [IntWalk.i64_in _ (by omega)]; exact ea
  have v2 : wrap64 (2 * Y) = a := by rw [IntWalk.wrap64_in _ (by omega)]; exact ea
  have hR := R2.out
  have hl1 := L1.out
  rw [shN_ok HE.out] at hR hl1
  rw [sh_len, ← LX.out] at hl1
  obtain ⟨bS, oS, rfl, lS, qS⟩ := hR (by rw [sh_len]; omega)
  have gT : (shL ⟨c, h, x⟩ ls)[n]? = some T := by
    have := sh_get ls ⟨c, h, x⟩ n (by rw [← LX.out]; exact Nat.le_refl _)
    rw [LX.out, List.take_length, ← hT] at this
    rw [LX.out]; exact this
  obtain ⟨t0, t1, t2⟩ := sh_at qS gT
  have i1 : (n : Int) < (n1 : Int) := by omega
  have i2 : n < n1 := by omega
  have i3 : (0 : Int) ≤ (n : Int) := by omega
  have v3 : IntKind.i64.wrap ((n1 : Int) - 1) = (n : Int) := by rw [IntWalk.i64_in _ (by omega)]; omega
  have v4 : wrap64 ((n1 : Int) - 1) = (n : Int) := by rw [IntWalk.wrap64_in _ (by omega)]; omega
  have PS : Hid (∀ w, Calls Try.prog 28 #[.agg #[.int .i64 T.c, .int .i64 T.h, .int .i64 T.x]] w fun e w' => e = .returned (.int .i64 b) ∧ Below w.heap.size w w') := fun w => by rw [← eb]; exact gsize8 T HTR.out w
  have PT : Hid (∀ w', Rl w' A ls → n = ls.length → Calls Try.prog 27 #[.agg #[.int .i64 c, .int .i64 h, .int .i64 x, .slice A n cA]] w' fun e w'' => e = .returned (.int .i64 Y) ∧ Below w'.heap.size w' w'') := fun w' z1 z2 => by rw [hY]; exact gtotal8 c h x A cA n ls w' z1 z2 hn
  have HC0 : Hid (Below w2.heap.size w2 w2.drew) := below_drew w2
  have lN := N2.out.lt
  have tok1 : True := trivial
  clear hs hT hY ea eb hR hl1 qS gT y0 y1 ra0 ra1 rb0 rb1
  go_wp2_with fail
  go_region_held3 (fun w' => w'.cell? ⟨w.heap.size, 0, none⟩ = some (.int .i64 c) ∧ w'.cell? ⟨w.heap.size, 1, none⟩ = some (.int .i64 h) ∧ w'.cell? ⟨w.heap.size, 2, none⟩ = some (.int .i64 x) ∧ w'.cell? ⟨w.heap.size, 3, none⟩ = some (.slice A n cA) ∧ w'.cell? ⟨bS, oS + n * 3, none⟩ = some (.int .i64 T.c) ∧ w'.cell? ⟨bS, oS + n * 3 + 1, none⟩ = some (.int .i64 T.h) ∧ w'.cell? ⟨bS, oS + n * 3 + 2, none⟩ = some (.int .i64 T.x))
    (first | exact ⟨g0, g1, g2, g3, g4, g5, g6⟩ | go_keep)
    (first
      | ((have _t := tok1; clear tok1; go_at_call 27; (with_reducible refine (PT.out _ (HX.out.below (chain B2.out HC0.out)) LX.out).mono ?_); rintro e w3 ⟨rfl, hb3⟩
          have HC1 := Lib.hid (HC0.out.trans (hb3.mono HC0.out.size))
          have g0 := (HC1.out.cell (p := ⟨w.heap.size, 0, none⟩) lN).trans c0
          have g1 := (HC1.out.cell (p := ⟨w.heap.size, 1, none⟩) lN).trans c1
          have g2 := (HC1.out.cell (p := ⟨w.heap.size, 2, none⟩) lN).trans c2
          have g3 := (HC1.out.cell (p := ⟨w.heap.size, 3, none⟩) lN).trans c3
          have g4 := (HC1.out.cell (p := ⟨bS, oS + n * 3, none⟩) lS).trans t0
          have g5 := (HC1.out.cell (p := ⟨bS, oS + n * 3 + 1, none⟩) lS).trans t1
          have g6 := (HC1.out.cell (p := ⟨bS, oS + n * 3 + 2, none⟩) lS).trans t2
          have tok2 : True := trivial
          clear hb3))
      | ((have _t := tok2; clear tok2; go_at_call 28; (with_reducible refine (PS.out _).mono ?_); rintro e w4 ⟨rfl, hb4⟩
          have HC2 := Lib.hid (HC1.out.trans (hb4.mono HC1.out.size))
          clear g0 g1 g2 g3 g4 g5 g6
          have g0 := (HC2.out.cell (p := ⟨w.heap.size, 0, none⟩) lN).trans c0
          have g1 := (HC2.out.cell (p := ⟨w.heap.size, 1, none⟩) lN).trans c1
          have g2 := (HC2.out.cell (p := ⟨w.heap.size, 2, none⟩) lN).trans c2
          have g3 := (HC2.out.cell (p := ⟨w.heap.size, 3, none⟩) lN).trans c3
          have g4 := (HC2.out.cell (p := ⟨bS, oS + n * 3, none⟩) lS).trans t0
          have g5 := (HC2.out.cell (p := ⟨bS, oS + n * 3 + 1, none⟩) lS).trans t1
          have g6 := (HC2.out.cell (p := ⟨bS, oS + n * 3 + 2, none⟩) lS).trans t2
          clear hb4))
      | fail)
  go_wp2_with fail
  go_ret2
  exact ⟨rfl, chain B2.out HC2.out⟩

end Go.Proofs.Ytklgjhldebdegaa

namespace Go.Proofs.Ytklgjhldebdegaa
open Go.RowKit Go.Shelf
attribute [local go_sem] Oper.semAt_some

/-- A gate in a variable. -/
def GB (w : World) (b : Nat) (G : Gt) : Prop := w.heap[b]? = some (.cells #[.int .i64 G.l, .int .i64 G.a, .int .i64 G.t, .int .i64 G.x, .int .i64 G.w] 175 (0, 0))
theorem GB.lt {w : World} {b : Nat} {G : Gt} (H : GB w b G) : b < w.heap.size := (Array.getElem?_eq_some_iff.1 H).1
theorem GB.below {w w' : World} {b : Nat} {G : Gt} (H : GB w b G) (hb : Below w.heap.size w w') : GB w' b G := (hb.block b H.lt).trans H
theorem GB.cells {w : World} {b : Nat} {G : Gt} (H : GB w b G) : w.cell? ⟨b, 0, none⟩ = some (.int .i64 G.l) ∧ w.cell? ⟨b, 1, none⟩ = some (.int .i64 G.a) ∧ w.cell? ⟨b, 2, none⟩ = some (.int .i64 G.t) ∧ w.cell? ⟨b, 3, none⟩ = some (.int .i64 G.x) ∧ w.cell? ⟨b, 4, none⟩ = some (.int .i64 G.w) :=
  ⟨by rw [Lib.cell_of_heap H]; rfl, by rw [Lib.cell_of_heap H]; rfl, by rw [Lib.cell_of_heap H]; rfl, by rw [Lib.cell_of_heap H]; rfl, by rw [Lib.cell_of_heap H]; rfl⟩
theorem GB.frozen {w : World} {b : Nat} {G : Gt} (H : GB w b G) : w.frozen? ⟨b, 0, none⟩ = false ∧ w.frozen? ⟨b, 1, none⟩ = false ∧ w.frozen? ⟨b, 2, none⟩ = false ∧ w.frozen? ⟨b, 3, none⟩ = false ∧ w.frozen? ⟨b, 4, none⟩ = false :=
  ⟨Lib.frozen_of_heap H 0, Lib.frozen_of_heap H 1, Lib.frozen_of_heap H 2, Lib.frozen_of_heap H 3, Lib.frozen_of_heap H 4⟩
theorem GB.other {w : World} {b : Nat} {G : Gt} (H : GB w b G) (a : Addr) (u : Value) (h : b ≠ a.block) : GB (w.setCell a u) b G := (Below.heap_setCell w a u b h).trans H
end Go.Proofs.Ytklgjhldebdegaa

namespace Go.Proofs.Ytklgjhldebdegaa
open Go.RowKit Go.Shelf
attribute [local go_sem] Oper.semAt_some
end Go.Proofs.Ytklgjhldebdegaa

namespace Go.Proofs.Ytklgjhldebdegaa
open Go.RowKit
end Go.Proofs.Ytklgjhldebdegaa

namespace Go.Proofs.Ytklgjhldebdegaa
open Go.RowKit

set_option maxHeartbeats 1000000 in
theorem esize13 (S : Sh) (hr : S.r = true) (w : World) : Calls Try.prog 19 #[.agg #[.int .i64 S.c, .int .i64 S.h, .int .i64 S.x]] w fun e w' => e = .returned (.int .i64 S.n) ∧ Below w.heap.size w w' := by
  obtain ⟨r1, r2, r3, r4, r5, r6, r7⟩ := right_bd hr
  have hn := Sh.n_eq hr
  obtain ⟨s, hs⟩ : ∃ s, s = S.n := ⟨_, rfl⟩
  obtain ⟨m, hm⟩ : ∃ m, m = S.c * S.h := ⟨_, rfl⟩
  have b1 := mul_bd (show 0 ≤ S.c by omega) r2 (show 0 ≤ S.h by omega) r4
  have b2 := size_bd S
  rw [← hm] at b1
  rw [← hs] at b2
  rw [← hs, ← hm] at hn
  rw [← hs]
  have v1 : IntKind.i64.wrap (S.c * S.h) = m := by rw [← hm, IntWalk.i64_in _ (by omega)]
  have v2 : wrap64 (S.c * S.h) = m := by rw [← hm, IntWalk.wrap64_in _ (by omega)]
  have v3 : IntKind.i64.wrap (m * S.x) = s := by rw [← hn, IntWalk.i64_in _ (by omega)]
  have v4 : wrap64 (m * S.x) = s := by rw [← hn, IntWalk.wrap64_in _ (by omega)]
  clear hs hm hn b1 b2 r1 r2 r3 r4 r5 r6 r7 hr
  go_enter Try.func19, Try.ntmps19
  go_wp2_with fail
  go_ret
  exact ⟨rfl, chain_alloc (Below.refl _ w) _⟩

set_option maxHeartbeats 2000000 in
set_option maxRecDepth 100000 in
theorem pools13 (c h x : Int) (A X : Option Addr) (cA n cX nx : Nat) (ls : List Ly) (xs : List UInt64) (i : Nat) (w : World) (hx : Rl w A ls) (ln : n = ls.length) (hn : n ≤ 60) (hX : Rg ucells w X xs) (lx : nx = xs.length)
    (he : errN ⟨c, h, x, ls⟩ = 0) (hi : i ≤ ls.length) (hl : (xs.length : Int) = (endS ⟨c, h, x⟩ (ls.take i)).n) :
    Calls Try.prog 20 #[.agg #[.int .i64 c, .int .i64 h, .int .i64 x, .slice A n cA], .int .i64 (i : Int), .slice X nx cX] w (RowAny (nx ≤ cX ∧ cX ≤ maxLen) (poolsU ⟨c, h, x, ls⟩ i xs) w) := by
  obtain ⟨i0, hi0, hz0, hz1, hz2⟩ := info_parts Try.info27
  obtain ⟨tw, htw⟩ : ∃ tw : Nat, totW (knN ⟨c, h, x, ls⟩) = tw := ⟨(totW (knN ⟨c, h, x, ls⟩)).toNat, by
    have a := tot_bd (knN ⟨c, h, x, ls⟩) knN_all
    omega⟩
  have tb : tw ≤ 1000000 := by
    have a := tot_bd (knN ⟨c, h, x, ls⟩) knN_all
    have b := knN_len (N := ⟨c, h, x, ls⟩)
    have : 9216 * ((knN ⟨c, h, x, ls⟩).length : Int) ≤ 9216 * 8 := Int.mul_le_mul_of_nonneg_left (by omega) (by omega)
    omega
  have hmk : ∀ w : World, (Instr.makeSlice 28 (.int .i64 (tw : Int)) (.int .i64 (tw : Int))).run Try.prog w = .ok (.slice (some ⟨w.heap.size, 0, none⟩) tw tw) (w.alloc (.cells (madeCells #[.int .u64 0] tw) 27)) := fun w => by
    have := run_make (P := Try.prog) w 28 27 i0 _ Try.underlying28 hi0 hz0 .i64 .i64 tw tw (by omega) (Int.le_refl _) (by rw [hz2]; omega) (by omega)
    rw [hz1, Nat.mul_one] at this
    exact this
  have HX := Lib.hid hx; have LX := Lib.hid ln; have HXR := Lib.hid hX; have LXX := Lib.hid lx
  have HTW := Lib.hid htw; have HE := Lib.hid he; have HL := Lib.hid hl
  have hn1 : n ≤ 1000 := by omega
  have hin : i ≤ n := by omega
  clear hx ln hX lx htw he hl hi
  go_enter Try.func20, Try.ntmps20
  go_wp2_with fail
  refine (all_any c h x A cA n ls _ (HX.out.below ((Below.refl _ w).alloc (Nat.le_refl _) _)) LX.out hn1).mono ?_
  rintro e w1 ⟨rfl, hb⟩
  rw [HTW.out]
  have B1 := Lib.hid (chain ((Below.refl w.heap.size w).alloc (Nat.le_refl _) _) hb)
  have N1 := Lib.hid ((NB.new w c h x (.slice A n cA)).below hb)
  clear hb
  obtain ⟨c0, c1, c2, c3⟩ := N1.out.cells
  go_wp2_with fail
  obtain ⟨W, hW⟩ : ∃ W, W = w1.alloc (.cells (madeCells #[.int .u64 0] tw) 27) := ⟨_, rfl⟩
  have RW : Hid (Rg ucells W (some ⟨w1.heap.size, 0, none⟩) (noughts tw)) := by rw [hW]; exact made_rg w1 tw _
  have BW : Hid (Below w.heap.size w W) := by rw [hW]; exact chain_alloc B1.out _
  have NW : Hid (NB W w.heap.size c h x (.slice A n cA)) := by rw [hW]; exact N1.out.below ((Below.refl _ _).alloc (Nat.le_refl _) _)
  rw [← hW]
  clear hW c0 c1 c2 c3 hmk N1
  obtain ⟨wb, hwb⟩ : ∃ b, b = w1.heap.size := ⟨_, rfl⟩
  rw [← hwb] at RW ⊢
  clear hwb B1
  have YI : Hid (∃ A' k' n' ys, (Value.slice X nx cX) = .slice A' n' k' ∧ n' = ys.length ∧ Rg ucells W A' ys ∧ poolsU ⟨c, h, x, ls⟩ i ys = poolsU ⟨c, h, x, ls⟩ i xs ∧ (ys.length : Int) = (endS ⟨c, h, x⟩ (ls.take i)).n ∧ (nx ≤ cX ∧ cX ≤ maxLen → n' ≤ k' ∧ k' ≤ maxLen)) :=
    ⟨X, cX, nx, xs, rfl, LXX.out, HXR.out.below BW.out, rfl, HL.out, fun q => q⟩
  go_loopg [1, 2] (n - i) (fun g s1 s2 wx => ∃ k : Nat, i ≤ k ∧ k ≤ n ∧ Hid (g = n - k) ∧ s1 = .int .i64 (k : Int) ∧ Hid (∃ A' k' n' ys, s2 = .slice A' n' k' ∧ n' = ys.length ∧ Rg ucells wx A' ys ∧ poolsU ⟨c, h, x, ls⟩ k ys = poolsU ⟨c, h, x, ls⟩ i xs ∧ (ys.length : Int) = (endS ⟨c, h, x⟩ (ls.take k)).n ∧ (nx ≤ cX ∧ cX ≤ maxLen → n' ≤ k' ∧ k' ≤ maxLen)) ∧ Hid (Below W.heap.size W wx))
  case atStart => exact ⟨i, Nat.le_refl _, hin, by show _ = _; omega, rfl, YI, Below.refl _ _⟩
  case round =>
    obtain ⟨k, hik, hk, HG, rfl, YK, BK⟩ := hrel
    obtain ⟨A6, k6, n6, ys, rfl, h61, h62, h63, h64, h65⟩ := YK.out
    have Y1 := Lib.hid h61; have Y2 := Lib.hid h62; have Y3 := Lib.hid h63; have Y4 := Lib.hid h64; have Y5 := Lib.hid h65
    have BX := Lib.hid (chain BW.out BK.out)
    have NX := Lib.hid (NW.out.below BK.out)
    obtain ⟨c0, c1, c2, c3⟩ := NX.out.cells
    clear h61 h62 h63 h64 h65 YK
    by_cases kn : k < n
    · have ki : (k : Int) < (n : Int) := by omega
      have k0 : (0 : Int) ≤ (k : Int) := Int.natCast_nonneg _
      have d0 : decide ((k : Int) < (n : Int)) = true := decide_eq_true ki
      have kl : k < ls.length := by rw [← LX.out]; exact kn
      obtain ⟨b1, o1, rfl, l1, q⟩ := HX.out (by omega)
      obtain ⟨z0, z1, z2, z3⟩ := (q k kl).below BX.out l1
      obtain ⟨l, hl⟩ : ∃ l, l = ls.getD k Ly.z := ⟨_, rfl⟩
      rw [← hl] at z0 z1 z2 z3
      have HLY := Lib.hid hl
      have KL := Lib.hid kl
      clear q hl kl
      by_cases k3 : l.k = 3
      · have d1 : (l.k == 3) = true := by rw [k3]; rfl
        have K3 := Lib.hid k3
        clear k3
        obtain ⟨zs, hzs⟩ : ∃ zs, layN ⟨c, h, x, ls⟩ (k : Nat) ys (noughts tw) = zs := ⟨_, rfl⟩
        obtain ⟨p1, p2, p3⟩ := skip_step HE.out KL.out (by rw [← HLY.out]; exact K3.out) Y4.out (ws := noughts tw) (by rw [HTW.out]; simp [noughts])
        rw [hzs] at p2 p3
        have P1 := Lib.hid p1; have P2 := Lib.hid p2; have P3 := Lib.hid p3; have HZ := Lib.hid hzs
        clear p1 p2 p3 hzs
        go_wp2_with fail
        refine (layer_any c h x (some ⟨b1, o1, none⟩) A6 (some ⟨wb, 0, none⟩) cA n k6 n6 tw tw ls ys (noughts tw) zs (k : Int) true _ (HX.out.below BX.out) LX.out hn1 Y2.out Y1.out (RW.out.below BK.out) (by simp [noughts]) HZ.out P1.out).mono ?_
        rintro e w20 ⟨A7, k7, n7, rfl, h71, h72, hb, h74, h75⟩
        have Z1 := Lib.hid h71; have Z2 := Lib.hid h72; have Z4 := Lib.hid h74; have Z5 := Lib.hid h75
        have B7 := Lib.hid (chain BK.out hb)
        have YN : Hid (∃ A' k' n' ys, (Value.slice A7 n7 k7) = .slice A' n' k' ∧ n' = ys.length ∧ Rg ucells w20 A' ys ∧ poolsU ⟨c, h, x, ls⟩ (k + 1) ys = poolsU ⟨c, h, x, ls⟩ i xs ∧ (ys.length : Int) = (endS ⟨c, h, x⟩ (ls.take (k + 1))).n ∧ (nx ≤ cX ∧ cX ≤ maxLen → n' ≤ k' ∧ k' ≤ maxLen)) :=
          ⟨A7, k7, n7, zs, rfl, Z1.out, Z2.out, P2.out.symm.trans Y3.out, P3.out, fun _ => ⟨Z4.out, Z5.out⟩⟩
        clear h71 h72 h74 h75 hb c0 c1 c2 c3 z0 z1 z2 z3
        go_wp2_with fail
        go_roundg (n - (k + 1))
        case measure => have := HG.out; omega
        case rel => exact ⟨k + 1, by omega, by omega, rfl, by go_num, YN, B7⟩
      · have d1 : (l.k == 3) = false := by simpa using k3
        have EQ : Hid (poolsU ⟨c, h, x, ls⟩ k ys = ys) := pools_here (N := ⟨c, h, x, ls⟩) KL.out (by rw [← HLY.out]; exact k3) ys
        clear k3
        go_wp2_with fail
        go_ret
        exact ⟨A6, k6, n6, rfl, by rw [← Y3.out, EQ.out]; exact Y1.out, by rw [← Y3.out, EQ.out]; exact Y2.out, BX.out, Y5.out⟩
    · obtain rfl : k = n := by omega
      have d0 : decide ((k : Int) < (k : Int)) = false := decide_eq_false (Int.lt_irrefl _)
      have EQ : Hid (poolsU ⟨c, h, x, ls⟩ k ys = ys) := pools_end (N := ⟨c, h, x, ls⟩) (by show ls.length ≤ k; rw [LX.out]; exact Nat.le_refl _) ys
      go_wp2_with fail
      go_ret
      exact ⟨A6, k6, n6, rfl, by rw [← Y3.out, EQ.out]; exact Y1.out, by rw [← Y3.out, EQ.out]; exact Y2.out, BX.out, Y5.out⟩


set_option maxHeartbeats 2000000 in
set_option maxRecDepth 100000 in
theorem first13 (c h x : Int) (A X : Option Addr) (cA n cX nx : Nat) (ls : List Ly) (xs : List UInt64) (w : World) (hx : Rl w A ls) (ln : n = ls.length) (hn : n ≤ 60) (hX : Rg ucells w X xs) (lx : nx = xs.length) :
    Calls Try.prog 11 #[.agg #[.int .i64 c, .int .i64 h, .int .i64 x, .slice A n cA], .slice X nx cX] w (PairTo (firstU ⟨c, h, x, ls⟩ xs) (okFi ⟨c, h, x, ls⟩ xs) w) := by
  obtain ⟨er, her⟩ : ∃ er, er = errN ⟨c, h, x, ls⟩ := ⟨_, rfl⟩
  have HER := Lib.hid her
  have HX := Lib.hid hx; have LX := Lib.hid ln; have HXR := Lib.hid hX; have LXX := Lib.hid lx
  have NO : Hid (okFi ⟨c, h, x, ls⟩ xs = false → firstU ⟨c, h, x, ls⟩ xs = []) := fun e => if_neg (by rw [e]; decide)
  have hn1 : n ≤ 1000 := by omega
  clear hx ln hX lx her
  go_enter Try.func11, Try.ntmps11
  go_wp2_with fail
  refine (shapes_any c h x A cA n ls _ (HX.out.below ((Below.refl _ w).alloc (Nat.le_refl _) _)) LX.out hn1).mono ?_
  rintro e w1 ⟨A1, k1, n1, rfl, hn1', hR, hb, hd1, hd2⟩
  rw [← HER.out]
  have B1 := Lib.hid (chain ((Below.refl w.heap.size w).alloc (Nat.le_refl _) _) hb)
  have N1 := Lib.hid ((NB.new w c h x (.slice A n cA)).below hb)
  have R1 := Lib.hid hR; have L1 := Lib.hid hn1'
  clear hb hR hd1 hd2 hn1'
  by_cases h0 : ¬ er = 0
  · have b0 : (er != 0) = true := by simpa using h0
    have E0 : Hid (okFi ⟨c, h, x, ls⟩ xs = false) := decide_eq_false fun q => h0 (HER.out.trans q.1)
    have E1 := Lib.hid (NO.out E0.out)
    clear h0
    go_wp2_with fail
    go_ret2
    rw [E0.out, E1.out]
    exact ⟨none, 0, 0, rfl, rfl, Rg.nil _ _ _, B1.out, Nat.le_refl _, Nat.zero_le _⟩
  have h0 : er = 0 := by omega
  have b0 : (er != 0) = false := by rw [h0]; rfl
  have HE : Hid (errN ⟨c, h, x, ls⟩ = 0) := HER.out.symm.trans h0
  clear h0
  have hR := R1.out
  have hl1 := L1.out
  rw [shN_ok HE.out] at hR hl1
  rw [sh_len, ← LX.out] at hl1
  obtain ⟨bS, oS, rfl, hlS, hcS⟩ := hR (by rw [sh_len]; omega)
  have g2 := sh_get ls ⟨c, h, x⟩ 0 (by omega)
  obtain ⟨a4, a5, a6⟩ := sh_at hcS g2
  obtain ⟨r, f3, t, _⟩ := ok_all HE.out
  have ex : endS ⟨c, h, x⟩ (ls.take 0) = ⟨c, h, x⟩ := rfl
  rw [ex] at a4 a5 a6
  dsimp only at a4 a5 a6
  simp only [Nat.zero_mul, Nat.add_zero] at a4 a5 a6
  obtain ⟨kn, hkn⟩ : ∃ kn, kn = (⟨c, h, x⟩ : Sh).n := ⟨_, rfl⟩
  have HKN := Lib.hid hkn
  have PI : Hid (∀ w, Calls Try.prog 19 #[.agg #[.int .i64 c, .int .i64 h, .int .i64 x]] w fun e w' => e = .returned (.int .i64 kn) ∧ Below w.heap.size w w') := fun w => by rw [hkn]; exact esize13 ⟨c, h, x⟩ r w
  have m1 : (0 : Int) < (n1 : Int) := by omega
  have m2 : 0 < n1 := by omega
  clear hkn hR hl1 hcS g2 f3 t ex r
  go_wp2_with fail
  refine (PI.out _).mono ?_
  rintro e w4 ⟨rfl, hb4⟩
  have B4 := Lib.hid (chain B1.out hb4)
  have N4 := Lib.hid (N1.out.below hb4)
  clear hb4 a4 a5 a6 B1 N1 R1 L1
  by_cases hxn : ¬ (nx : Int) = kn
  · have b1 : ((nx : Int) != kn) = true := by simpa using hxn
    have E0 : Hid (okFi ⟨c, h, x, ls⟩ xs = false) := decide_eq_false fun q => hxn (by rw [LXX.out, HKN.out]; exact q.2)
    have E1 := Lib.hid (NO.out E0.out)
    clear hxn
    go_wp2_with fail
    go_ret2
    rw [E0.out, E1.out]
    exact ⟨none, 0, 0, rfl, rfl, Rg.nil _ _ _, B4.out, Nat.le_refl _, Nat.zero_le _⟩
  have hxn : (nx : Int) = kn := Decidable.not_not.1 hxn
  have b1 : ((nx : Int) != kn) = false := by rw [hxn]; simp
  have hl : (xs.length : Int) = (⟨c, h, x⟩ : Sh).n := by rw [← LXX.out, ← HKN.out]; exact hxn
  obtain ⟨f1, f2, f3, f4⟩ := first_row HE.out hl
  have F1 := Lib.hid f1; have F2 := Lib.hid f2; have HL := Lib.hid hl
  obtain ⟨us, hus⟩ : ∃ us, us = poolsU ⟨c, h, x, ls⟩ 0 xs := ⟨_, rfl⟩
  rw [← hus] at F2 f3 f4
  have nb := size_bd ⟨c, h, x⟩
  have nx1 : nx ≤ 128 := by rw [HKN.out] at hxn; omega
  have nx0 : 0 < nx := by
    obtain ⟨r, _⟩ := ok_all HE.out
    have := size_pos (s := ⟨c, h, x⟩) r
    rw [HKN.out] at hxn; omega
  have CC : Hid (∀ w', Rg ucells w' X xs → Calls Try.prog 21 #[.slice X nx cX] w' (RowTo ucells xs w')) := fun w' z1 => clone_any X cX nx xs w' z1 LXX.out nx0 (by omega)
  have CP : Hid (∀ w' Y cY, nx ≤ cY → cY ≤ maxLen → Rl w' A ls → Rg ucells w' Y xs → Calls Try.prog 20 #[.agg #[.int .i64 c, .int .i64 h, .int .i64 x, .slice A n cA], .int .i64 0, .slice Y nx cY] w' (RowAny (nx ≤ cY ∧ cY ≤ maxLen) us w')) := fun w' Y cY y1 y2 z1 z2 => by
    have := pools13 c h x A Y cA n cY nx ls xs 0 w' z1 LX.out hn z2 LXX.out HE.out (Nat.zero_le _) (by rw [HL.out]; rfl)
    rw [← hus] at this
    exact this
  obtain ⟨c0, c1, c2, c3⟩ := N4.out.cells
  have nl := N4.out.lt
  have ln0 := nl; have ln1 := nl; have ln2 := nl; have ln3 := nl
  clear hxn hl f1 f2 f3 f4 hus nx0 nx1 nb nl
  go_wp2_with fail
  refine wp_region_noPanic ?_
  refine wp_region_held_drew (S := fun w' => w'.cell? ⟨w.heap.size, 0, none⟩ = some (.int .i64 c) ∧ w'.cell? ⟨w.heap.size, 1, none⟩ = some (.int .i64 h) ∧ w'.cell? ⟨w.heap.size, 2, none⟩ = some (.int .i64 x) ∧ w'.cell? ⟨w.heap.size, 3, none⟩ = some (.slice A n cA)) (by kernel_rfl) ⟨c0, c1, c2, c3⟩ (fun hHeld => ?_)
  have hd := below_drew w4
  replace c0 := (hd.cell (p := ⟨w.heap.size, 0, none⟩) ln0).trans c0
  replace ln0 := Nat.lt_of_lt_of_le ln0 hd.size
  replace c1 := (hd.cell (p := ⟨w.heap.size, 1, none⟩) ln1).trans c1
  replace ln1 := Nat.lt_of_lt_of_le ln1 hd.size
  replace c2 := (hd.cell (p := ⟨w.heap.size, 2, none⟩) ln2).trans c2
  replace ln2 := Nat.lt_of_lt_of_le ln2 hd.size
  replace c3 := (hd.cell (p := ⟨w.heap.size, 3, none⟩) ln3).trans c3
  replace ln3 := Nat.lt_of_lt_of_le ln3 hd.size
  generalize w4.drew = wq1 at hHeld hd c0 ln0 c1 ln1 c2 ln2 c3 ln3 ⊢
  have BD : Hid (Below wq1.heap.size wq1 wq1) := Below.refl _ _
  refine wpAnyH_take (i := 0) (v := ?vv1001) (by simp only [List.getElem?_toArray, List.getElem?_cons_zero]; rfl) (by kernel_rfl) (by kernel_rfl) (by kernel_rfl) (fun _ _ _ h => h) (Or.inl ⟨by rfl, ?yy1001⟩) (by assumption) ?rr1001
  case yy1001 => (intro w hSw; (try dsimp only at hSw); go_simp; first | done | with_reducible rfl)
  simp only [Act.put, List.setIfInBounds_toArray, List.set_cons_zero, List.set_cons_succ]
  refine wpAnyH_take (i := 1) (v := ?vv1002) (by simp only [List.getElem?_toArray, List.getElem?_cons_zero, List.getElem?_cons_succ]; rfl) (by kernel_rfl) (by kernel_rfl) (by kernel_rfl) (fun _ _ _ h => h) (Or.inl ⟨by rfl, ?yy1002⟩) (by assumption) ?rr1002
  case yy1002 => (intro w hSw; (try dsimp only at hSw); go_simp; first | done | with_reducible rfl)
  simp only [Act.put, List.setIfInBounds_toArray, List.set_cons_zero, List.set_cons_succ]
  refine wpAnyH_ready (rs := [2]) (by kernel_rfl) (by simp) ?_
  refine AllReadyH.cons (by simp only [List.getElem?_toArray, List.getElem?_cons_zero, List.getElem?_cons_succ]; rfl) (fun K hK => ?_) ?_
  · skip
    go_simp
    go_at_call 21
    (with_reducible refine (CC.out _ (HXR.out.below (chain B4.out hd))).mono ?_)
    rintro e wq2 ⟨Y, kY, nY, rfl, l1, l2, hb, l3, l4⟩
    clear hHeld
    replace BD := Lib.hid (chain BD.out hb)
    obtain rfl : nx = nY := by rw [LXX.out]; exact l1.symm
    have RY := Lib.hid l2; have Y3 := Lib.hid l3; have Y4 := Lib.hid l4
    clear l1 l2 l3 l4
    clear hb
    go_wp2_with fail
    refine hK.out _ _ ⟨(BD.out.cell (p := ⟨w.heap.size, 0, none⟩) ln0).trans c0, (BD.out.cell (p := ⟨w.heap.size, 1, none⟩) ln1).trans c1, (BD.out.cell (p := ⟨w.heap.size, 2, none⟩) ln2).trans c2, (BD.out.cell (p := ⟨w.heap.size, 3, none⟩) ln3).trans c3⟩ (fun hHeld => ?_)
    clear hK K
    try simp only [Act.put, List.setIfInBounds_toArray, List.set_cons_zero, List.set_cons_succ]
    refine wpAnyH_ready (rs := [3]) (by kernel_rfl) (by simp) ?_
    refine AllReadyH.cons (by simp only [List.getElem?_toArray, List.getElem?_cons_zero, List.getElem?_cons_succ]; rfl) (fun K hK => ?_) ?_
    · skip
      go_simp
      go_at_call 20
      (with_reducible refine (CP.out _ _ _ Y3.out Y4.out (HX.out.below (chain B4.out (chain hd BD.out))) RY.out).mono ?_)
      rintro e wq3 ⟨A9, k9, n9, rfl, m9, r9, hb, p9⟩
      clear hHeld
      replace BD := Lib.hid (chain BD.out hb)
      have M9 := Lib.hid m9; have R9 := Lib.hid r9; have P9 := Lib.hid (p9 ⟨Y3.out, Y4.out⟩)
      clear m9 r9 p9
      clear hb
      go_wp2_with fail
      refine hK.out _ _ ⟨(BD.out.cell (p := ⟨w.heap.size, 0, none⟩) ln0).trans c0, (BD.out.cell (p := ⟨w.heap.size, 1, none⟩) ln1).trans c1, (BD.out.cell (p := ⟨w.heap.size, 2, none⟩) ln2).trans c2, (BD.out.cell (p := ⟨w.heap.size, 3, none⟩) ln3).trans c3⟩ (fun hHeld => ?_)
      clear hK K
      try simp only [Act.put, List.setIfInBounds_toArray, List.set_cons_zero, List.set_cons_succ]
      refine wpAnyH_take (i := 4) (v := ?vv1003) (by simp only [List.getElem?_toArray, List.getElem?_cons_zero, List.getElem?_cons_succ]; rfl) (by kernel_rfl) (by kernel_rfl) (by kernel_rfl) (fun _ _ _ h => h) (Or.inl ⟨by rfl, ?yy1003⟩) (by assumption) ?rr1003
      case yy1003 => (intro w hSw; (try dsimp only at hSw); go_simp; first | done | with_reducible rfl)
      simp only [Act.put, List.setIfInBounds_toArray, List.set_cons_zero, List.set_cons_succ]
      refine wpAnyH_take (i := 5) (v := ?vv1004) (by simp only [List.getElem?_toArray, List.getElem?_cons_zero, List.getElem?_cons_succ]; rfl) (by kernel_rfl) (by kernel_rfl) (by kernel_rfl) (fun _ _ _ h => h) (Or.inl ⟨by rfl, ?yy1004⟩) (by assumption) ?rr1004
      case yy1004 => (intro w hSw; (try dsimp only at hSw); go_simp; first | done | with_reducible rfl)
      simp only [Act.put, List.setIfInBounds_toArray, List.set_cons_zero, List.set_cons_succ]
      refine wpAnyH_done (by kernel_rfl) ?_ _
      refine NoPanic.normal ?_
      clear hHeld
      have BF := Lib.hid (chain B4.out (chain hd BD.out))
      clear hd BD c0 c1 c2 c3
      go_wp2_with fail
      go_ret2
      rw [F1.out, F2.out]
      exact ⟨A9, k9, n9, rfl, M9.out, R9.out, BF.out, P9.out.1, P9.out.2⟩
    exact AllReadyH.nil
  exact AllReadyH.nil

end Go.Proofs.Ytklgjhldebdegaa
