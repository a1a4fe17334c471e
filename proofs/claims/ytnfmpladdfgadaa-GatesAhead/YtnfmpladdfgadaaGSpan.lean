/-
  What a round of a loop over an iterator leaves as it lay; a region that draws its order within a round: apart from any program. What package gates tells: the stages of a network, and the gates of a place: contracts of both iterators. What package gates tells of a place: its gates, one by one.
-/
import Derived.RangeFuncNested
import Derived.RangeFuncBound
import Derived.RangeFuncCalls
import Derived.RangeFuncLeaves
import Derived.Shelf.Abstract
import Derived.Shelf.RegionOpen
import Derived.WalkKit
import Derived.OwnWalkIn
import Derived.TacticsInMore
import Derived.LoopNIn
import Derived.LoopIn
import Derived.Maps.AppendAt
import Derived.OrdersIn
import Derived.Deep.RegionHeld3
import Derived.Test.YtnfmpladdfgadaaGMath2
import Derived.Test.YtnfmpladdfgadaaTPub
namespace Go.Proofs.Ytnfmpladdfgadaa
open Go.RowKit

/-- What lay below B, and all blocks of cells that are none of X's, lie as they lay. -/
structure Kx (B : Nat) (X : Nat → Nat → Prop) (W W' : World) : Prop where
  below : Below B W W'
  keep : ∀ (k : Nat) (cs : Array Value) (T : Nat) (fr : Nat × Nat), W.heap[k]? = some (.cells cs T fr) → ¬ X k T → W'.heap[k]? = some (.cells cs T fr)
theorem Kx.refl (B : Nat) (X : Nat → Nat → Prop) (W : World) : Kx B X W W := ⟨Below.refl _ _, fun _ _ _ _ h _ => h⟩
theorem Kx.trans {B : Nat} {X : Nat → Nat → Prop} {W1 W2 W3 : World} (h : Kx B X W1 W2) (k : Kx B X W2 W3) : Kx B X W1 W3 :=
  ⟨h.below.trans k.below, fun b cs T fr h0 hx => k.keep b cs T fr (h.keep b cs T fr h0 hx) hx⟩
theorem Kx.alloc {B : Nat} {X : Nat → Nat → Prop} {W W' : World} (h : Kx B X W W') (hB : B ≤ W'.heap.size) (o : Obj) : Kx B X W (W'.alloc o) :=
  ⟨h.below.alloc hB o, fun b cs T fr h0 hx => by
    have h1 := h.keep b cs T fr h0 hx
    exact (Below.heap_alloc W' o b (Array.getElem?_eq_some_iff.1 h1).1).trans h1⟩
theorem Kx.set {B : Nat} {X : Nat → Nat → Prop} {W W' : World} (h : Kx B X W W') {b off : Nat} (hB : B ≤ b) (hX : ∀ T, X b T) (v : Value) : Kx B X W (W'.setCell ⟨b, off, none⟩ v) :=
  ⟨h.below.setCell (p := ⟨b, off, none⟩) hB v, fun k cs T fr h0 hx => by
    have h1 := h.keep k cs T fr h0 hx
    exact (Below.heap_setCell _ _ _ _ (by show k ≠ b; intro e; subst e; exact hx (hX T))).trans h1⟩
/-- A new block that was laid in between. -/
theorem Kx.setNew {B : Nat} {X : Nat → Nat → Prop} {W W' : World} (h : Kx B X W W') {b off : Nat} (hB : B ≤ b) (hb : W.heap.size ≤ b) (v : Value) : Kx B X W (W'.setCell ⟨b, off, none⟩ v) :=
  ⟨h.below.setCell (p := ⟨b, off, none⟩) hB v, fun k cs T fr h0 hx => by
    have h1 := h.keep k cs T fr h0 hx
    have h2 := (Array.getElem?_eq_some_iff.1 h0).1
    exact (Below.heap_setCell _ _ _ _ (by show k ≠ b; omega)).trans h1⟩
theorem Kx.put {B : Nat} {X : Nat → Nat → Prop} {w : World} (hB : B ≤ w.heap.size) (W : World) (l : Nat) (o o' : Obj) (hl : w.heap.size ≤ l) (h0 : W.heap[l]? = some o) (hc : o.isCells = false) (hw : o.isWalk = false) : Kx B X W (W.putObj l o') :=
  ⟨belowK_b hB W l o o' hl h0 hc hw, fun k cs T fr h1 _ => (World.putObj_heap_other (by intro e; subst e; rw [h0] at h1; cases h1; simp [Obj.isCells] at hc)).trans h1⟩
theorem ownFrom_kx {β : Type} {B B' : Nat} {X : Nat → Nat → Prop} {w0 : World} (hB : B ≤ w0.heap.size) (hB' : B ≤ B') : OwnFrom B' (fun (_ : β) W => Kx B X w0 W) :=
  fun s Y Z row hs hg hr => ⟨ownFrom_below hB hB' s Y Z row hs.below hg hr, fun k cs T fr h0 hx => by
    have h1 := hs.keep k cs T fr h0 hx
    refine (hg.block k (Array.getElem?_eq_some_iff.1 h1).1 (fun e => ?_)).trans h1
    obtain ⟨_, o, ho, hc⟩ := hr k e.symm
    rw [h1] at ho; cases ho
    simp [Obj.isCells] at hc⟩
theorem Kx.of_below {X : Nat → Nat → Prop} {W W' : World} (h : Below W.heap.size W W') : ∀ B, B ≤ W.heap.size → Kx B X W W' := fun _ hB =>
  ⟨h.mono hB, fun k _ _ _ h0 _ => (h.block k (Array.getElem?_eq_some_iff.1 h0).1).trans h0⟩
theorem keeps_below {B : Nat} {W W' : World} (h : Below W.heap.size W W') : KeepsFrom B W W' :=
  ⟨h.size, fun k _ _ h0 _ => (h.block k (Array.getElem?_eq_some_iff.1 h0).1).trans h0⟩
/-- A world that has grown. -/
theorem grown_below {W W' : World} (h : Below W.heap.size W W') : W.grownBy W' none :=
  ⟨h.os, h.tape, h.output, h.size, fun k hk _ => h.block k hk⟩
/-- A block of cells that a loop's body may not write. -/
theorem cells_own {β : Type} (b : Nat) (cs : Array Value) (T : Nat) (fr : Nat × Nat) : Own (fun (_ : β) W => W.heap[b]? = some (.cells cs T fr)) := fun _ X Y row hs hg hrow =>
  (hg.block b (Array.getElem?_eq_some_iff.1 hs).1 (fun e => by obtain ⟨o, ho, hc⟩ := hrow b e.symm; rw [hs] at ho; cases ho; simp [Obj.isCells] at hc)).trans hs

/-! ### A region that draws its order, within a round -/
def noDefers (ops : Array Oper) : Prop := ∀ (i : Nat) (o : Oper), ops[i]? = some o → ∀ c, o.op ≠ .defer c
theorem noDefers_of {ops : Array Oper} (h : (ops.all fun o => match o.op with | .defer _ => false | _ => true) = true) : noDefers ops := fun i o ho c hc => by
  have h1 := Array.all_eq_true.1 h i (Array.getElem?_eq_some_iff.1 ho).1
  rw [(Array.getElem?_eq_some_iff.1 ho).2, hc] at h1
  simp at h1
theorem opsIn_of_ops {P : Program} {ops : Array Oper} {Q : Exit → Act → World → Prop} (hd : noDefers ops) (hl : ¬ LetsOut Q) (l n : Nat) :
    ∀ (is : List Nat) (a : Act) (w : World), wpOps P ops Q is a w → wpOpsIn (Fence.wide.inRound l) n P ops Q is a w
  | [], _, _, h => h
  | i :: is, a, w, h => by
    unfold wpOps at h
    unfold wpOpsIn
    cases ho : ops[i]? with
    | none => rw [ho] at h; exact opsIn_of_ops hd hl l n is a w h
    | some o =>
      rw [ho] at h
      simp only [] at h ⊢
      split
      · rename_i hw
        rw [if_pos hw] at h
        rcases h with h | ⟨_, h⟩
        · refine ⟨fun _ _ => trivial, ?_⟩
          rw [Oper.semAt_eq _ _ _ (hd i o ho)]
          unfold Oper.wp at h
          generalize (execOp a.eval o).run P w = r at h ⊢
          cases r with
          | ok x w' =>
            cases x <;> simp only [Oper.upon, Oper.uponIn] at h ⊢
            case value u => exact opsIn_of_ops hd hl l n is _ _ h
            case skip => exact opsIn_of_ops hd hl l n is _ _ h
            case defer d => exact opsIn_of_ops hd hl l n is _ _ h
            case enter f args =>
              refine ⟨fun z => by simp [Fence.wide] at z, CallsIn.inRound l (callsIn_wide.2 (h.mono fun e w'' he => ?_))⟩
              cases e with
              | returned u => exact opsIn_of_ops hd hl l n is _ _ he
              | panicked c => exact he
              | outgrown => exact he
            case row row args =>
              refine ⟨fun z => by simp [Fence.wide] at z, fun c cs _ => ?_⟩
              obtain ⟨v, w'', hv, hs⟩ := h c cs
              exact ⟨v, w'', opsIn_of_ops hd hl l n is _ _ hv, stepsIn_wide.2 hs⟩
          | halt x w' => cases x <;> simp only [Oper.upon, Oper.uponIn] at h ⊢ <;> exact h
        · exact absurd h hl
      · rename_i hw
        rw [if_neg hw] at h
        exact ⟨fun _ _ => trivial, opsIn_of_ops hd hl l n is _ _ h⟩
theorem region_round {P : Program} {ops : Array Oper} {Q : Exit → Act → World → Prop} {S : World → Prop} {a : Act} {w : World} {id : Nat} (hd : noDefers ops) (hl : ¬ LetsOut Q) (l n : Nat) (hm : P.follows .mixedOrders = true) (hS : S w.drew)
    (h : S w.drew → wpAnyH P .any ops Q S ops.size (Array.replicate ops.size false) a w.drew) : (Code.region id ops true).wpIn (Fence.wide.inRound l) n P Q a w :=
  wpIn_region_draw fun t => by
    simp only [Region.schedule, hm, Bool.true_or, if_true]
    exact opsIn_of_ops hd hl l n _ _ _ (wpAny_sound ops.size t _ a _ (wpAny_of_held _ _ _ _ (h hS)))

end Go.Proofs.Ytnfmpladdfgadaa

namespace Go.Proofs.Ytnfmpladdfgadaa
open Go.RowKit Go.Shelf
attribute [local go_sem] Oper.semAt_some

def encS (N : Nt) (y : St N) : Array Value := #[.int .i64 (numS N y.1), .agg #[.int .i64 ((y.1 : Nat) : Int), .int .i64 (firstS N y.1), .int .i64 (manyS N y.1), .int .i64 (eachS N y.1)]]

set_option maxHeartbeats 1000000 in
theorem gsize8 (s : Sh) (hr : s.r = true) (w : World) : Calls Try.prog 78 #[.agg #[.int .i64 s.c, .int .i64 s.h, .int .i64 s.x]] w fun e w' => e = .returned (.int .i64 s.n) ∧ Below w.heap.size w w' := by
  obtain ⟨r1, r2, r3, r4, r5, r6, r7⟩ := right_bd hr
  have HN := Lib.hid (Sh.n_eq hr)
  have m1 := mul_bd (show 0 ≤ s.c by omega) r2 (show 0 ≤ s.h by omega) r4
  obtain ⟨p, hp⟩ : ∃ p, p = s.c * s.h := ⟨_, rfl⟩
  rw [← hp] at m1 r7
  have m2 := mul_bd m1.1 m1.2 (show 0 ≤ s.x by omega) r6
  obtain ⟨q, hq⟩ : ∃ q, q = p * s.x := ⟨_, rfl⟩
  rw [← hq] at m2 r7
  have v1 : IntKind.i64.wrap (s.c * s.h) = p := by rw [IntWalk.i64_in _ (by rw [← hp]; omega)]; exact hp.symm
  have v2 : wrap64 (s.c * s.h) = p := by rw [IntWalk.wrap64_in _ (by rw [← hp]; omega)]; exact hp.symm
  have v3 : IntKind.i64.wrap (p * s.x) = q := by rw [IntWalk.i64_in _ (by rw [← hq]; omega)]; exact hq.symm
  have v4 : wrap64 (p * s.x) = q := by rw [IntWalk.wrap64_in _ (by rw [← hq]; omega)]; exact hq.symm
  have HQ : Hid (s.n = q) := by show _ = _; rw [HN.out, hq, hp]
  clear hp hq m1 m2 r1 r2 r3 r4 r5 r6 r7 HN
  go_enter Try.func78, Try.ntmps78
  go_wp2_with fail
  go_ret
  exact ⟨by rw [HQ.out]; rfl, (Below.refl _ w).alloc (Nat.le_refl _) _⟩

set_option maxHeartbeats 1000000 in
theorem gspans8 (c h x : Int) (v : Value) (w : World) : Calls Try.prog 77 #[.agg #[.int .i64 c, .int .i64 h, .int .i64 x, v]] w fun e w' => e = .returned (.func (.func 97) #[] #[.pointer (some ⟨w.heap.size, 0, none⟩)]) ∧ w' = w.alloc (.cells #[.int .i64 c, .int .i64 h, .int .i64 x, v] 26) := by
  have hmf : ∀ (fn : Fn) (first cap : Array Value) (w : World), (Instr.makeFunc fn first cap).run Try.prog w = .ok (.func fn first cap) w := fun _ _ _ _ => rfl
  go_enter Try.func77, Try.ntmps77
  go_wp2_with fail
  go_ret
  exact ⟨rfl, rfl⟩

theorem shp_from (A : Option Addr) (n cap : Nat) (h1 : 1 ≤ n) (h2 : n ≤ cap) (w : World) : (Instr.slice 29 (.slice A n cap) (some (.int .i64 1)) none none).run Try.prog w = .ok (.slice (if cap = 1 then A else A.map (·.add (1 * 3))) (n - 1) (cap - 1)) w := by
  by_cases hc : cap = 1
  · subst hc
    obtain rfl : n = 1 := by omega
    go_simp
  · rcases A with _ | ad
    · go_simp
      intro hh; omega
    · go_simp
      intro hh; omega

set_option maxHeartbeats 4000000 in
set_option maxRecDepth 100000 in
theorem spans1_stops (m : Nat) (c h x : Int) (A : Option Addr) (cA n : Nat) (ls : List Ly) (w : World) (hx : Rl w A ls) (ln : n = ls.length) (hn : n ≤ 60) (bn : Nat) (X : Nat → Nat → Prop) (w0 : World)
    (hN : NB w0 bn c h x (.slice A n cA)) (hX1 : ¬ X bn 26) (hX2 : ∀ k, w0.heap.size ≤ k → ¬ X k 23) (hB : Below w.heap.size w w0) :
    SeqStopsK Fence.wide m Try.prog 97 #[.pointer (some ⟨bn, 0, none⟩)] (encS ⟨c, h, x, ls⟩) (Kx w.heap.size X) (fun ys => ys = stL ⟨c, h, x, ls⟩) (fun pre => pre <+: stL ⟨c, h, x, ls⟩) 60 w0 := by
  intro l J Jx W hW hJ hJx hY h0
  have HY := Lib.hid hY; have HJ := Lib.hid hJ; have HX1 := Lib.hid hX1; have HX2 := Lib.hid hX2
  have HX := Lib.hid hx; have LX := Lib.hid ln
  have NW := Lib.hid (NB.below hN hW)
  have BW := Lib.hid (chain hB hW)
  have SW : w0.heap.size ≤ W.heap.size := hW.size
  have J0 := Lib.hid h0
  have hn1 : n ≤ 1000 := by omega
  obtain ⟨er, her⟩ : ∃ er, er = errN ⟨c, h, x, ls⟩ := ⟨_, rfl⟩
  have HER := Lib.hid her
  obtain ⟨c0, c1, c2, c3⟩ := NW.out.cells
  clear hY hJ hJx hX1 hX2 hx ln hN hB hW h0 her
  refine callsIn_of_wp Try.func97 rfl trivial ?_ rfl
  simp only [Try.ntmps97, List.size_toArray, List.length_cons, List.length_nil, Nat.reduceAdd, Nat.reduceSub, Array.replicate_succ, Array.replicate_zero, List.push_toArray, List.append_toArray, List.nil_append, List.cons_append]
  gi_wp2_with fail
  refine ⟨trivial, fun z => by simp [Fence.wide] at z, (callsIn_wide.2 (shapes_new c h x A cA n ls _ (HX.out.below BW.out) LX.out hn1)).mono ?_⟩
  rintro e w1 ⟨A1, k1, n1, rfl, hn1', hR, hb, hd1, hd2, hnew⟩
  rw [← HER.out]
  have BW1 := Lib.hid (chain BW.out hb)
  have N1 := Lib.hid (NB.below NW.out hb)
  have J1 := Lib.hid (HJ.out _ _ _ none J0.out (grown_below hb) (fun r e => by cases e))
  have R1 := Lib.hid hR; have L1 := Lib.hid hn1'; have C1 := Lib.hid hd1; have NEW := Lib.hid hnew
  have sz1 := hb.size
  clear hb hR hn1' hd1 hd2 hnew c0 c1 c2 c3 J0 NW BW
  by_cases h0 : ¬ er = 0
  · have b0 : (er != 0) = true := by simpa using h0
    have E0 : Hid (stL ⟨c, h, x, ls⟩ = []) := stI_none (by rw [← HER.out]; exact h0) _
    clear h0
    gi_wp2_with fail
    refine bodyPost_ret (results_none rfl _ _ _) rfl ?_
    exact ⟨⟨_, rfl⟩, .inl ⟨[], E0.out.symm, J1.out⟩⟩
  have h0 : er = 0 := by omega
  have b0 : (er != 0) = false := by rw [h0]; rfl
  have HE : Hid (errN ⟨c, h, x, ls⟩ = 0) := HER.out.symm.trans h0
  clear h0 HER
  obtain ⟨ss, hss⟩ : ∃ ss, ss = shL ⟨c, h, x⟩ ls := ⟨_, rfl⟩
  have SS := Lib.hid hss
  have hR := R1.out; have hL := L1.out
  rw [shN_ok HE.out, ← hss] at hR hL
  have sl : ss.length = n + 1 := by rw [hss, sh_len, ← LX.out]
  obtain ⟨bS, oS, rfl, lS, qS⟩ := hR (by omega)
  obtain ⟨nb, cs, fr, hblk⟩ := NEW.out _ rfl
  have nb : W.heap.size ≤ bS := nb
  have hblk : w1.heap[bS]? = some (.cells cs 23 fr) := hblk
  have QS := Lib.hid qS; have BLK := Lib.hid hblk; have NBK := Lib.hid nb
  obtain rfl : n1 = n + 1 := by omega
  have cap1 : n + 1 ≤ k1 := C1.out
  have hsl := shp_from (some ⟨bS, oS, none⟩) (n + 1) k1 (by omega) cap1
  obtain ⟨A2, hA2⟩ : ∃ A2 : Option Addr, A2 = (if k1 = 1 then some ⟨bS, oS, none⟩ else (some ⟨bS, oS, none⟩ : Option Addr).map (·.add (1 * 3))) := ⟨_, rfl⟩
  rw [← hA2, Nat.add_sub_cancel] at hsl
  obtain ⟨c2, hc2⟩ : ∃ c2, c2 = k1 - 1 := ⟨_, rfl⟩
  rw [← hc2] at hsl
  have HA2 : Hid (0 < n → A2 = some ⟨bS, oS + 3, none⟩) := fun hp => by rw [hA2, if_neg (by omega)]; rfl
  have SL := Lib.hid sl; have CAP := Lib.hid cap1
  clear hss hR hL sl qS hblk nb cap1 hA2 hc2 NEW C1 R1 L1
  have NU0 : Hid (numS ⟨c, h, x, ls⟩ 0 = 0) := rfl
  have FI0 : Hid (firstS ⟨c, h, x, ls⟩ 0 = 0) := rfl
  gi_wp2_with fail
  gi_loopw [5, 6, 20] (fun s5 s6 s20 wr => ∃ k : Nat, k ≤ n ∧ s20 = .int .i64 (k : Int) ∧ s5 = .int .i64 (numS ⟨c, h, x, ls⟩ k) ∧ s6 = .int .i64 (firstS ⟨c, h, x, ls⟩ k) ∧ Hid (J (stI ⟨c, h, x, ls⟩ k) wr) ∧ Hid (Below w.heap.size w wr) ∧ Hid (NB wr bn c h x (.slice A n cA)) ∧ Hid (wr.heap[bS]? = some (.cells cs 23 fr))) (fun _ _ s20 _ => n - (intOf s20).toNat)
  case atStart => exact ⟨0, Nat.zero_le _, rfl, by rw [NU0.out], by rw [FI0.out], J1, BW1, N1, BLK⟩
  case round =>
    obtain ⟨k, hk, rfl, rfl, rfl, JK, BK, NK, SK⟩ := hrel
    by_cases kn : k < n
    · have ki : (k : Int) < (n : Int) := by omega
      have kl : k < ls.length := by rw [← LX.out]; exact kn
      have G := good_i HE.out kl
      obtain ⟨S, hS⟩ : ∃ S, S = (atN ⟨c, h, x, ls⟩ (k : Nat)).u := ⟨_, rfl⟩
      obtain ⟨P, hP⟩ : ∃ P, P = (atN ⟨c, h, x, ls⟩ (k : Nat)).p := ⟨_, rfl⟩
      have gS : ss[k + 1]? = some S := by
        have hl := get_ly kl
        have hK : (knL ⟨c, h, x⟩ 0 ls)[k]? = some (atN ⟨c, h, x, ls⟩ (k : Nat)) := by
          rw [at_some HE.out hl]
          have := kn_get ls ⟨c, h, x⟩ 0 k _ hl
          rw [Int.zero_add] at this
          exact this
        rw [SS.out, sh_kn ls _ 0, List.getElem?_cons_succ, List.getElem?_map, hK, hS]; rfl
      obtain ⟨t0, t1, t2⟩ := sh_at QS.out gS
      have e1 : ∀ i, wr.cell? ⟨bS, i, none⟩ = w1.cell? ⟨bS, i, none⟩ := fun i => World.cell?_of_block (SK.out.trans BLK.out.symm)
      have z0 : wr.cell? ⟨bS, oS + 3 + k * 3, none⟩ = some (.int .i64 S.c) := by rw [e1, show oS + 3 + k * 3 = oS + (k + 1) * 3 by omega]; exact t0
      have z1 : wr.cell? ⟨bS, oS + 3 + k * 3 + 1, none⟩ = some (.int .i64 S.h) := by rw [e1, show oS + 3 + k * 3 + 1 = oS + (k + 1) * 3 + 1 by omega]; exact t1
      have z2 : wr.cell? ⟨bS, oS + 3 + k * 3 + 2, none⟩ = some (.int .i64 S.x) := by rw [e1, show oS + 3 + k * 3 + 2 = oS + (k + 1) * 3 + 2 by omega]; exact t2
      obtain ⟨c0, c1, c2', c3⟩ := NK.out.cells
      have eA := HA2.out (by omega)
      subst eA
      have PP := Lib.hid hP; have HS := Lib.hid hS; have GG := Lib.hid G
      have szr := BK.out.size
      have PR : Hid (∀ w', Rl w' A ls → Calls Try.prog 23 #[.agg #[.int .i64 c, .int .i64 h, .int .i64 x, .slice A n cA], .int .i64 (k : Int)] w' fun e w'' => e = .returned (.int .i64 P) ∧ Below w'.heap.size w' w'') := fun w' z => by rw [hP]; exact products_of c h x A cA n ls (k : Int) w' z LX.out hn1
      clear gS t0 t1 t2 e1 hP hS G
      have lN := NK.out.lt
      gi_wp2_with fail
      have BA : Hid (Below w.heap.size w (wr.alloc (.cells #[.int .i64 S.c, .int .i64 S.h, .int .i64 S.x] 23))) := BK.out.alloc szr _
      refine ⟨trivial, fun z => by simp [Fence.wide] at z, (callsIn_wide.2 (PR.out _ (HX.out.below BA.out))).mono ?_⟩
      rintro e w2 ⟨rfl, hb⟩
      have BR2 : Hid (Below wr.heap.size wr w2) := chain ((Below.refl _ wr).alloc (Nat.le_refl _) _) hb
      have OB : Hid (SB w2 wr.heap.size S) := (SB.new wr S).below hb
      have BK2 := Lib.hid (chain BK.out BR2.out)
      have NK2 := Lib.hid (NK.out.below BR2.out)
      have SK2 : Hid (w2.heap[bS]? = some (.cells cs 23 fr)) := (BR2.out.block bS (Array.getElem?_eq_some_iff.1 SK.out).1).trans SK.out
      have JK2 := Lib.hid (HJ.out _ _ _ none JK.out (grown_below BR2.out) (fun r e => by cases e))
      clear hb z0 z1 z2 c0 c1 c2' c3 lN BA JK
      by_cases p0 : P = 0
      · have bp : (P == 0) = true := by rw [p0]; rfl
        have nS : ¬ isS ⟨c, h, x, ls⟩ k := fun z => z.2 (PP.out.symm.trans p0)
        have E1 := Lib.hid (stI_no nS)
        have F1 : Hid (firstS ⟨c, h, x, ls⟩ k = firstS ⟨c, h, x, ls⟩ (k + 1)) := by
          have q := gatesL_all GG.out (k : Nat)
          rw [← PP.out, p0] at q
          show ((gatesK ⟨c, h, x, ls⟩ k).length : Int) = ((gatesK ⟨c, h, x, ls⟩ (k + 1)).length : Int)
          rw [gatesK_next, List.length_append, Int.natCast_add, q]; omega
        clear p0 nS
        gi_wp2_with fail
        go_roundw
        case rel => exact ⟨k + 1, by omega, by go_num, by unfold numS; rw [E1.out], by rw [F1.out], by rw [E1.out]; exact JK2, BK2, NK2, SK2⟩
        case measure => simp [intOf]; omega
      · have bp : (P == 0) = false := by simpa using p0
        have hS : isS ⟨c, h, x, ls⟩ k := ⟨by rw [← LX.out]; exact kn, fun z => p0 (PP.out.trans z)⟩
        have E1 := Lib.hid (stI_yes hS)
        obtain ⟨⟨f1, f2⟩, f3, f4, f5, f6, f7, f8⟩ := st_facts (by rw [← LX.out]; exact hn) (⟨k, hS⟩ : St ⟨c, h, x, ls⟩)
        have f9 := gates_bd (c := c) (h := h) (x := x) (ls := ls)
        obtain ⟨nu, hnu⟩ : ∃ nu, nu = numS ⟨c, h, x, ls⟩ k := ⟨_, rfl⟩
        obtain ⟨fi, hfi⟩ : ∃ fi, fi = firstS ⟨c, h, x, ls⟩ k := ⟨_, rfl⟩
        obtain ⟨ea, hea⟩ : ∃ ea, ea = eachS ⟨c, h, x, ls⟩ k := ⟨_, rfl⟩
        have f4 : 1 ≤ P := by rw [PP.out]; exact f4
        have f5 : fi + P ≤ 512 := by rw [hfi, PP.out]; exact Int.le_trans f5 (by omega)
        have f7 : S.n * ea = P := by rw [hea, PP.out, HS.out]; exact f7
        have f8 : 1 ≤ S.n := by rw [HS.out]; exact f8
        have f3 : 0 ≤ fi := by rw [hfi]; exact f3
        have f1 : 0 ≤ nu := by rw [hnu]; exact f1
        have f2 : nu ≤ 60 := by rw [hnu]; exact f2
        have f6 : 1 ≤ ea := by rw [hea]; exact f6
        have dv : P.tdiv S.n = ea := by rw [← f7]; exact Int.mul_tdiv_cancel_left ea (by omega)
        have nz : ¬ S.n = 0 := by omega
        have nz2 : (S.n == 0) = false := by simp; omega
        have ea9 : ea ≤ 512 := by
          have := Int.mul_le_mul_of_nonneg_right f8 (show 0 ≤ ea by omega)
          omega
        have v1 : IntKind.i64.wrap (P.tdiv S.n) = ea := by rw [dv, IntWalk.i64_in _ (by omega)]
        have v2 : wrap64 (P.tdiv S.n) = ea := by rw [dv, IntWalk.wrap64_in _ (by omega)]
        have v3 : IntKind.i64.wrap (nu + 1) = nu + 1 := by rw [IntWalk.i64_in _ (by omega)]
        have v4 : IntKind.i64.wrap (fi + P) = fi + P := by rw [IntWalk.i64_in _ (by omega)]
        have v5 : wrap64 (nu + 1) = nu + 1 := by rw [IntWalk.wrap64_in _ (by omega)]
        have v6 : wrap64 (fi + P) = fi + P := by rw [IntWalk.wrap64_in _ (by omega)]
        have NU : Hid (nu + 1 = numS ⟨c, h, x, ls⟩ (k + 1)) := by show nu + 1 = _; rw [hnu]; unfold numS; rw [E1.out, List.length_append]; simp
        have FI : Hid (fi + P = firstS ⟨c, h, x, ls⟩ (k + 1)) := by
          have q := gatesL_all GG.out (k : Nat)
          rw [← PP.out] at q
          rw [hfi]
          show ((gatesK ⟨c, h, x, ls⟩ k).length : Int) + P = ((gatesK ⟨c, h, x, ls⟩ (k + 1)).length : Int)
          rw [gatesK_next, List.length_append, Int.natCast_add, q]
        have SZ : Hid (∀ w', Calls Try.prog 78 #[.agg #[.int .i64 S.c, .int .i64 S.h, .int .i64 S.x]] w' fun e w'' => e = .returned (.int .i64 S.n) ∧ Below w'.heap.size w' w'') := fun w' => gsize8 S (by rw [HS.out]; exact GG.out.ur) w'
        have YL : Hid (∀ W1, J (stI ⟨c, h, x, ls⟩ k) W1 → YieldAt Fence.wide (m - 1) Try.prog l #[.int .i64 nu, .agg #[.int .i64 (k : Int), .int .i64 fi, .int .i64 P, .int .i64 ea]] W1 fun e W' => (e = .returned (.bool true) ∧ J (stI ⟨c, h, x, ls⟩ (k + 1)) W' ∧ Kx w.heap.size X W1 W') ∨ (e = .returned (.bool false) ∧ Jx (stI ⟨c, h, x, ls⟩ (k + 1)) W')) := fun W1 j1 => by
          have := HY.out (stI ⟨c, h, x, ls⟩ k) ⟨k, hS⟩ W1 j1 (by have := stI_len (N := ⟨c, h, x, ls⟩) k; omega)
          rw [hnu, hfi, hea, PP.out, E1.out]
          exact this
        obtain ⟨o0, o1, o2⟩ := OB.out.cells
        rw [← hnu, ← hfi]
        clear p0 f1 f2 f3 f4 f5 f6 f7 f8 f9 dv ea9 hnu hfi hea
        gi_wp2_with fail
        refine ⟨trivial, fun z => by simp [Fence.wide] at z, (callsIn_wide.2 (SZ.out _)).mono ?_⟩
        rintro e w3 ⟨rfl, hb⟩
        have BK3 := Lib.hid (chain BK2.out hb)
        have NK3 := Lib.hid (NK2.out.below hb)
        have SK3 : Hid (w3.heap[bS]? = some (.cells cs 23 fr)) := (hb.block bS (Array.getElem?_eq_some_iff.1 SK2.out).1).trans SK2.out
        have j3 := HJ.out _ _ _ none JK2.out (grown_below hb) (fun r e => by cases e)
        obtain ⟨fn, tm, asg, bod, hy, hR⟩ := YL.out _ j3
        have HRR := Lib.hid hR
        clear hb o0 o1 o2 j3 hR JK2 OB
        gi_wp2_with fail
        refine ⟨fun z => by simp [Fence.wide] at z, HRR.out.mono ?_⟩
        rintro e w4 (⟨rfl, hj4, hk4⟩ | ⟨rfl, hj4⟩)
        · have JK4 := Lib.hid hj4
          have BK4 := Lib.hid (BK3.out.trans hk4.below)
          have NK4 : Hid (NB w4 bn c h x (.slice A n cA)) := hk4.keep _ _ _ _ NK3.out HX1.out
          have SK4 : Hid (w4.heap[bS]? = some (.cells cs 23 fr)) := hk4.keep _ _ _ _ SK3.out (HX2.out _ (Nat.le_trans SW NBK.out))
          clear hj4 hk4 hy
          gi_wp2_with fail
          go_roundw
          case rel => exact ⟨k + 1, by omega, by go_num, by rw [NU.out], by rw [FI.out], JK4, BK4, NK4, SK4⟩
          case measure => simp [intOf]; omega
        · have JX4 := Lib.hid hj4
          clear hj4 hy
          gi_wp2_with fail
          refine bodyPost_ret (results_none rfl _ _ _) rfl ?_
          exact ⟨⟨_, rfl⟩, .inr ⟨_, stI_pre (by show k + 1 ≤ ls.length; rw [← LX.out]; omega), JX4.out⟩⟩
    · obtain rfl : k = n := by omega
      gi_wp2_with fail
      go_end0
      exact ⟨⟨_, rfl⟩, .inl ⟨_, by rw [LX.out]; rfl, JK.out⟩⟩

end Go.Proofs.Ytnfmpladdfgadaa

namespace Go.Proofs.Ytnfmpladdfgadaa
open Go.RowKit Go.Shelf
attribute [local go_sem] Oper.semAt_some

/-- A stage's own cells. -/
def PB (w : World) (b : Nat) (l f m e : Int) : Prop := w.heap[b]? = some (.cells #[.int .i64 l, .int .i64 f, .int .i64 m, .int .i64 e] 107 (0, 0))
theorem PB.lt {w : World} {b : Nat} {l f m e : Int} (H : PB w b l f m e) : b < w.heap.size := (Array.getElem?_eq_some_iff.1 H).1
theorem PB.below {w w' : World} {b : Nat} {l f m e : Int} (H : PB w b l f m e) (hb : Below w.heap.size w w') : PB w' b l f m e := (hb.block b H.lt).trans H
theorem PB.cells {w : World} {b : Nat} {l f m e : Int} (H : PB w b l f m e) :
    w.cell? ⟨b, 0, none⟩ = some (.int .i64 l) ∧ w.cell? ⟨b, 1, none⟩ = some (.int .i64 f) ∧ w.cell? ⟨b, 2, none⟩ = some (.int .i64 m) ∧ w.cell? ⟨b, 3, none⟩ = some (.int .i64 e) :=
  ⟨by rw [Lib.cell_of_heap H]; rfl, by rw [Lib.cell_of_heap H]; rfl, by rw [Lib.cell_of_heap H]; rfl, by rw [Lib.cell_of_heap H]; rfl⟩
theorem Rg.kept {α : Type} {f : α → List Value} {w w' : World} {A : Option Addr} {xs : List α} (h : Rg f w A xs) (hb : ∀ b off, A = some ⟨b, off, none⟩ → 0 < xs.length → w'.heap[b]? = w.heap[b]?) : Rg f w' A xs := fun h0 => by
  obtain ⟨b, off, e, hlt, hc⟩ := h h0
  have q := hb b off e h0
  refine ⟨b, off, e, ?_, fun j u hj => (World.cell?_of_block (a := ⟨b, off + j, none⟩) q).trans (hc j u hj)⟩
  have : w'.heap[b]? = some w.heap[b] := by rw [q]; exact Array.getElem?_eq_getElem hlt
  exact (Array.getElem?_eq_some_iff.1 this).1
theorem cell_block {w : World} {b i : Nat} {v : Value} (h : w.cell? ⟨b, i, none⟩ = some v) : ∃ cs T fr, w.heap[b]? = some (.cells cs T fr) := by
  unfold World.cell? at h
  split at h
  · rename_i cs T fr ho; exact ⟨cs, T, fr, ho⟩
  · cases h
theorem rg_kx {B : Nat} {X : Nat → Nat → Prop} {w w' : World} {A : Option Addr} {ts : List Tm} (h : Rg tcells w A ts) (hk : Kx B X w w') (hX : ∀ b off, A = some ⟨b, off, none⟩ → ∀ T, ¬ X b T) : Rg tcells w' A ts := by
  refine h.kept fun b off e h0 => ?_
  obtain ⟨b', off', e', hlt, hc⟩ := h h0
  rw [e] at e'; cases e'
  obtain ⟨t, ht⟩ : ∃ t, ts[0]? = some t := ⟨_, List.getElem?_eq_getElem h0⟩
  have := Rg.at tcells_len hc ht 0 _ rfl
  obtain ⟨cs, T, fr, ho⟩ := cell_block this
  rw [ho]
  exact hk.keep _ _ _ _ ho (hX b off e T)
theorem fin_take {n k : Nat} (h : k < n) : (List.finRange n).take (k + 1) = (List.finRange n).take k ++ [⟨k, h⟩] := by
  have hl : k < (List.finRange n).length := by rw [List.length_finRange]; exact h
  rw [← List.take_append_getElem hl, List.getElem_finRange]; rfl

def encG (b l a : Int) (ts : List Tm) (j : Fin ts.length) : Array Value := #[.int .i64 (b + ((j.1 : Nat) : Int)), .agg #[.int .i64 l, .int .i64 a, .int .i64 ((j.1 : Nat) : Int), .int .i64 ts[j].x, .int .i64 ts[j].w]]

set_option maxHeartbeats 1000000 in
theorem ggates8 (l f m e : Int) (c h x : Int) (v : Value) (a : Int) (w : World) : Calls Try.prog 79 #[.agg #[.int .i64 l, .int .i64 f, .int .i64 m, .int .i64 e], .agg #[.int .i64 c, .int .i64 h, .int .i64 x, v], .int .i64 a] w fun q w' => q = .returned (.func (.func 98) #[] #[.pointer (some ⟨w.heap.size + 1, 0, none⟩), .pointer (some ⟨w.heap.size, 0, none⟩), .pointer (some ⟨w.heap.size + 1 + 1, 0, none⟩)]) ∧ w' = ((w.alloc (.cells #[.int .i64 l, .int .i64 f, .int .i64 m, .int .i64 e] 107)).alloc (.cells #[.int .i64 c, .int .i64 h, .int .i64 x, v] 26)).alloc (.cells #[.int .i64 a] 3) := by
  have hmf : ∀ (fn : Fn) (first cap : Array Value) (w : World), (Instr.makeFunc fn first cap).run Try.prog w = .ok (.func fn first cap) w := fun _ _ _ _ => rfl
  go_enter Try.func79, Try.ntmps79
  go_wp2_with fail
  go_ret
  exact ⟨rfl, rfl⟩

set_option maxHeartbeats 4000000 in
set_option maxRecDepth 100000 in
theorem gates1_stops (m : Nat) (c h x : Int) (A : Option Addr) (cA n : Nat) (ls : List Ly) (w : World) (hx : Rl w A ls) (ln : n = ls.length) (hn : n ≤ 60) (lay fi ma ea at' : Int) (ts : List Tm) (hts : termsN ⟨c, h, x, ls⟩ lay at' = ts)
    (bs bn ba : Nat) (X : Nat → Nat → Prop) (w0 : World)
    (hS : PB w0 bs lay fi ma ea) (hN : NB w0 bn c h x (.slice A n cA)) (hA : CB w0 ba 3 (.int .i64 at'))
    (hX1 : ¬ X bs 107) (hX2 : ¬ X bn 26) (hX3 : ¬ X ba 3) (hX : ∀ k T, w0.heap.size ≤ k → ¬ X k T) (hB : Below w.heap.size w w0)
    (f0 : 0 ≤ fi) (f1 : fi ≤ 2000) (e0 : 0 ≤ ea) (e1 : ea ≤ 2000) (hat : 0 < ts.length → 0 ≤ at' ∧ at' ≤ 2000) (htl : ts.length ≤ 2000) :
    SeqStopsK Fence.wide m Try.prog 98 #[.pointer (some ⟨bn, 0, none⟩), .pointer (some ⟨bs, 0, none⟩), .pointer (some ⟨ba, 0, none⟩)] (encG (fi + at' * ea) lay at' ts) (Kx w.heap.size X) (fun ys => ys = List.finRange ts.length) (fun pre => pre <+: List.finRange ts.length) ts.length w0 := by
  intro l J Jx W hW hJ hJx hY h0
  have HY := Lib.hid hY; have HJ := Lib.hid hJ; have HX1 := Lib.hid hX1; have HX2 := Lib.hid hX2; have HX3 := Lib.hid hX3; have HXX := Lib.hid hX
  have HX := Lib.hid hx; have LX := Lib.hid ln; have HT := Lib.hid hts; have HAT := Lib.hid hat
  have SW := Lib.hid (hS.below hW)
  have NW := Lib.hid (NB.below hN hW)
  have AW := Lib.hid (hA.below hW)
  have BW := Lib.hid (chain hB hW)
  have zW : w0.heap.size ≤ W.heap.size := hW.size
  have J0 := Lib.hid h0
  have hn1 : n ≤ 1000 := by omega
  obtain ⟨c0, c1, c2, c3⟩ := NW.out.cells
  obtain ⟨s0, s1, s2, s3⟩ := SW.out.cells
  have a0 := AW.out.cell
  clear hY hJ hJx hX1 hX2 hX3 hX hx ln hN hS hA hB hW h0 hts hat
  refine callsIn_of_wp Try.func98 rfl trivial ?_ rfl
  simp only [Try.ntmps98, List.size_toArray, List.length_cons, List.length_nil, Nat.reduceAdd, Nat.reduceSub, Array.replicate_succ, Array.replicate_zero, List.push_toArray, List.append_toArray, List.nil_append, List.cons_append]
  gi_wp2_with fail
  refine ⟨trivial, fun z => by simp [Fence.wide] at z, (callsIn_wide.2 (terms_new c h x A cA n ls lay at' ts HT.out _ (HX.out.below BW.out) LX.out hn1)).mono ?_⟩
  rintro e w1 ⟨A1, k1, n1, rfl, hn1', hR, hb, hd1, hd2, hnew⟩
  have BW1 := Lib.hid (chain BW.out hb)
  have N1 := Lib.hid (NB.below NW.out hb)
  have S1 := Lib.hid (SW.out.below hb)
  have A1' := Lib.hid (AW.out.below hb)
  have J1 := Lib.hid (HJ.out _ _ _ none J0.out (grown_below hb) (fun r e => by cases e))
  have R1 := Lib.hid hR; have NEW := Lib.hid hnew
  have L1 := Lib.hid hn1'
  have n2 : n1 ≤ 2000 := by omega
  clear hb hR hn1' hd1 hd2 hnew c0 c1 c2 c3 J0 NW BW SW AW s0 s1 s2 s3 a0
  gi_wp2_with fail
  gi_loopw [14] (fun s14 wr => ∃ k : Nat, k ≤ n1 ∧ s14 = .int .i64 (k : Int) ∧ Hid (J ((List.finRange ts.length).take k) wr) ∧ Hid (Below w.heap.size w wr) ∧ Hid (NB wr bn c h x (.slice A n cA)) ∧ Hid (PB wr bs lay fi ma ea) ∧ Hid (CB wr ba 3 (.int .i64 at')) ∧ Hid (Rg tcells wr A1 ts)) (fun s14 _ => n1 - (intOf s14).toNat)
  case atStart => exact ⟨0, Nat.zero_le _, rfl, J1, BW1, N1, S1, A1', R1⟩
  case round =>
    obtain ⟨k, hk, rfl, JK, BK, NK, SK, AK, RK⟩ := hrel
    by_cases kn : k < n1
    · have ki : (k : Int) < (n1 : Int) := by omega
      have kl : k < ts.length := by rw [← L1.out]; exact kn
      obtain ⟨at0, at1⟩ := HAT.out (by omega)
      obtain ⟨t, ht⟩ : ∃ t, t = ts[k] := ⟨_, rfl⟩
      have gt : ts[k]? = some t := by rw [ht]; exact List.getElem?_eq_getElem kl
      obtain ⟨bT, oT, rfl, lT, qT⟩ := RK.out (by omega)
      have z0 : wr.cell? ⟨bT, oT + k * 2, none⟩ = some (.int .i64 t.x) := by have := Rg.at tcells_len qT gt 0 _ rfl; exact this
      have z1 : wr.cell? ⟨bT, oT + k * 2 + 1, none⟩ = some (.int .i64 t.w) := by have := Rg.at tcells_len qT gt 1 _ rfl; exact this
      obtain ⟨s0, s1, s2, s3⟩ := SK.out.cells
      have a0 := AK.out.cell
      have lS := SK.out.lt
      have lA := AK.out.lt
      have szr := BK.out.size
      have NT : Hid (∀ b off, some (⟨bT, oT, none⟩ : Addr) = some ⟨b, off, none⟩ → ∀ T, ¬ X b T) := fun b off e T => by
        have := NEW.out _ rfl
        have this : W.heap.size ≤ bT := this
        cases e
        exact HXX.out _ T (by omega)
      have m1 := mul_bd at0 at1 e0 e1
      obtain ⟨ae, hae⟩ : ∃ ae, ae = at' * ea := ⟨_, rfl⟩
      rw [← hae] at m1
      have v1 : IntKind.i64.wrap (at' * ea) = ae := by rw [IntWalk.i64_in _ (by rw [← hae]; omega)]; exact hae.symm
      have v2 : wrap64 (at' * ea) = ae := by rw [IntWalk.wrap64_in _ (by rw [← hae]; omega)]; exact hae.symm
      have v3 : IntKind.i64.wrap (fi + ae) = fi + ae := by rw [IntWalk.i64_in _ (by omega)]
      have v4 : wrap64 (fi + ae) = fi + ae := by rw [IntWalk.wrap64_in _ (by omega)]
      have v5 : IntKind.i64.wrap (fi + ae + (k : Int)) = fi + ae + (k : Int) := by rw [IntWalk.i64_in _ (by omega)]
      have v6 : wrap64 (fi + ae + (k : Int)) = fi + ae + (k : Int) := by rw [IntWalk.wrap64_in _ (by omega)]
      have YL : Hid (∀ W1, J ((List.finRange ts.length).take k) W1 → YieldAt Fence.wide (m - 1) Try.prog l #[.int .i64 (fi + ae + (k : Int)), .agg #[.int .i64 lay, .int .i64 at', .int .i64 (k : Int), .int .i64 t.x, .int .i64 t.w]] W1 fun e W' => (e = .returned (.bool true) ∧ J ((List.finRange ts.length).take (k + 1)) W' ∧ Kx w.heap.size X W1 W') ∨ (e = .returned (.bool false) ∧ Jx ((List.finRange ts.length).take (k + 1)) W')) := fun W1 j1 => by
        have := HY.out _ ⟨k, kl⟩ W1 j1 (by rw [List.length_take, List.length_finRange]; omega)
        rw [fin_take kl, hae, ht]
        exact this
      have B3 : Hid (Below wr.heap.size wr ((wr.alloc (.cells #[.int .i64 t.x, .int .i64 t.w] 64)).alloc (.cells #[.int .i64 lay, .int .i64 at', .int .i64 (k : Int), .int .i64 t.x, .int .i64 t.w] 54))) := ((Below.refl _ wr).alloc (Nat.le_refl _) _).alloc (by simp) _
      obtain ⟨fn, tm, asg, bod, hy, hR⟩ := YL.out _ (HJ.out _ _ _ none JK.out (grown_below B3.out) (fun r e => by cases e))
      have HRR := Lib.hid hR
      have KL := Lib.hid kl
      clear gt qT hae m1 hR kl ht
      gi_wp2_with fail
      refine ⟨fun z => by simp [Fence.wide] at z, HRR.out.mono ?_⟩
      rintro e w4 (⟨rfl, hj4, hk4⟩ | ⟨rfl, hj4⟩)
      · have JK4 := Lib.hid hj4
        have BK4 := Lib.hid ((chain BK.out B3.out).trans hk4.below)
        have NK4 : Hid (NB w4 bn c h x (.slice A n cA)) := hk4.keep _ _ _ _ (NK.out.below B3.out) HX2.out
        have SK4 : Hid (PB w4 bs lay fi ma ea) := hk4.keep _ _ _ _ (SK.out.below B3.out) HX1.out
        have AK4 : Hid (CB w4 ba 3 (.int .i64 at')) := hk4.keep _ _ _ _ (AK.out.below B3.out) HX3.out
        have RK4 : Hid (Rg tcells w4 (some ⟨bT, oT, none⟩) ts) := rg_kx (RK.out.below B3.out) hk4 NT.out
        clear hj4 hk4 hy
        gi_wp2_with fail
        go_roundw
        case rel => exact ⟨k + 1, by omega, by go_num, JK4, BK4, NK4, SK4, AK4, RK4⟩
        case measure => simp [intOf]; omega
      · have JX4 := Lib.hid hj4
        clear hj4 hy
        gi_wp2_with fail
        refine bodyPost_ret (results_none rfl _ _ _) rfl ?_
        exact ⟨⟨_, rfl⟩, .inr ⟨_, List.take_prefix _ _, JX4.out⟩⟩
    · obtain rfl : k = n1 := by omega
      gi_wp2_with fail
      go_end0
      exact ⟨⟨_, rfl⟩, .inl ⟨_, by rw [L1.out]; exact List.take_of_length_le (by rw [List.length_finRange]; exact Nat.le_refl _), JK.out⟩⟩

end Go.Proofs.Ytnfmpladdfgadaa
