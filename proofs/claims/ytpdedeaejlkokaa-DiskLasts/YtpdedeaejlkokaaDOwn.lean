/-
  What is one's own in memory, block by block, and what is kept of all else.
-/
import Derived.Test.YtpdedeaejlkokaaBMem
import Derived.Test.YtpdedeaejlkokaaDMath2
import Derived.Test.YtpdedeaejlkokaaRHeld
import Derived.Laws.OwnMore
import Derived.Deep.AppendLies
namespace Go.Proofs.Ytpdedeaejlkokaa
open Go.RowKit

/-- All but what someone owns is kept. -/
def Kept (B : Nat) (O : Nat → Prop) (w w' : World) : Prop := Below B w w' ∧ ∀ b, b < w.heap.size → ¬ O b → w'.heap[b]? = w.heap[b]?
/-- What someone owns, and all that is new. -/
def Grow (O : Nat → Prop) (w w' : World) (b : Nat) : Prop := O b ∨ (w.heap.size ≤ b ∧ b < w'.heap.size)
theorem Kept.refl (B : Nat) (O : Nat → Prop) (w : World) : Kept B O w w := ⟨Below.refl _ _, fun _ _ _ => rfl⟩
theorem Kept.next {B : Nat} {O O' : Nat → Prop} {w w' w'' : World} (h : Kept B O w w') (g : Kept B O' w' w'') (s : ∀ b, O' b → O b ∨ w.heap.size ≤ b) : Kept B O w w'' :=
  ⟨h.1.trans g.1, fun b hb hn => (g.2 b (Nat.lt_of_lt_of_le hb h.1.size) (fun q => by rcases s b q with q | q; exact hn q; omega)).trans (h.2 b hb hn)⟩
theorem Kept.below {B : Nat} {O : Nat → Prop} {w w' : World} (h : Below w.heap.size w w') (hB : B ≤ w.heap.size) : Kept B O w w' := ⟨h.mono hB, fun b hb _ => h.block b hb⟩
theorem Kept.more {B : Nat} {O : Nat → Prop} {w w' w'' : World} (h : Kept B O w w') (hB : B ≤ w.heap.size) (g : Below w'.heap.size w' w'') : Kept B O w w'' :=
  ⟨h.1.trans (g.mono (Nat.le_trans hB h.1.size)), fun b hb hn => (g.block b (Nat.lt_of_lt_of_le hb h.1.size)).trans (h.2 b hb hn)⟩
theorem Kept.set {B : Nat} {O : Nat → Prop} {w w' : World} (h : Kept B O w w') {k j : Nat} (hk : O k ∨ w.heap.size ≤ k) (hB : B ≤ k) (v : Value) : Kept B O w (w'.setCell ⟨k, j, none⟩ v) :=
  ⟨h.1.setCell (p := ⟨k, j, none⟩) hB v, fun b hb hn => (Below.heap_setCell w' ⟨k, j, none⟩ v b (fun e => by rcases hk with q | q; exact hn (by rw [e]; exact q); have e : b = k := e; omega)).trans (h.2 b hb hn)⟩
theorem grow_start (O : Nat → Prop) (w w' : World) : ∀ b, O b → Grow O w w' b := fun _ h => Or.inl h
theorem grow_old {O : Nat → Prop} {w w' : World} {b : Nat} (h : Grow O w w' b) : O b ∨ w.heap.size ≤ b := h.elim Or.inl fun q => Or.inr q.1
theorem grow_next {O : Nat → Prop} {w w' w'' : World} (h : w.heap.size ≤ w'.heap.size) (g : w'.heap.size ≤ w''.heap.size) {b : Nat} (hb : Grow (Grow O w w') w' w'' b) : Grow O w w'' b := by
  rcases hb with (q | q) | q
  · exact Or.inl q
  · exact Or.inr ⟨q.1, by omega⟩
  · exact Or.inr ⟨by omega, q.2⟩
/-- A row of one's own hangs on its own block alone. -/
theorem own_stay {w w' : World} {B n e s : Nat} {v : Value} {xs : List Value} (h : w.ownsRow B e s v n xs) (hb : ∀ b, v.ownBlock = some b → w'.heap[b]? = w.heap[b]?) : w'.ownsRow B e s v n xs := by
  refine ⟨h.1, ?_⟩
  rcases h.2 with h0 | ⟨g, cap, cur, hv, hg, hh, rest⟩
  · exact .inl h0
  · exact .inr ⟨g, cap, cur, hv, hg, (hb g (by rw [hv]; rfl)).trans hh, rest⟩
theorem own_type {w : World} {B n e s : Nat} {v : Value} {xs : List Value} (h : w.ownsRow B e s v n xs) {b : Nat} (hb : v.ownBlock = some b) : ∃ cs, w.heap[b]? = some (.cells cs e (0, 0)) := by
  rcases h.2 with ⟨hv, _⟩ | ⟨g, cap, cur, hv, hg, hh, rest⟩
  · rw [hv] at hb; cases hb
  · rw [hv] at hb
    obtain rfl := Option.some.inj hb
    exact ⟨cur, hh⟩
/-- A row of one's own stays when a block of another type changes. -/
theorem own_apart {w w' : World} {B n e s g T : Nat} {v : Value} {xs : List Value} {cs : Array Value} {fr : Nat × Nat} (h : w.ownsRow B e s v n xs) (hg : w.heap[g]? = some (.cells cs T fr)) (hT : T ≠ e) (hb : ∀ b, b ≠ g → w'.heap[b]? = w.heap[b]?) : w'.ownsRow B e s v n xs :=
  own_stay h fun b q => hb b fun e2 => own_ne_type h hg hT (by rw [q, e2])
/-- Two rows of one's own, of unlike types, lie apart. -/
theorem own_two {w : World} {B B' n n' e e' s s' : Nat} {v v' : Value} {xs xs' : List Value} (h : w.ownsRow B e s v n xs) (h' : w.ownsRow B' e' s' v' n' xs') (hT : e ≠ e') {b b' : Nat} (hb : v.ownBlock = some b) (hb' : v'.ownBlock = some b') : b ≠ b' := fun q => by
  subst q
  obtain ⟨cs, z⟩ := own_type h hb
  exact own_ne_type h' z hT hb'.symm

/-! ### Bytes of one's own -/
def Byt (w : World) (B : Nat) (h : Hd) (l : List UInt8) : Prop := w.ownsRow B 5 1 (.slice h.a h.n h.c) l.length (l.flatMap bcells)
theorem Byt.n {w : World} {B : Nat} {h : Hd} {l : List UInt8} (H : Byt w B h l) : h.n = l.length := by
  obtain ⟨A, c, e, _⟩ := own_rg bcells_len (by decide) H
  injection e
theorem Byt.c {w : World} {B : Nat} {h : Hd} {l : List UInt8} (H : Byt w B h l) : h.n ≤ h.c ∧ h.c ≤ maxLen := by
  obtain ⟨A, c, e, _, _, h1, h2⟩ := own_cap bcells_len (by decide) H
  injection e with e1 e2 e3
  rw [e2, e3]
  exact ⟨h1, h2⟩
theorem Byt.rg {w : World} {B : Nat} {h : Hd} {l : List UInt8} (H : Byt w B h l) : Rg bcells w h.a l := by
  obtain ⟨A, c, e, _, hr⟩ := own_rg bcells_len (by decide) H
  injection e with e1
  rw [e1]; exact hr
theorem Byt.stay {w w' : World} {B : Nat} {h : Hd} {l : List UInt8} (H : Byt w B h l) (hb : ∀ a, h.a = some a → w'.heap[a.block]? = w.heap[a.block]?) : Byt w' B h l :=
  own_stay H fun b q => by
    rcases ha : h.a with _ | a
    · simp [Value.ownBlock, ha] at q
    · simp [Value.ownBlock, ha] at q
      subst q
      exact hb a ha
theorem Byt.lt {w : World} {B : Nat} {h : Hd} {l : List UInt8} (H : Byt w B h l) {a : Addr} (ha : h.a = some a) : B ≤ a.block ∧ a.block < w.heap.size := World.ownsRow.lt H a.block (by simp [Value.ownBlock, ha])
def Bys (w : World) (B : Nat) (hs : List Hd) (ls : List (List UInt8)) : Prop := hs.length = ls.length ∧ ∀ (i : Nat) (h : Hd) (l : List UInt8), hs[i]? = some h → ls[i]? = some l → Byt w B h l
theorem Bys.nil (w : World) (B : Nat) : Bys w B [] [] := ⟨rfl, fun i h l e => by simp at e⟩
theorem Bys.stay {w w' : World} {B : Nat} {hs : List Hd} {ls : List (List UInt8)} (H : Bys w B hs ls) (hb : ∀ h ∈ hs, ∀ a, h.a = some a → w'.heap[a.block]? = w.heap[a.block]?) : Bys w' B hs ls :=
  ⟨H.1, fun i h l e1 e2 => (H.2 i h l e1 e2).stay (hb h (List.mem_of_getElem? e1))⟩
theorem Bys.set {w : World} {B : Nat} {hs : List Hd} {ls : List (List UInt8)} (H : Bys w B hs ls) (i : Nat) {h : Hd} {l : List UInt8} (h1 : Byt w B h l) : Bys w B (hs.set i h) (ls.set i l) := by
  refine ⟨by simp [H.1], fun j h' l' e1 e2 => ?_⟩
  rw [List.getElem?_set] at e1 e2
  by_cases q : i = j
  · rw [if_pos q] at e1 e2
    by_cases ql : j < ls.length
    · rw [if_pos (by rw [q, H.1]; exact ql)] at e1
      rw [if_pos (by rw [q]; exact ql)] at e2
      obtain rfl := Option.some.inj e1
      obtain rfl := Option.some.inj e2
      exact h1
    · rw [if_neg (by rw [q]; exact ql)] at e2; cases e2
  · rw [if_neg q] at e1 e2
    exact H.2 j h' l' e1 e2
theorem Bys.app {w : World} {B : Nat} {hs : List Hd} {ls : List (List UInt8)} (H : Bys w B hs ls) {h : Hd} {l : List UInt8} (h1 : Byt w B h l) : Bys w B (hs ++ [h]) (ls ++ [l]) := by
  refine ⟨by simp [H.1], fun j h' l' e1 e2 => ?_⟩
  by_cases q : j < hs.length
  · rw [List.getElem?_append_left q] at e1
    rw [List.getElem?_append_left (by rw [← H.1]; exact q)] at e2
    exact H.2 j h' l' e1 e2
  · rw [List.getElem?_append_right (by omega)] at e1
    rw [List.getElem?_append_right (by rw [← H.1]; omega), ← H.1] at e2
    by_cases q2 : j - hs.length = 0
    · rw [q2] at e1 e2
      obtain rfl := Option.some.inj e1
      obtain rfl := Option.some.inj e2
      exact h1
    · rw [List.getElem?_eq_none (by simp; omega)] at e1; cases e1
theorem Bys.get {w : World} {B : Nat} {hs : List Hd} {ls : List (List UInt8)} (H : Bys w B hs ls) {i : Nat} (hi : i < ls.length) : ∃ h, hs[i]? = some h ∧ Byt w B h (ls.getD i []) := by
  have e1 := List.getElem?_eq_getElem (show i < hs.length by rw [H.1]; exact hi)
  have e2 := List.getElem?_eq_getElem hi
  exact ⟨_, e1, by rw [show ls.getD i [] = ls[i] by simp [List.getD_eq_getElem?_getD, hi]]; exact H.2 i _ _ e1 e2⟩

/-! ### Writes that are pending -/
def pcells (x : Nat × Hd) : List Value := [.int .i64 (x.1 : Int), .slice x.2.a x.2.n x.2.c]
theorem pcells_len (x : Nat × Hd) : (pcells x).length = 2 := rfl
theorem pcells_one (x : Nat × Hd) : ∀ u ∈ pcells x, u.oneCell' = true := fun u hu => by
  simp only [pcells, List.mem_cons, List.not_mem_nil, or_false] at hu
  rcases hu with rfl | rfl <;> rfl
def Wrs (w : World) (B : Nat) (hp : List (Nat × Hd)) (p : List (Nat × List UInt8)) : Prop := hp.length = p.length ∧ ∀ (i : Nat) (x : Nat × Hd) (y : Nat × List UInt8), hp[i]? = some x → p[i]? = some y → x.1 = y.1 ∧ Byt w B x.2 y.2
theorem Wrs.nil (w : World) (B : Nat) : Wrs w B [] [] := ⟨rfl, fun i h l e => by simp at e⟩
theorem Wrs.stay {w w' : World} {B : Nat} {hp : List (Nat × Hd)} {p : List (Nat × List UInt8)} (H : Wrs w B hp p) (hb : ∀ x ∈ hp, ∀ a, x.2.a = some a → w'.heap[a.block]? = w.heap[a.block]?) : Wrs w' B hp p :=
  ⟨H.1, fun i x y e1 e2 => ⟨(H.2 i x y e1 e2).1, (H.2 i x y e1 e2).2.stay (hb x (List.mem_of_getElem? e1))⟩⟩
theorem Wrs.app {w : World} {B : Nat} {hp : List (Nat × Hd)} {p : List (Nat × List UInt8)} (H : Wrs w B hp p) (i : Nat) {h : Hd} {l : List UInt8} (h1 : Byt w B h l) : Wrs w B (hp ++ [(i, h)]) (p ++ [(i, l)]) := by
  refine ⟨by simp [H.1], fun j x y e1 e2 => ?_⟩
  by_cases q : j < hp.length
  · rw [List.getElem?_append_left q] at e1
    rw [List.getElem?_append_left (by rw [← H.1]; exact q)] at e2
    exact H.2 j x y e1 e2
  · rw [List.getElem?_append_right (by omega)] at e1
    rw [List.getElem?_append_right (by rw [← H.1]; omega), ← H.1] at e2
    by_cases q2 : j - hp.length = 0
    · rw [q2] at e1 e2
      obtain rfl := Option.some.inj e1
      obtain rfl := Option.some.inj e2
      exact ⟨rfl, h1⟩
    · rw [List.getElem?_eq_none (by simp; omega)] at e1; cases e1
theorem Wrs.get {w : World} {B : Nat} {hp : List (Nat × Hd)} {p : List (Nat × List UInt8)} (H : Wrs w B hp p) {i : Nat} {y : Nat × List UInt8} (hy : p[i]? = some y) : ∃ h, hp[i]? = some (y.1, h) ∧ Byt w B h y.2 := by
  have hi := (List.getElem?_eq_some_iff.1 hy).1
  have e1 := List.getElem?_eq_getElem (show i < hp.length by rw [H.1]; exact hi)
  obtain ⟨a, b⟩ := H.2 i _ _ e1 hy
  exact ⟨_, by rw [e1, ← a], b⟩
/-- Booleans in memory. -/
def qcells (x : Bool) : List Value := [.bool x]
theorem qcells_len (x : Bool) : (qcells x).length = 1 := rfl
theorem qcells_one (x : Bool) : ∀ u ∈ qcells x, u.oneCell' = true := fun u hu => by
  simp only [qcells, List.mem_cons, List.not_mem_nil, or_false] at hu
  subst hu; rfl
theorem flat_set {α : Type} {f : α → List Value} (hf : ∀ x, ∃ v, f x = [v]) : ∀ (xs : List α) (i : Nat) (x : α) (v : Value), f x = [v] → (xs.set i x).flatMap f = (xs.flatMap f).set i v
  | [], i, x, v, _ => by simp
  | y :: ys, 0, x, v, h => by
    obtain ⟨u, hu⟩ := hf y
    rw [List.set_cons_zero, List.flatMap_cons, List.flatMap_cons, h, hu]; rfl
  | y :: ys, i + 1, x, v, h => by
    obtain ⟨u, hu⟩ := hf y
    rw [List.set_cons_succ, List.flatMap_cons, List.flatMap_cons, hu, flat_set hf ys i x v h]; rfl

end Go.Proofs.Ytpdedeaejlkokaa
