/-
  What the laws of this seat stand on, part 1.
-/
import Derived.Test.YtklgjhldebdegaaRows
import Derived.WalkKit
import Derived.WalkSpells
import Derived.WalkLawsBesides
import Derived.WalkSmall
import Derived.OwnWalk
import Derived.Lib.Hide
import Derived.Laws.AppendOwn
import Derived.Lib.BufferMore
import Derived.Deep.QuietTactic
import Derived.BigQuiet
import Derived.BigCall
import Derived.BigGuard
import Derived.StillTailTactics
import Derived.LoopN
import Derived.Laws.StructEq
namespace Go.Proofs.Ytklgjhldebdegaa
open Go.RowKit

theorem chain {w W w1 : World} (h : Below w.heap.size w W) (hb : Below W.heap.size W w1) : Below w.heap.size w w1 := h.trans (hb.mono h.size)
theorem chain_alloc {w W : World} (h : Below w.heap.size w W) (o : Obj) : Below w.heap.size w (W.alloc o) := h.alloc h.size o
theorem chain_drewN {w W : World} (h : Below w.heap.size w W) (n : Nat) : Below w.heap.size w (W.drewN n) := ⟨h.os, h.tape, h.output, h.size, h.block⟩
theorem below_drew (w : World) : Below w.heap.size w w.drew := (Below.refl _ w).drew
theorem take_get {α : Type} {xs : List α} {k : Nat} {x : α} (h : xs[k]? = some x) : xs.take (k + 1) = xs.take k ++ [x] := by
  obtain ⟨hk, e⟩ := List.getElem?_eq_some_iff.1 h
  rw [List.take_succ_eq_append_getElem hk, e]
theorem next_i64 {k j n : Nat} (hj : j = k + 1) (h : k < n) (hn : n ≤ 100000) : IntKind.i64.wrap ((k : Int) + 1) = (j : Int) := by rw [IntWalk.i64_in _ (by omega)]; omega
theorem next_wrap {k j n : Nat} (hj : j = k + 1) (h : k < n) (hn : n ≤ 100000) : wrap64 ((k : Int) + 1) = (j : Int) := by rw [IntWalk.wrap64_in _ (by omega)]; omega
theorem plain_add (g j : Nat) : (⟨g, 0, none⟩ : Addr).add j = ⟨g, 0 + j, none⟩ := by unfold Addr.add; split <;> simp_all
theorem own_belowE {w w' : World} {B n e s : Nat} {v : Value} {xs : List Value} (h : w.ownsRow B e s v n xs) (hb : Below w.heap.size w w') : w'.ownsRow B e s v n xs := by
  refine ⟨h.1, ?_⟩
  rcases h.2 with h0 | ⟨g, cap, cur, hv, hg, hh, rest⟩
  · exact .inl h0
  · exact .inr ⟨g, cap, cur, hv, hg, (hb.block g (Array.getElem?_eq_some_iff.1 hh).1).trans hh, rest⟩
theorem own_same {w w' : World} {B n e s : Nat} {v : Value} {xs : List Value} (h : w.ownsRow B e s v n xs) (hb : ∀ g, B ≤ g → g < w.heap.size → w'.heap[g]? = w.heap[g]?) : w'.ownsRow B e s v n xs := by
  refine ⟨h.1, ?_⟩
  rcases h.2 with h0 | ⟨g, cap, cur, hv, hg, hh, rest⟩
  · exact .inl h0
  · exact .inr ⟨g, cap, cur, hv, hg, (hb g hg (Array.getElem?_eq_some_iff.1 hh).1).trans hh, rest⟩
theorem own_ne_type {w : World} {B n e s b T : Nat} {v : Value} {xs : List Value} {cs : Array Value} {fr : Nat × Nat} (h : w.ownsRow B e s v n xs) (hb : w.heap[b]? = some (.cells cs T fr)) (hT : T ≠ e) : some b ≠ v.ownBlock := fun he => by
  rcases h.2 with ⟨hv, _⟩ | ⟨g, cap, cur, hv, hg, hh, _⟩
  · rw [hv] at he; cases he
  · rw [hv] at he
    have : b = g := Option.some.inj he
    subst this
    rw [hb] at hh
    injection hh with hh
    injection hh with z1 z2 z3
    exact hT z2
theorem flat_len {α : Type} {f : α → List Value} {m : Nat} (hf : ∀ x, (f x).length = m) : ∀ xs : List α, (xs.flatMap f).length = xs.length * m
  | [] => by simp
  | x :: xs => by rw [List.flatMap_cons, List.length_append, flat_len hf xs, hf, List.length_cons, Nat.succ_mul]; omega
theorem flat_get {α : Type} {f : α → List Value} {m : Nat} (hf : ∀ x, (f x).length = m) : ∀ (xs : List α) (j r : Nat) (x : α), xs[j]? = some x → r < m → (xs.flatMap f)[j * m + r]? = (f x)[r]?
  | [], j, r, x, h, _ => by simp at h
  | y :: ys, 0, r, x, h, hr => by
    simp only [List.getElem?_cons_zero, Option.some.injEq] at h
    subst h
    rw [List.flatMap_cons, Nat.zero_mul, Nat.zero_add, List.getElem?_append_left (by rw [hf]; exact hr)]
  | y :: ys, j + 1, r, x, h, hr => by
    have e : (j + 1) * m + r = (f y).length + (j * m + r) := by rw [hf, Nat.succ_mul]; omega
    rw [List.flatMap_cons, e, List.getElem?_append_right (by omega), Nat.add_sub_cancel_left]
    exact flat_get hf ys j r x (by simpa using h) hr
/-- A slice's address, behind which the structs lie. -/
def Rg {α : Type} (f : α → List Value) (w : World) (A : Option Addr) (xs : List α) : Prop :=
  0 < xs.length → ∃ b off, A = some ⟨b, off, none⟩ ∧ b < w.heap.size ∧ ∀ j u, (xs.flatMap f)[j]? = some u → w.cell? ⟨b, off + j, none⟩ = some u
theorem Rg.nil {α : Type} (f : α → List Value) (w : World) (A : Option Addr) : Rg f w A [] := fun h => absurd h (by simp)
theorem Rg.below {α : Type} {f : α → List Value} {w w' : World} {A : Option Addr} {xs : List α} (h : Rg f w A xs) (hb : Below w.heap.size w w') : Rg f w' A xs := fun h0 => by
  obtain ⟨b, off, e, hlt, hc⟩ := h h0
  exact ⟨b, off, e, Nat.lt_of_lt_of_le hlt hb.size, fun j u hj => (hb.cell (p := ⟨b, off + j, none⟩) hlt).trans (hc j u hj)⟩
theorem Rg.alloc {α : Type} {f : α → List Value} {w : World} {A : Option Addr} {xs : List α} (h : Rg f w A xs) (o : Obj) : Rg f (w.alloc o) A xs :=
  h.below ((Below.refl _ w).alloc (Nat.le_refl _) o)
theorem Rg.at {α : Type} {f : α → List Value} {m : Nat} (hf : ∀ x, (f x).length = m) {w : World} {b off : Nat} {xs : List α}
    (h : ∀ j u, (xs.flatMap f)[j]? = some u → w.cell? ⟨b, off + j, none⟩ = some u) {k : Nat} {x : α} (hx : xs[k]? = some x) : ∀ r u, (f x)[r]? = some u → w.cell? ⟨b, off + k * m + r, none⟩ = some u := fun r u hu => by
  have hr : r < m := by rw [← hf x]; exact (List.getElem?_eq_some_iff.1 hu).1
  rw [Nat.add_assoc]
  exact h _ _ ((flat_get hf xs k r x hx hr).trans hu)
theorem Rg.kept {α : Type} {f : α → List Value} {w w' : World} {A : Option Addr} {xs : List α} (h : Rg f w A xs) (hb : ∀ b off, A = some ⟨b, off, none⟩ → 0 < xs.length → w'.heap[b]? = w.heap[b]?) : Rg f w' A xs := fun h0 => by
  obtain ⟨b, off, e, hlt, hc⟩ := h h0
  have q := hb b off e h0
  refine ⟨b, off, e, ?_, fun j u hj => (World.cell?_of_block (a := ⟨b, off + j, none⟩) q).trans (hc j u hj)⟩
  have : w'.heap[b]? = some w.heap[b] := by rw [q]; exact Array.getElem?_eq_getElem hlt
  exact (Array.getElem?_eq_some_iff.1 this).1
theorem own_rg {α : Type} {f : α → List Value} {m : Nat} (hf : ∀ x, (f x).length = m) (hm : 0 < m) {w : World} {B e n : Nat} {v : Value} {xs : List α} (h : w.ownsRow B e m v n (xs.flatMap f)) :
    ∃ A c, v = .slice A n c ∧ n = xs.length ∧ Rg f w A xs := by
  have hl := h.1
  rw [flat_len hf] at hl
  have hn : n = xs.length := (Nat.eq_of_mul_eq_mul_right hm hl).symm
  rcases h.2 with ⟨hv, h0⟩ | ⟨g, cp, cur, hv, _, hh, _, _, _, ht⟩
  · subst hv h0
    exact ⟨none, 0, rfl, hn, fun hp => absurd hp (by omega)⟩
  · subst hv
    refine ⟨_, cp, rfl, hn, fun _ => ⟨g, 0, rfl, (Array.getElem?_eq_some_iff.1 hh).1, fun j u hj => ?_⟩⟩
    rw [Nat.zero_add, Lib.cell_of_heap hh]
    rw [← ht] at hj
    have hj2 := hj
    rw [List.getElem?_take] at hj
    split at hj
    · rw [Array.getElem?_toList] at hj; exact hj
    · cases hj
theorem own_cap {α : Type} {f : α → List Value} {m : Nat} (hf : ∀ x, (f x).length = m) (hm : 0 < m) {w : World} {B e n : Nat} {v : Value} {xs : List α} (h : w.ownsRow B e m v n (xs.flatMap f)) :
    ∃ A c, v = .slice A n c ∧ n = xs.length ∧ Rg f w A xs ∧ n ≤ c ∧ c ≤ maxLen := by
  obtain ⟨A, c, hv, hn, hR⟩ := own_rg hf hm h
  refine ⟨A, c, hv, hn, hR, ?_⟩
  rcases h.2 with ⟨hv2, h0⟩ | ⟨g, cp, cur, hv2, _, _, h1, h2, _, _⟩
  · rw [hv2] at hv
    injection hv with a b c
    subst c
    exact ⟨by omega, Nat.zero_le _⟩
  · rw [hv2] at hv
    injection hv with a b c
    subst c
    exact ⟨h1, h2⟩
theorem own_new {w : World} {B e m n c n' : Nat} {A : Option Addr} {xs : List Value} (h : w.ownsRow B e m (.slice A n c) n' xs) : ∀ a, A = some a → B ≤ a.block := fun a ha => by
  rcases h.2 with ⟨hv, _⟩ | ⟨g, cp, cur, hv, hg, _⟩
  · injection hv with h1; rw [h1] at ha; cases ha
  · injection hv with h1; rw [h1] at ha; rw [← Option.some.inj ha]; exact hg
theorem own_kind {w : World} {B e m n c n' : Nat} {A : Option Addr} {xs : List Value} (h : w.ownsRow B e m (.slice A n c) n' xs) : ∀ a, A = some a → ∃ cs fr, w.heap[a.block]? = some (.cells cs e fr) := fun a ha => by
  rcases h.2 with ⟨hv, _⟩ | ⟨g, cp, cur, hv, hg, hh, _⟩
  · injection hv with h1; rw [h1] at ha; cases ha
  · injection hv with h1; rw [h1] at ha; rw [← Option.some.inj ha]; exact ⟨cur, _, hh⟩
theorem rg_block {α : Type} {f : α → List Value} {w : World} {g T : Nat} {fr : Nat × Nat} {cs : Array Value} {xs : List α} (h : w.heap[g]? = some (.cells cs T fr)) (e : cs.toList = xs.flatMap f) : Rg f w (some ⟨g, 0, none⟩) xs := fun _ =>
  ⟨g, 0, rfl, (Array.getElem?_eq_some_iff.1 h).1, fun j u hj => by
    rw [Nat.zero_add, Lib.cell_of_heap h, ← Array.getElem?_toList, e]; exact hj⟩
theorem new_cells {w : World} {cs : List Value} {T : Nat} : ∀ j u, cs[j]? = some u → (w.alloc (.cells cs.toArray T)).cell? ((⟨w.heap.size, 0, none⟩ : Addr).add j) = some u := fun j u hu => by
  rw [plain_add, Nat.zero_add, Lib.cell_of_heap (heap_alloc_new w _)]
  simpa using hu
/-- A variable of one cell. -/
def CB (w : World) (b T : Nat) (v : Value) : Prop := w.heap[b]? = some (.cells #[v] T (0, 0))
theorem CB.lt {w : World} {b T : Nat} {v : Value} (H : CB w b T v) : b < w.heap.size := (Array.getElem?_eq_some_iff.1 H).1
theorem CB.cell {w : World} {b T : Nat} {v : Value} (H : CB w b T v) : w.cell? ⟨b, 0, none⟩ = some v := by rw [Lib.cell_of_heap H]; rfl
theorem CB.frozen {w : World} {b T : Nat} {v : Value} (H : CB w b T v) : w.frozen? ⟨b, 0, none⟩ = false := Lib.frozen_of_heap H 0
theorem CB.below {w w' : World} {b T : Nat} {v : Value} (H : CB w b T v) (hb : Below w.heap.size w w') : CB w' b T v := (hb.block b H.lt).trans H
theorem CB.set {w : World} {b T : Nat} {v : Value} (H : CB w b T v) (u : Value) : CB (w.setCell ⟨b, 0, none⟩ u) b T u := Lib.heap_setCell_same (i := 0) H u
theorem CB.other {w : World} {b T : Nat} {v : Value} (H : CB w b T v) (a : Addr) (u : Value) (h : b ≠ a.block) : CB (w.setCell a u) b T v := (Below.heap_setCell w a u b h).trans H
/-- Terms, or places, that are handed out. -/
def RowTo {α : Type} (f : α → List Value) (xs : List α) (w : World) (e : Ending) (w' : World) : Prop :=
  ∃ (A : Option Addr) (k n : Nat), e = .returned (.slice A n k) ∧ n = xs.length ∧ Rg f w' A xs ∧ Below w.heap.size w w' ∧ n ≤ k ∧ k ≤ maxLen
/-- Terms, or places, that are handed out: a row of one's own. -/
def RowNew {α : Type} (f : α → List Value) (xs : List α) (w : World) (e : Ending) (w' : World) : Prop :=
  ∃ (A : Option Addr) (k n : Nat), e = .returned (.slice A n k) ∧ n = xs.length ∧ Rg f w' A xs ∧ Below w.heap.size w w' ∧ n ≤ k ∧ k ≤ maxLen ∧ ∀ a, A = some a → w.heap.size ≤ a.block
theorem RowNew.row {α : Type} {f : α → List Value} {xs : List α} {w w' : World} {e : Ending} (h : RowNew f xs w e w') : RowTo f xs w e w' := by
  obtain ⟨A, k, n, h1, h2, h3, h4, h5, h6, _⟩ := h
  exact ⟨A, k, n, h1, h2, h3, h4, h5, h6⟩
def icells (x : Int) : List Value := [.int .i64 x]
theorem icells_len (x : Int) : (icells x).length = 1 := rfl
theorem icells_one (x : Int) : ∀ u ∈ icells x, u.oneCell' = true := fun u hu => by
  simp only [icells, List.mem_cons, List.not_mem_nil, or_false] at hu
  subst hu; rfl
theorem tow_size : ∀ (os : List Obj) (w : World), (os.foldl World.alloc w).heap.size = w.heap.size + os.length
  | [], _ => rfl
  | o :: os, w => by rw [List.foldl_cons, tow_size os, World.size_alloc, List.length_cons]; omega
theorem tow_old : ∀ (os : List Obj) (w : World) (k : Nat), k < w.heap.size → (os.foldl World.alloc w).heap[k]? = w.heap[k]?
  | [], _, _, _ => rfl
  | o :: os, w, k, h => by rw [List.foldl_cons, tow_old os _ k (by rw [World.size_alloc]; omega)]; exact Lib.alloc_old w o k h
theorem tow_at : ∀ (os : List Obj) (w : World) (i : Nat) (o : Obj), os[i]? = some o → (os.foldl World.alloc w).heap[w.heap.size + i]? = some o
  | [], _, _, _, h => by simp at h
  | o :: os, w, 0, q, h => by
    simp at h; subst h
    rw [List.foldl_cons, tow_old os _ _ (by rw [World.size_alloc]; omega)]; exact heap_alloc_new w _
  | o :: os, w, i + 1, q, h => by
    rw [List.foldl_cons, show w.heap.size + (i + 1) = (w.alloc o).heap.size + i by rw [World.size_alloc]; omega]
    exact tow_at os _ i q (by simpa using h)
theorem tow_below : ∀ (os : List Obj) (w : World), Below w.heap.size w (os.foldl World.alloc w)
  | [], _ => Below.refl _ _
  | o :: os, w => chain ((Below.refl _ w).alloc (Nat.le_refl _) o) (tow_below os (w.alloc o))
/-- The number that a cell bears. -/
def uz (u : UInt64) : Int := (u.toNat : Int)
theorem uz_inj {x y : UInt64} (h : uz x = uz y) : x = y := by
  unfold uz at h
  exact UInt64.toNat_inj.1 (by omega)
theorem uz_lo (x : UInt64) : 0 ≤ uz x := by unfold uz; omega
theorem uz_hi (x : UInt64) : uz x < 18446744073709551616 := by
  unfold uz; have := x.toNat_lt; omega
theorem uz_add (x y : UInt64) : IntKind.u64.wrap (uz x + uz y) = uz (x + y) := by
  rw [IntKind.wrap_u64]; unfold uz; rw [UInt64.toNat_add]; omega
theorem uz_sub (x y : UInt64) : IntKind.u64.wrap (uz x - uz y) = uz (x - y) := by
  rw [IntKind.wrap_u64]; unfold uz; rw [UInt64.toNat_sub]
  have hx := x.toNat_lt; have hy := y.toNat_lt; omega
theorem uz_mul (x y : UInt64) : IntKind.u64.wrap (uz x * uz y) = uz (x * y) := by
  rw [IntKind.wrap_u64]; unfold uz; rw [UInt64.toNat_mul]; omega
theorem uz_of {n : Int} (h0 : 0 ≤ n) (h1 : n < 18446744073709551616) : ∃ u : UInt64, n = uz u :=
  ⟨UInt64.ofNat n.toNat, by unfold uz; rw [UInt64.toNat_ofNat']; omega⟩
def ucells (u : UInt64) : List Value := [.int .u64 (uz u)]
theorem ucells_len (u : UInt64) : (ucells u).length = 1 := rfl
theorem ucells_one (x : UInt64) : ∀ u ∈ ucells x, u.oneCell' = true := fun u hu => by
  simp only [ucells, List.mem_cons, List.not_mem_nil, or_false] at hu
  subst hu; rfl

end Go.Proofs.Ytklgjhldebdegaa

namespace Go.Proofs.Ytklgjhldebdegaa
open Go.RowKit

/-- Is a shape right? -/
def rightB (c h w : Int) : Bool := decide (1 ≤ c ∧ c ≤ 8 ∧ 1 ≤ h ∧ h ≤ 12 ∧ 1 ≤ w ∧ w ≤ 12 ∧ c * h * w ≤ 128)
theorem rightB_out {c h w : Int} (e : rightB c h w = true) : 1 ≤ c ∧ c ≤ 8 ∧ 1 ≤ h ∧ h ≤ 12 ∧ 1 ≤ w ∧ w ≤ 12 ∧ c * h * w ≤ 128 := by simpa [rightB] using e
theorem rightB_yes {c h w : Int} (e : 1 ≤ c ∧ c ≤ 8 ∧ 1 ≤ h ∧ h ≤ 12 ∧ 1 ≤ w ∧ w ≤ 12 ∧ c * h * w ≤ 128) : rightB c h w = true := by simpa [rightB] using e
theorem rightB_no {c h w : Int} (e : ¬ (1 ≤ c ∧ c ≤ 8 ∧ 1 ≤ h ∧ h ≤ 12 ∧ 1 ≤ w ∧ w ≤ 12 ∧ c * h * w ≤ 128)) : rightB c h w = false := by simpa [rightB] using e
theorem mul_lo {a b : Int} (ha : 0 ≤ a) (hb : 0 ≤ b) : 0 ≤ a * b := Int.mul_nonneg ha hb
theorem mul_hi {a b m n : Int} (ha : 0 ≤ a) (hm : a ≤ m) (hb : 0 ≤ b) (hn : b ≤ n) : a * b ≤ m * n :=
  Int.mul_le_mul hm hn hb (Int.le_trans ha hm)
/-- The products of small sides are small. -/
theorem prod_small {c h w : Int} (c1 : 1 ≤ c) (c2 : c ≤ 8) (h1 : 1 ≤ h) (h2 : h ≤ 12) (w1 : 1 ≤ w) (w2 : w ≤ 12) :
    1 ≤ c * h ∧ c * h ≤ 96 ∧ 1 ≤ c * h * w ∧ c * h * w ≤ 1152 ∧ 1 ≤ h * w ∧ h * w ≤ 144 := by
  have a1 : 1 * 1 ≤ c * h := Int.mul_le_mul c1 h1 (by omega) (by omega)
  have a2 : c * h ≤ 8 * 12 := Int.mul_le_mul c2 h2 (by omega) (by omega)
  have a3 : 1 * 1 ≤ c * h * w := Int.mul_le_mul (by omega) w1 (by omega) (by omega)
  have a4 : c * h * w ≤ 96 * 12 := Int.mul_le_mul (by omega) w2 (by omega) (by omega)
  have a5 : 1 * 1 ≤ h * w := Int.mul_le_mul h1 w1 (by omega) (by omega)
  have a6 : h * w ≤ 12 * 12 := Int.mul_le_mul h2 w2 (by omega) (by omega)
  omega
/-- How many numbers a shape has. -/
def sizeI (c h w : Int) : Int := if rightB c h w = true then c * h * w else 0
theorem sizeI_yes {c h w : Int} (e : rightB c h w = true) : sizeI c h w = c * h * w := if_pos e
theorem sizeI_no {c h w : Int} (e : rightB c h w = false) : sizeI c h w = 0 := if_neg (by rw [e]; decide)
theorem sizeI_bd (c h w : Int) : 0 ≤ sizeI c h w ∧ sizeI c h w ≤ 128 := by
  cases e : rightB c h w
  · rw [sizeI_no e]; omega
  · rw [sizeI_yes e]
    obtain ⟨a1, a2, a3, a4, a5, a6, a7⟩ := rightB_out e
    have := prod_small a1 a2 a3 a4 a5 a6
    omega

end Go.Proofs.Ytklgjhldebdegaa

namespace Go.Proofs.Ytklgjhldebdegaa
open Go.RowKit

/-- Is a channel, row and column within a shape that is right? -/
def insideB (c h w k y x : Int) : Bool := rightB c h w && decide (0 ≤ k ∧ k < c ∧ 0 ≤ y ∧ y < h ∧ 0 ≤ x ∧ x < w)
theorem insideB_out {c h w k y x : Int} (e : insideB c h w k y x = true) : rightB c h w = true ∧ 0 ≤ k ∧ k < c ∧ 0 ≤ y ∧ y < h ∧ 0 ≤ x ∧ x < w := by
  simpa [insideB] using e
theorem insideB_yes {c h w k y x : Int} (e : rightB c h w = true) (f : 0 ≤ k ∧ k < c ∧ 0 ≤ y ∧ y < h ∧ 0 ≤ x ∧ x < w) : insideB c h w k y x = true := by
  simp [insideB, e, f]
theorem insideB_wrong {c h w k y x : Int} (e : rightB c h w = false) : insideB c h w k y x = false := by
  unfold insideB; rw [e, Bool.false_and]
/-- The place of a row and a column in a channel. -/
def atI (c h w k y x : Int) : Int := if insideB c h w k y x = true then (k * h + y) * w + x else -1
theorem atI_yes {c h w k y x : Int} (e : insideB c h w k y x = true) : atI c h w k y x = (k * h + y) * w + x := if_pos e
theorem atI_no {c h w k y x : Int} (e : insideB c h w k y x = false) : atI c h w k y x = -1 := if_neg (by rw [e]; decide)
/-- What is reckoned on the way to a place is small. -/
theorem at_small {c h w k y x : Int} (e : insideB c h w k y x = true) :
    0 ≤ k * h ∧ k * h ≤ 96 ∧ 0 ≤ (k * h + y) * w ∧ (k * h + y) * w ≤ 1152 ∧ 0 ≤ (k * h + y) * w + x ∧ (k * h + y) * w + x < c * h * w := by
  obtain ⟨r, k0, k1, y0, y1, x0, x1⟩ := insideB_out e
  obtain ⟨a1, a2, a3, a4, a5, a6, a7⟩ := rightB_out r
  have b1 : 0 ≤ k * h := mul_lo k0 (by omega)
  have b2 : k * h ≤ (c - 1) * h := Int.mul_le_mul_of_nonneg_right (by omega) (by omega)
  have b3 : (c - 1) * h = c * h - h := by rw [Int.sub_mul]; omega
  have b4 := prod_small a1 a2 a3 a4 a5 a6
  have b5 : 0 ≤ (k * h + y) * w := mul_lo (by omega) (by omega)
  have b6 : (k * h + y) * w ≤ (c * h - 1) * w := Int.mul_le_mul_of_nonneg_right (by omega) (by omega)
  have b7 : (c * h - 1) * w = c * h * w - w := by rw [Int.sub_mul]; omega
  omega
/-- Is a number a place of a shape? -/
def hasB (c h w i : Int) : Bool := decide (0 ≤ i ∧ i < sizeI c h w)
theorem hasB_out {c h w i : Int} (e : hasB c h w i = true) : 0 ≤ i ∧ i < sizeI c h w := by simpa [hasB] using e
theorem hasB_yes {c h w i : Int} (e : 0 ≤ i) (f : i < sizeI c h w) : hasB c h w i = true := by simp [hasB, e, f]
theorem hasB_no {c h w i : Int} (e : ¬ (0 ≤ i ∧ i < sizeI c h w)) : hasB c h w i = false := by simpa [hasB] using e
theorem hasB_right {c h w i : Int} (e : hasB c h w i = true) : rightB c h w = true := by
  obtain ⟨a, b⟩ := hasB_out e
  cases r : rightB c h w
  · rw [sizeI_no r] at b; omega
  · rfl
/-- A place's channel, row and column. -/
def chI (c h w i : Int) : Int := if hasB c h w i = true then i / (h * w) else 0
def rowI (c h w i : Int) : Int := if hasB c h w i = true then i / w % h else 0
def colI (c h w i : Int) : Int := if hasB c h w i = true then i % w else 0
theorem of_yes {c h w i : Int} (e : hasB c h w i = true) : chI c h w i = i / (h * w) ∧ rowI c h w i = i / w % h ∧ colI c h w i = i % w := ⟨if_pos e, if_pos e, if_pos e⟩
theorem of_no {c h w i : Int} (e : hasB c h w i = false) : chI c h w i = 0 ∧ rowI c h w i = 0 ∧ colI c h w i = 0 := by
  have : ¬ hasB c h w i = true := by rw [e]; decide
  exact ⟨if_neg this, if_neg this, if_neg this⟩
theorem div_mul_of (i h w : Int) (w0 : 0 < w) : i / (h * w) = i / w / h := by
  rw [Int.mul_comm h w, Int.ediv_ediv_of_nonneg (by omega)]
/-- What stands at a place is within the shape, and At of it is the place. -/
theorem of_at {c h w i : Int} (e : hasB c h w i = true) :
    insideB c h w (i / (h * w)) (i / w % h) (i % w) = true ∧ (i / (h * w) * h + i / w % h) * w + i % w = i := by
  obtain ⟨i0, i1⟩ := hasB_out e
  have r := hasB_right e
  rw [sizeI_yes r] at i1
  obtain ⟨a1, a2, a3, a4, a5, a6, a7⟩ := rightB_out r
  rw [div_mul_of i h w (by omega)]
  have d1 := Int.mul_ediv_add_emod (i / w) h
  have d2 := Int.mul_ediv_add_emod i w
  have m1 := Int.emod_nonneg (i / w) (show h ≠ 0 by omega)
  have m2 := Int.emod_lt_of_pos (i / w) (show 0 < h by omega)
  have m3 := Int.emod_nonneg i (show w ≠ 0 by omega)
  have m4 := Int.emod_lt_of_pos i (show 0 < w by omega)
  have q1 : 0 ≤ i / w := Int.ediv_nonneg i0 (by omega)
  have q2 : 0 ≤ i / w / h := Int.ediv_nonneg q1 (by omega)
  have q3 : i / w < c * h := Int.ediv_lt_of_lt_mul (by omega) i1
  have q4 : i / w / h < c := Int.ediv_lt_of_lt_mul (by omega) q3
  refine ⟨insideB_yes r ⟨q2, q4, m1, m2, m3, m4⟩, ?_⟩
  rw [Int.mul_comm (i / w / h) h, d1, Int.mul_comm (i / w) w, d2]
/-- A place within the shape, and where it is. -/
theorem at_of {c h w k y x : Int} (e : insideB c h w k y x = true) :
    hasB c h w ((k * h + y) * w + x) = true ∧ ((k * h + y) * w + x) / (h * w) = k ∧ ((k * h + y) * w + x) / w % h = y ∧ ((k * h + y) * w + x) % w = x := by
  obtain ⟨r, k0, k1, y0, y1, x0, x1⟩ := insideB_out e
  obtain ⟨a1, a2, a3, a4, a5, a6, a7⟩ := rightB_out r
  obtain ⟨b1, b2, b3, b4, b5, b6⟩ := at_small e
  have q : ((k * h + y) * w + x) / w = k * h + y := by
    rw [Int.add_comm, Int.add_mul_ediv_right _ _ (by omega), Int.ediv_eq_zero_of_lt x0 x1]; omega
  refine ⟨hasB_yes b5 (by rw [sizeI_yes r]; exact b6), ?_, ?_, ?_⟩
  · rw [div_mul_of _ h w (by omega), q, Int.add_comm, Int.add_mul_ediv_right _ _ (by omega), Int.ediv_eq_zero_of_lt y0 y1]; omega
  · rw [q, Int.add_comm, Int.add_mul_emod_self_right, Int.emod_eq_of_lt y0 y1]
  · rw [Int.add_comm, Int.add_mul_emod_self_right, Int.emod_eq_of_lt x0 x1]

end Go.Proofs.Ytklgjhldebdegaa

namespace Go.Proofs.Ytklgjhldebdegaa

structure Ly where
  k : Int
  o : Int
  s : Int
  t : Int
structure Nt where
  c : Int
  h : Int
  x : Int
  ls : List Ly

def winB (n : Int) : Bool := decide (0 ≤ n) && decide (n ≤ 999999)
def nums (l : Ly) : List Int := if l.k = 1 then [l.o, l.s, l.t] else if l.k = 3 then [l.s] else if l.k = 4 then [l.o] else []
def offs (k : Int) : List Nat := if k = 1 then [1, 2, 3] else if k = 3 then [2] else if k = 4 then [1] else []
def restB (l : Ly) : Bool := if l.k = 1 then true else if l.k = 3 then l.o == 0 && l.t == 0 else if l.k = 4 then l.s == 0 && l.t == 0 else l.o == 0 && l.s == 0 && l.t == 0
def kindB (k : Int) : Bool := decide (1 ≤ k) && decide (k ≤ 4)
def lyB (l : Ly) : Bool := kindB l.k && (nums l).all winB && restB l
def formB (n : Nt) : Bool := [n.c, n.h, n.x].all winB && decide (n.ls.length ≤ 8) && n.ls.all lyB

theorem win_mk {n : Int} (h0 : 0 ≤ n) (h1 : n ≤ 999999) : winB n = true := by
  unfold winB; rw [Bool.and_eq_true, decide_eq_true_eq, decide_eq_true_eq]; exact ⟨h0, h1⟩
theorem form_parts {n : Nt} (h : formB n = true) : [n.c, n.h, n.x].all winB = true ∧ n.ls.length ≤ 8 ∧ n.ls.all lyB = true := by
  unfold formB at h
  rw [Bool.and_eq_true, Bool.and_eq_true, decide_eq_true_eq] at h
  exact ⟨h.1.1, h.1.2, h.2⟩
theorem form_mk {n : Nt} (h1 : [n.c, n.h, n.x].all winB = true) (h2 : n.ls.length ≤ 8) (h3 : n.ls.all lyB = true) : formB n = true := by
  unfold formB; rw [h1, h3, decide_eq_true h2]; rfl
theorem kind_cases {k : Int} (h : kindB k = true) : k = 1 ∨ k = 2 ∨ k = 3 ∨ k = 4 := by
  unfold kindB at h; rw [Bool.and_eq_true, decide_eq_true_eq, decide_eq_true_eq] at h; omega
theorem ly_kind {l : Ly} (h : lyB l = true) : l.k = 1 ∨ l.k = 2 ∨ l.k = 3 ∨ l.k = 4 := by
  unfold lyB at h; rw [Bool.and_eq_true, Bool.and_eq_true] at h; exact kind_cases h.1.1

end Go.Proofs.Ytklgjhldebdegaa

namespace Go.Proofs.Ytklgjhldebdegaa
open Go.RowKit

/-- Does a Conv fit? -/
def convB (c h w out size step : Int) : Bool :=
  rightB c h w && decide (1 ≤ out ∧ out ≤ 8 ∧ 1 ≤ size ∧ size ≤ min h w ∧ 1 ≤ step ∧ step ≤ 12) && rightB out ((h - size) / step + 1) ((w - size) / step + 1)
theorem convB_out {c h w out size step : Int} (e : convB c h w out size step = true) :
    rightB c h w = true ∧ 1 ≤ out ∧ out ≤ 8 ∧ 1 ≤ size ∧ size ≤ min h w ∧ 1 ≤ step ∧ step ≤ 12 ∧ rightB out ((h - size) / step + 1) ((w - size) / step + 1) = true := by
  simp [convB] at e; simp [e]
theorem convB_yes {c h w out size step : Int}
    (e : rightB c h w = true ∧ 1 ≤ out ∧ out ≤ 8 ∧ 1 ≤ size ∧ size ≤ min h w ∧ 1 ≤ step ∧ step ≤ 12 ∧ rightB out ((h - size) / step + 1) ((w - size) / step + 1) = true) : convB c h w out size step = true := by
  obtain ⟨a, b1, b2, b3, b4, b5, b6, d⟩ := e
  unfold convB
  rw [a, d, decide_eq_true ⟨b1, b2, b3, b4, b5, b6⟩]; rfl
/-- The shape that comes of a Conv. -/
def convC (c h w out size step : Int) : Int := if convB c h w out size step = true then out else 0
def convH (c h w out size step : Int) : Int := if convB c h w out size step = true then (h - size) / step + 1 else 0
def convW (c h w out size step : Int) : Int := if convB c h w out size step = true then (w - size) / step + 1 else 0
theorem conv_is {c h w out size step : Int} (e : convB c h w out size step = true) :
    convC c h w out size step = out ∧ convH c h w out size step = (h - size) / step + 1 ∧ convW c h w out size step = (w - size) / step + 1 := ⟨if_pos e, if_pos e, if_pos e⟩
theorem conv_none {c h w out size step : Int} (e : convB c h w out size step = false) :
    convC c h w out size step = 0 ∧ convH c h w out size step = 0 ∧ convW c h w out size step = 0 := by
  have : ¬ convB c h w out size step = true := by rw [e]; decide
  exact ⟨if_neg this, if_neg this, if_neg this⟩
/-- Does a Pool fit? -/
def poolB (c h w size : Int) : Bool := rightB c h w && decide (1 ≤ size ∧ h % size = 0 ∧ w % size = 0)
theorem poolB_out {c h w size : Int} (e : poolB c h w size = true) : rightB c h w = true ∧ 1 ≤ size ∧ h % size = 0 ∧ w % size = 0 := by
  simpa [poolB] using e
theorem poolB_yes {c h w size : Int} (e : rightB c h w = true ∧ 1 ≤ size ∧ h % size = 0 ∧ w % size = 0) : poolB c h w size = true := by
  simpa [poolB] using e
def poolC (c h w size : Int) : Int := if poolB c h w size = true then c else 0
def poolH (c h w size : Int) : Int := if poolB c h w size = true then h / size else 0
def poolW (c h w size : Int) : Int := if poolB c h w size = true then w / size else 0
theorem pool_is {c h w size : Int} (e : poolB c h w size = true) : poolC c h w size = c ∧ poolH c h w size = h / size ∧ poolW c h w size = w / size := ⟨if_pos e, if_pos e, if_pos e⟩
theorem pool_none {c h w size : Int} (e : poolB c h w size = false) : poolC c h w size = 0 ∧ poolH c h w size = 0 ∧ poolW c h w size = 0 := by
  have : ¬ poolB c h w size = true := by rw [e]; decide
  exact ⟨if_neg this, if_neg this, if_neg this⟩
/-- How many windows there are is from 1 to 12. -/
theorem wins_bd {h size step : Int} (h1 : 1 ≤ h) (h2 : h ≤ 12) (s1 : 1 ≤ size) (s2 : size ≤ h) (t1 : 1 ≤ step) : 0 ≤ (h - size) / step ∧ (h - size) / step ≤ 11 := by
  have a : 0 ≤ (h - size) / step := Int.ediv_nonneg (by omega) (by omega)
  have b : (h - size) / step ≤ h - size := Int.ediv_le_self _ (by omega)
  omega

end Go.Proofs.Ytklgjhldebdegaa

namespace Go.Proofs.Ytklgjhldebdegaa

/-- A shape. -/
structure Sh where
  c : Int
  h : Int
  x : Int
def Sh.r (s : Sh) : Bool := rightB s.c s.h s.x
def Sh.n (s : Sh) : Int := sizeI s.c s.h s.x

/-- What comes out of a layer, and whether anything does. -/
def outS (s : Sh) (l : Ly) : Sh :=
  if l.k = 1 then ⟨convC s.c s.h s.x l.o l.s l.t, convH s.c s.h s.x l.o l.s l.t, convW s.c s.h s.x l.o l.s l.t⟩
  else if l.k = 2 then s
  else if l.k = 3 then ⟨poolC s.c s.h s.x l.s, poolH s.c s.h s.x l.s, poolW s.c s.h s.x l.s⟩
  else ⟨l.o, 1, 1⟩
def okS (s : Sh) (l : Ly) : Bool :=
  if l.k = 1 then convB s.c s.h s.x l.o l.s l.t else if l.k = 2 then true else if l.k = 3 then poolB s.c s.h s.x l.s else rightB l.o 1 1
def wI (s : Sh) (l : Ly) : Int := if l.k = 1 then l.o * s.c * l.s * l.s else if l.k = 4 then l.o * s.n else 0
def pI (s t : Sh) (l : Ly) : Int := if l.k = 1 then wI s l * t.h * t.x else if l.k = 2 then s.n else if l.k = 4 then wI s l else 0

/-- What is known of a layer. -/
structure Kn where
  l : Ly
  i : Sh
  u : Sh
  a : Int
def Kn.w (k : Kn) : Int := wI k.i k.l
def Kn.p (k : Kn) : Int := pI k.i k.u k.l
def knL : Sh → Int → List Ly → List Kn
  | _, _, [] => []
  | s, a, l :: ls => ⟨l, s, outS s l, a⟩ :: knL (outS s l) (a + wI s l) ls
def fitL : Sh → List Ly → Bool
  | _, [] => true
  | s, l :: ls => okS s l && fitL (outS s l) ls
def endS : Sh → List Ly → Sh
  | s, [] => s
  | s, l :: ls => endS (outS s l) ls
def sumW : Sh → List Ly → Int
  | _, [] => 0
  | s, l :: ls => wI s l + sumW (outS s l) ls
def sumP : Sh → List Ly → Int
  | _, [] => 0
  | s, l :: ls => pI s (outS s l) l + sumP (outS s l) ls
def shL : Sh → List Ly → List Sh
  | s, [] => [s]
  | s, l :: ls => s :: shL (outS s l) ls
def totW (ks : List Kn) : Int := (ks.map Kn.w).sum
def totP (ks : List Kn) : Int := (ks.map Kn.p).sum

def Nt.s (n : Nt) : Sh := ⟨n.c, n.h, n.x⟩
/-- What is wrong with a network (0: nothing). -/
def errN (n : Nt) : Int :=
  if formB n = false then 12 else if n.s.r = false then 1 else if fitL n.s n.ls = false then 21 else if sumW n.s n.ls ≤ 512 ∧ sumP n.s n.ls ≤ 512 then 0 else 5
def knN (n : Nt) : List Kn := if errN n = 0 then knL n.s 0 n.ls else []
def shN (n : Nt) : List Sh := if errN n = 0 then shL n.s n.ls else []

/-! ### One layer -/
theorem right_bd {s : Sh} (h : s.r = true) : 1 ≤ s.c ∧ s.c ≤ 8 ∧ 1 ≤ s.h ∧ s.h ≤ 12 ∧ 1 ≤ s.x ∧ s.x ≤ 12 ∧ s.c * s.h * s.x ≤ 128 := rightB_out h
theorem size_bd (s : Sh) : 0 ≤ s.n ∧ s.n ≤ 128 := sizeI_bd _ _ _
theorem size_pos {s : Sh} (h : s.r = true) : 1 ≤ s.n := by
  obtain ⟨a1, a2, a3, a4, a5, a6, a7⟩ := right_bd h
  have := prod_small a1 a2 a3 a4 a5 a6
  unfold Sh.n
  rw [sizeI_yes h]; omega
theorem out_conv (s : Sh) {l : Ly} (k : l.k = 1) : outS s l = ⟨convC s.c s.h s.x l.o l.s l.t, convH s.c s.h s.x l.o l.s l.t, convW s.c s.h s.x l.o l.s l.t⟩ ∧ okS s l = convB s.c s.h s.x l.o l.s l.t := by
  unfold outS okS; rw [if_pos k, if_pos k]; exact ⟨rfl, rfl⟩
theorem out_square (s : Sh) {l : Ly} (k : l.k = 2) : outS s l = s ∧ okS s l = true := by
  unfold outS okS; simp [k]
theorem out_pool (s : Sh) {l : Ly} (k : l.k = 3) : outS s l = ⟨poolC s.c s.h s.x l.s, poolH s.c s.h s.x l.s, poolW s.c s.h s.x l.s⟩ ∧ okS s l = poolB s.c s.h s.x l.s := by
  unfold outS okS; simp [k]
theorem out_dense (s : Sh) {l : Ly} (k : l.k = 4) : outS s l = ⟨l.o, 1, 1⟩ ∧ okS s l = rightB l.o 1 1 := by
  unfold outS okS; simp [k]
theorem w_conv (s : Sh) {l : Ly} (k : l.k = 1) : wI s l = l.o * s.c * l.s * l.s := by unfold wI; rw [if_pos k]
theorem w_dense (s : Sh) {l : Ly} (k : l.k = 4) : wI s l = l.o * s.n := by unfold wI; rw [if_neg (by omega), if_pos k]
theorem w_none (s : Sh) {l : Ly} (k1 : ¬ l.k = 1) (k4 : ¬ l.k = 4) : wI s l = 0 := by unfold wI; rw [if_neg k1, if_neg k4]
theorem p_conv (s t : Sh) {l : Ly} (k : l.k = 1) : pI s t l = wI s l * t.h * t.x := by unfold pI; rw [if_pos k]
theorem p_square (s t : Sh) {l : Ly} (k : l.k = 2) : pI s t l = s.n := by unfold pI; rw [if_neg (by omega), if_pos k]
theorem p_dense (s t : Sh) {l : Ly} (k : l.k = 4) : pI s t l = wI s l := by unfold pI; rw [if_neg (by omega), if_neg (by omega), if_pos k]
theorem p_none (s t : Sh) {l : Ly} (k1 : ¬ l.k = 1) (k2 : ¬ l.k = 2) (k4 : ¬ l.k = 4) : pI s t l = 0 := by unfold pI; rw [if_neg k1, if_neg k2, if_neg k4]

theorem div_bd {h m : Int} (h1 : 1 ≤ h) (m1 : 1 ≤ m) (d : h % m = 0) : 1 ≤ h / m ∧ h / m ≤ h := by
  have a : 0 ≤ h / m := Int.ediv_nonneg (by omega) (by omega)
  have b : h / m ≤ h := Int.ediv_le_self _ (by omega)
  have c := Int.emod_add_mul_ediv h m
  refine ⟨?_, b⟩
  by_cases e : h / m = 0
  · rw [e, d] at c; simp at c; omega
  · omega
theorem pool_right {c h x m : Int} (e : poolB c h x m = true) : rightB c (h / m) (x / m) = true := by
  obtain ⟨r, m1, d1, d2⟩ := poolB_out e
  obtain ⟨a1, a2, a3, a4, a5, a6, a7⟩ := rightB_out r
  obtain ⟨b1, b2⟩ := div_bd a3 m1 d1
  obtain ⟨b3, b4⟩ := div_bd a5 m1 d2
  have q1 : c * (h / m) ≤ c * h := Int.mul_le_mul_of_nonneg_left b2 (by omega)
  have q2 : c * (h / m) * (x / m) ≤ c * h * x := Int.mul_le_mul q1 b4 (by omega) (Int.mul_nonneg (by omega) (by omega))
  exact rightB_yes ⟨a1, a2, b1, by omega, b3, by omega, by omega⟩
theorem out_right {s : Sh} {l : Ly} (h : s.r = true) (hk : lyB l = true) (ho : okS s l = true) : (outS s l).r = true := by
  rcases ly_kind hk with k | k | k | k
  · obtain ⟨e1, e2⟩ := out_conv s k
    rw [e2] at ho
    obtain ⟨c1, c2, c3⟩ := conv_is ho
    rw [e1, c1, c2, c3]
    exact (convB_out ho).2.2.2.2.2.2.2
  · rw [(out_square s k).1]; exact h
  · obtain ⟨e1, e2⟩ := out_pool s k
    rw [e2] at ho
    obtain ⟨c1, c2, c3⟩ := pool_is ho
    rw [e1, c1, c2, c3]
    exact pool_right ho
  · obtain ⟨e1, e2⟩ := out_dense s k
    rw [e2] at ho
    rw [e1]; exact ho

/-- What is reckoned of such a layer is small. -/
def KnOk (k : Kn) : Prop :=
  (k.l.k = 1 → 0 ≤ k.l.o ∧ k.l.o ≤ 8 ∧ 0 ≤ k.i.c ∧ k.i.c ≤ 8 ∧ 0 ≤ k.l.s ∧ k.l.s ≤ 12 ∧ 0 ≤ k.u.h ∧ k.u.h ≤ 12 ∧ 0 ≤ k.u.x ∧ k.u.x ≤ 12) ∧ (k.l.k = 4 → 0 ≤ k.l.o ∧ k.l.o ≤ 8)
theorem mul_bd {a b m n : Int} (a0 : 0 ≤ a) (a1 : a ≤ m) (b0 : 0 ≤ b) (b1 : b ≤ n) : 0 ≤ a * b ∧ a * b ≤ m * n := ⟨mul_lo a0 b0, mul_hi a0 a1 b0 b1⟩
theorem conv_small {o c s : Int} (o0 : 0 ≤ o) (o1 : o ≤ 8) (c0 : 0 ≤ c) (c1 : c ≤ 8) (s0 : 0 ≤ s) (s1 : s ≤ 12) :
    0 ≤ o * c ∧ o * c ≤ 64 ∧ 0 ≤ o * c * s ∧ o * c * s ≤ 768 ∧ 0 ≤ o * c * s * s ∧ o * c * s * s ≤ 9216 := by
  obtain ⟨a1, a2⟩ := mul_bd o0 o1 c0 c1
  obtain ⟨b1, b2⟩ := mul_bd a1 a2 s0 s1
  obtain ⟨d1, d2⟩ := mul_bd b1 b2 s0 s1
  omega
theorem KnOk.w {k : Kn} (h : KnOk k) : 0 ≤ k.w ∧ k.w ≤ 9216 := by
  unfold Kn.w
  by_cases k1 : k.l.k = 1
  · rw [w_conv _ k1]
    obtain ⟨a1, a2, a3, a4, a5, a6, _⟩ := h.1 k1
    have := conv_small a1 a2 a3 a4 a5 a6
    omega
  · by_cases k4 : k.l.k = 4
    · rw [w_dense _ k4]
      obtain ⟨a1, a2⟩ := h.2 k4
      obtain ⟨b1, b2⟩ := size_bd k.i
      have := mul_bd a1 a2 b1 b2
      omega
    · rw [w_none _ k1 k4]; omega
theorem KnOk.p {k : Kn} (h : KnOk k) : 0 ≤ k.p ∧ k.p ≤ 1327104 := by
  have hw := h.w
  unfold Kn.w at hw
  unfold Kn.p
  by_cases k1 : k.l.k = 1
  · rw [p_conv _ _ k1]
    obtain ⟨a1, a2, a3, a4, a5, a6, a7, a8, a9, a10⟩ := h.1 k1
    obtain ⟨b1, b2⟩ := mul_bd hw.1 hw.2 a7 a8
    have := mul_bd b1 b2 a9 a10
    omega
  · by_cases k2 : k.l.k = 2
    · rw [p_square _ _ k2]; have := size_bd k.i; omega
    · by_cases k4 : k.l.k = 4
      · rw [p_dense _ _ k4]; omega
      · rw [p_none _ _ k1 k2 k4]; omega
theorem kn_ok {s : Sh} {l : Ly} (a : Int) (h : s.r = true) (hk : lyB l = true) (ho : okS s l = true) : KnOk ⟨l, s, outS s l, a⟩ := by
  obtain ⟨r1, r2, r3, r4, r5, r6, _⟩ := right_bd h
  obtain ⟨q1, q2, q3, q4, q5, q6, _⟩ := right_bd (out_right h hk ho)
  refine ⟨fun (k : l.k = 1) => ?_, fun (k : l.k = 4) => ?_⟩
  · rw [(out_conv s k).2] at ho
    obtain ⟨_, o1, o2, s1, s2, _⟩ := convB_out ho
    exact ⟨by show 0 ≤ l.o; omega, o2, by show 0 ≤ s.c; omega, r2, by show 0 ≤ l.s; omega, by show l.s ≤ 12; omega, by show 0 ≤ (outS s l).h; omega, q4, by show 0 ≤ (outS s l).x; omega, q6⟩
  · rw [(out_dense s k).2] at ho
    obtain ⟨b1, b2, _⟩ := rightB_out ho
    exact ⟨by show 0 ≤ l.o; omega, b2⟩

/-! ### All layers -/
theorem kn_len : ∀ (ls : List Ly) (s : Sh) (a : Int), (knL s a ls).length = ls.length
  | [], _, _ => rfl
  | l :: ls, s, a => by simp [knL, kn_len ls]
theorem sh_len : ∀ (ls : List Ly) (s : Sh), (shL s ls).length = ls.length + 1
  | [], _ => rfl
  | l :: ls, s => by simp [shL, sh_len ls]
theorem kn_app : ∀ (xs ys : List Ly) (s : Sh) (a : Int), knL s a (xs ++ ys) = knL s a xs ++ knL (endS s xs) (a + sumW s xs) ys
  | [], ys, s, a => by simp [knL, endS, sumW]
  | l :: xs, ys, s, a => by simp only [List.cons_append, knL, endS, sumW]; rw [kn_app xs ys, Int.add_assoc]
theorem fit_app : ∀ (xs ys : List Ly) (s : Sh), fitL s (xs ++ ys) = (fitL s xs && fitL (endS s xs) ys)
  | [], ys, s => by simp [fitL, endS]
  | l :: xs, ys, s => by simp only [List.cons_append, fitL, endS]; rw [fit_app xs ys, Bool.and_assoc]
theorem end_app : ∀ (xs ys : List Ly) (s : Sh), endS s (xs ++ ys) = endS (endS s xs) ys
  | [], ys, s => rfl
  | l :: xs, ys, s => by simp only [List.cons_append, endS]; exact end_app xs ys _
theorem w_app : ∀ (xs ys : List Ly) (s : Sh), sumW s (xs ++ ys) = sumW s xs + sumW (endS s xs) ys
  | [], ys, s => by simp [sumW, endS]
  | l :: xs, ys, s => by simp only [List.cons_append, sumW, endS]; rw [w_app xs ys, Int.add_assoc]
theorem p_app : ∀ (xs ys : List Ly) (s : Sh), sumP s (xs ++ ys) = sumP s xs + sumP (endS s xs) ys
  | [], ys, s => by simp [sumP, endS]
  | l :: xs, ys, s => by simp only [List.cons_append, sumP, endS]; rw [p_app xs ys, Int.add_assoc]
theorem tot_w : ∀ (ls : List Ly) (s : Sh) (a : Int), totW (knL s a ls) = sumW s ls
  | [], _, _ => rfl
  | l :: ls, s, a => by
    have := tot_w ls (outS s l) (a + wI s l)
    unfold totW at this ⊢
    simp only [knL, List.map_cons, List.sum_cons, this, sumW]; rfl
theorem tot_p : ∀ (ls : List Ly) (s : Sh) (a : Int), totP (knL s a ls) = sumP s ls
  | [], _, _ => rfl
  | l :: ls, s, a => by
    have := tot_p ls (outS s l) (a + wI s l)
    unfold totP at this ⊢
    simp only [knL, List.map_cons, List.sum_cons, this, sumP]; rfl
theorem sh_kn : ∀ (ls : List Ly) (s : Sh) (a : Int), shL s ls = s :: (knL s a ls).map Kn.u
  | [], _, _ => rfl
  | l :: ls, s, a => by simp only [shL, knL, List.map_cons]; rw [sh_kn ls _ (a + wI s l)]
theorem end_right : ∀ (ls : List Ly) (s : Sh), s.r = true → ls.all lyB = true → fitL s ls = true → (endS s ls).r = true
  | [], _, h, _, _ => h
  | l :: ls, s, h, hk, hf => by
    simp only [List.all_cons, Bool.and_eq_true] at hk
    simp only [fitL, Bool.and_eq_true] at hf
    exact end_right ls _ (out_right h hk.1 hf.1) hk.2 hf.2
theorem kn_all : ∀ (ls : List Ly) (s : Sh) (a : Int), s.r = true → ls.all lyB = true → fitL s ls = true → ∀ k ∈ knL s a ls, KnOk k
  | [], _, _, _, _, _ => by simp [knL]
  | l :: ls, s, a, h, hk, hf => by
    simp only [List.all_cons, Bool.and_eq_true] at hk
    simp only [fitL, Bool.and_eq_true] at hf
    intro k hm
    simp only [knL, List.mem_cons] at hm
    rcases hm with rfl | hm
    · exact kn_ok a h hk.1 hf.1
    · exact kn_all ls _ _ (out_right h hk.1 hf.1) hk.2 hf.2 k hm
theorem tot_bd : ∀ (ks : List Kn), (∀ k ∈ ks, KnOk k) → 0 ≤ totW ks ∧ totW ks ≤ 9216 * ks.length ∧ 0 ≤ totP ks ∧ totP ks ≤ 1327104 * ks.length
  | [], _ => by simp [totW, totP]
  | k :: ks, h => by
    have a := (h k (by simp)).w
    have b := (h k (by simp)).p
    have c := tot_bd ks fun x hx => h x (by simp [hx])
    unfold totW totP at c ⊢
    simp only [List.map_cons, List.sum_cons, List.length_cons]
    omega
theorem tot_snoc (ks : List Kn) (k : Kn) : totW (ks ++ [k]) = totW ks + k.w ∧ totP (ks ++ [k]) = totP ks + k.p := by
  unfold totW totP; simp

end Go.Proofs.Ytklgjhldebdegaa

namespace Go.Proofs.Ytklgjhldebdegaa
open Go.RowKit

/-- Is a number from a least one to a greatest one? -/
def withinB (n l m : Int) : Bool := decide (l ≤ n ∧ n ≤ m)
theorem ret_bool {a b : Bool} (h : a = b) : Ending.returned (.bool a) = .returned (.bool b) := by rw [h]
theorem ret_int {k : IntKind} {a b : Int} (h : a = b) : Ending.returned (.int k a) = .returned (.int k b) := by rw [h]
theorem withinB_yes {n l m : Int} (h1 : l ≤ n) (h2 : n ≤ m) : withinB n l m = true := by simp [withinB, h1, h2]
theorem withinB_out {n l m : Int} (h : withinB n l m = true) : l ≤ n ∧ n ≤ m := by simpa [withinB] using h
theorem withinB_no {n l m : Int} (h : ¬ (l ≤ n ∧ n ≤ m)) : withinB n l m = false := by simpa [withinB] using h
set_option maxHeartbeats 400000 in
theorem within_any (n l m : Int) (w : World) :
    Calls Try.prog 55 #[.int .i64 n, .int .i64 l, .int .i64 m] w fun e w' => e = .returned (.bool (withinB n l m)) ∧ w = w' := by
  have H1 := Lib.hid (@withinB_yes n l m)
  have H2 := Lib.hid (@withinB_no n l m)
  by_cases h1 : l ≤ n
  · by_cases h2 : n ≤ m
    · go_enter Try.func55, Try.ntmps55
      go_wp2
      go_ret
      exact ⟨ret_bool (H1.out h1 h2).symm, rfl⟩
    · have h2' : m < n := by omega
      go_enter Try.func55, Try.ntmps55
      go_wp2
      go_ret
      exact ⟨ret_bool (H2.out (by omega)).symm, rfl⟩
  · have h1' : n < l := by omega
    go_enter Try.func55, Try.ntmps55
    go_wp2
    go_ret
    exact ⟨ret_bool (H2.out (by omega)).symm, rfl⟩
/-- The greatest number that a side may be. -/
def mostOf (i : Int) : Int := if i = 0 then 8 else 12
set_option maxHeartbeats 400000 in
theorem right1_any (i side : Int) (b : Nat) (w : World) (h0 : 0 ≤ i) (h1 : i < 3)
    (c0 : w.cell? ⟨b, 0, none⟩ = some (.int .i64 8)) (c1 : w.cell? ⟨b, 1, none⟩ = some (.int .i64 12)) (c2 : w.cell? ⟨b, 2, none⟩ = some (.int .i64 12)) :
    Calls Try.prog 54 #[.int .i64 i, .int .i64 side, .pointer (some ⟨b, 0, none⟩)] w fun e w' => e = .returned (.bool (withinB side 1 (mostOf i))) ∧ w = w' := by
  have H : Hid (mostOf 0 = 8 ∧ mostOf 1 = 12 ∧ mostOf 2 = 12) := ⟨rfl, rfl, rfl⟩
  rcases (by omega : i = 0 ∨ i = 1 ∨ i = 2) with h | h | h
  all_goals
    subst h
    clear h0 h1
    go_enter Try.func54, Try.ntmps54
    go_wp2_with fail
    refine (within_any _ _ _ _).mono ?_
    rintro e w' ⟨rfl, rfl⟩
    go_wp2_with fail
    go_ret
    first | exact ⟨ret_bool (by rw [H.out.1]), rfl⟩ | exact ⟨ret_bool (by rw [H.out.2.1]), rfl⟩ | exact ⟨ret_bool (by rw [H.out.2.2]), rfl⟩
set_option maxHeartbeats 1000000 in
theorem sides_core (F : Nat) (caps : Array Value) (q0 q1 q2 : Bool) (c h x : Int) (w : World)
    (hE : ∀ args w, Sem.run Try.prog (callFunc F args) w = .ok (.enter F args) w)
    (h0 : ∀ w1 : World, Below w.heap.size w w1 → Calls Try.prog F (#[.int .i64 0, .int .i64 c] ++ caps) w1 fun e w' => e = .returned (.bool q0) ∧ w1 = w')
    (h1 : q0 = true → ∀ w1 : World, Below w.heap.size w w1 → Calls Try.prog F (#[.int .i64 1, .int .i64 h] ++ caps) w1 fun e w' => e = .returned (.bool q1) ∧ w1 = w')
    (h2 : q0 = true → q1 = true → ∀ w1 : World, Below w.heap.size w w1 → Calls Try.prog F (#[.int .i64 2, .int .i64 x] ++ caps) w1 fun e w' => e = .returned (.bool q2) ∧ w1 = w') :
    Calls Try.prog 53 #[.agg #[.int .i64 c, .int .i64 h, .int .i64 x], .func (.func F) #[] caps] w fun e w' => e = .returned (.bool (q0 && (q1 && q2))) ∧ Below w.heap.size w w' := by
  have HF0 := Lib.hid h0; clear h0
  have HF1 := Lib.hid h1; clear h1
  have HF2 := Lib.hid h2; clear h2
  have HB : Hid (Below w.heap.size w (w.alloc (.cells #[.int .i64 c, .int .i64 h, .int .i64 x] 23))) := (Below.refl _ _).alloc (Nat.le_refl _) _
  have i0 : ∀ w : World, (Instr.index 94 (.agg #[.int .i64 c, .int .i64 h, .int .i64 x]) (.int .i64 0)).run Try.prog w = .ok (.int .i64 c) w := fun _ => by kernel_rfl
  have i1 : ∀ w : World, (Instr.index 94 (.agg #[.int .i64 c, .int .i64 h, .int .i64 x]) (.int .i64 1)).run Try.prog w = .ok (.int .i64 h) w := fun _ => by kernel_rfl
  have i2 : ∀ w : World, (Instr.index 94 (.agg #[.int .i64 c, .int .i64 h, .int .i64 x]) (.int .i64 2)).run Try.prog w = .ok (.int .i64 x) w := fun _ => by kernel_rfl
  go_enter Try.func53, Try.ntmps53
  go_wp2_with fail
  go_loop [5, 6, 14] (fun _ _ i => i = .int .i64 0 ∨ (i = .int .i64 1 ∧ Hid (q0 = true)) ∨ (i = .int .i64 2 ∧ Hid (q0 = true ∧ q1 = true)) ∨ (i = .int .i64 3 ∧ Hid (q0 = true ∧ q1 = true ∧ q2 = true))) (fun _ _ i => 3 - (intOf i).toNat)
  case atStart => exact .inl rfl
  case round =>
    rcases hrel with rfl | ⟨rfl, HQ⟩ | ⟨rfl, HQ⟩ | ⟨rfl, HQ⟩
    · go_wp2_with fail
      refine (HF0.out _ HB.out).mono ?_
      rintro e w' ⟨rfl, rfl⟩
      cases q0
      · go_wp2_with fail
        go_ret
        exact ⟨rfl, HB.out⟩
      · go_wp2_with fail
        go_round
        case rel => exact .inr (.inl ⟨rfl, Lib.hid (by simp)⟩)
        case measure => simp [intOf]
    · go_wp2_with fail
      refine (HF1.out HQ.out _ HB.out).mono ?_
      rintro e w' ⟨rfl, rfl⟩
      have HQ' := HQ.out
      subst HQ'
      cases q1
      · go_wp2_with fail
        go_ret
        exact ⟨rfl, HB.out⟩
      · go_wp2_with fail
        go_round
        case rel => exact .inr (.inr (.inl ⟨rfl, Lib.hid (by simp)⟩))
        case measure => simp [intOf]
    · go_wp2_with fail
      refine (HF2.out HQ.out.1 HQ.out.2 _ HB.out).mono ?_
      rintro e w' ⟨rfl, rfl⟩
      obtain ⟨HQ1, HQ2⟩ := HQ.out
      subst HQ1 HQ2
      cases q2
      · go_wp2_with fail
        go_ret
        exact ⟨rfl, HB.out⟩
      · go_wp2_with fail
        go_round
        case rel => exact .inr (.inr (.inr ⟨rfl, Lib.hid (by simp)⟩))
        case measure => simp [intOf]
    · obtain ⟨HQ1, HQ2, HQ3⟩ := HQ.out
      subst HQ1 HQ2 HQ3
      go_wp2_with fail
      go_ret
      exact ⟨rfl, HB.out⟩

end Go.Proofs.Ytklgjhldebdegaa

namespace Go.Proofs.Ytklgjhldebdegaa
open Go.RowKit

theorem bcell {W w1 : World} (hb : Below W.heap.size W w1) : (∀ b o, b < W.heap.size → w1.cell? ⟨b, o, none⟩ = W.cell? ⟨b, o, none⟩) ∧ (∀ b o, b < W.heap.size → w1.frozen? ⟨b, o, none⟩ = W.frozen? ⟨b, o, none⟩) :=
  ⟨fun b o h => hb.cell (p := ⟨b, o, none⟩) h, fun b o h => hb.frozen (p := ⟨b, o, none⟩) h⟩
/-- Are all sides small? -/
def smallB (c h x : Int) : Bool := withinB c 1 8 && (withinB h 1 12 && withinB x 1 12)
theorem smallB_out {c h x : Int} (e : smallB c h x = true) : 1 ≤ c ∧ c ≤ 8 ∧ 1 ≤ h ∧ h ≤ 12 ∧ 1 ≤ x ∧ x ≤ 12 := by
  simp [smallB, withinB] at e; omega
theorem smallB_not {c h x : Int} (e : smallB c h x = false) : rightB c h x = false := by
  cases r : rightB c h x
  · rfl
  · obtain ⟨a1, a2, a3, a4, a5, a6, a7⟩ := rightB_out r
    rw [show smallB c h x = true from by simp [smallB, withinB]; omega] at e
    cases e
theorem sides_right (c h x : Int) (b : Nat) (w : World) (hb : b < w.heap.size)
    (c0 : w.cell? ⟨b, 0, none⟩ = some (.int .i64 8)) (c1 : w.cell? ⟨b, 1, none⟩ = some (.int .i64 12)) (c2 : w.cell? ⟨b, 2, none⟩ = some (.int .i64 12)) :
    Calls Try.prog 53 #[.agg #[.int .i64 c, .int .i64 h, .int .i64 x], .func (.func 54) #[] #[.pointer (some ⟨b, 0, none⟩)]] w fun e w' => e = .returned (.bool (smallB c h x)) ∧ Below w.heap.size w w' := by
  refine sides_core 54 _ _ _ _ c h x w (by intro args w; go_simp) (fun w1 h1 => ?_) (fun _ w1 h1 => ?_) (fun _ _ w1 h1 => ?_)
  · exact right1_any 0 c b w1 (by omega) (by omega) ((h1.cell (p := ⟨b, 0, none⟩) hb).trans c0) ((h1.cell (p := ⟨b, 1, none⟩) hb).trans c1) ((h1.cell (p := ⟨b, 2, none⟩) hb).trans c2)
  · exact right1_any 1 h b w1 (by omega) (by omega) ((h1.cell (p := ⟨b, 0, none⟩) hb).trans c0) ((h1.cell (p := ⟨b, 1, none⟩) hb).trans c1) ((h1.cell (p := ⟨b, 2, none⟩) hb).trans c2)
  · exact right1_any 2 x b w1 (by omega) (by omega) ((h1.cell (p := ⟨b, 0, none⟩) hb).trans c0) ((h1.cell (p := ⟨b, 1, none⟩) hb).trans c1) ((h1.cell (p := ⟨b, 2, none⟩) hb).trans c2)
set_option maxHeartbeats 1000000 in
theorem right_any (c h x : Int) (w : World) :
    Calls Try.prog 36 #[.agg #[.int .i64 c, .int .i64 h, .int .i64 x]] w fun e w' => e = .returned (.bool (rightB c h x)) ∧ Below w.heap.size w w' := by
  cases small : smallB c h x
  · have H : Hid (rightB c h x = false) := smallB_not small
    have S := Lib.hid small; clear small
    go_enter Try.func36, Try.ntmps36
    go_wp2_with fail
    refine (sides_right c h x (w.heap.size + 1) _ (by simp) (by simp) (by simp) (by simp)).mono ?_
    rintro e w1 ⟨rfl, hb1⟩
    have HB1 : Hid (Below w.heap.size w w1) := chain (by repeat first | exact Below.refl _ _ | refine chain_alloc ?_ _) hb1
    rw [S.out]
    clear hb1
    go_wp2_with fail
    go_ret
    exact ⟨ret_bool H.out.symm, HB1.out⟩
  · obtain ⟨a1, a2, a3, a4, a5, a6⟩ := smallB_out small
    obtain ⟨b1, b2, b3, b4, b5, b6⟩ := prod_small a1 a2 a3 a4 a5 a6
    have HR : Hid (rightB c h x = decide (c * h * x ≤ 128)) := by
      show _ = _
      unfold rightB
      rw [Bool.eq_iff_iff]; simp; omega
    have S := Lib.hid small; clear small
    go_enter Try.func36, Try.ntmps36
    go_wp2_with fail
    refine (sides_right c h x (w.heap.size + 1) _ (by simp) (by simp) (by simp) (by simp)).mono ?_
    rintro e w1 ⟨rfl, hb1⟩
    have HB1 : Hid (Below w.heap.size w w1) := chain (by repeat first | exact Below.refl _ _ | refine chain_alloc ?_ _) hb1
    rw [S.out]
    obtain ⟨hc, hf⟩ := bcell hb1
    clear hb1
    go_wp2_with fail
    go_ret
    exact ⟨ret_bool HR.out.symm, HB1.out⟩
theorem right_yes (c h x : Int) (w : World) (r : rightB c h x = true) :
    Calls Try.prog 36 #[.agg #[.int .i64 c, .int .i64 h, .int .i64 x]] w fun e w' => e = .returned (.bool true) ∧ Below w.heap.size w w' := by
  have := right_any c h x w
  rwa [r] at this
theorem right_no (c h x : Int) (w : World) (r : rightB c h x = false) :
    Calls Try.prog 36 #[.agg #[.int .i64 c, .int .i64 h, .int .i64 x]] w fun e w' => e = .returned (.bool false) ∧ Below w.heap.size w w' := by
  have := right_any c h x w
  rwa [r] at this
set_option maxHeartbeats 1000000 in
theorem size_any (c h x : Int) (w : World) :
    Calls Try.prog 58 #[.agg #[.int .i64 c, .int .i64 h, .int .i64 x]] w fun e w' => e = .returned (.int .i64 (sizeI c h x)) ∧ Below w.heap.size w w' := by
  cases r : rightB c h x
  · have HS := Lib.hid (sizeI_no r)
    have HR := Lib.hid r; clear r
    go_enter Try.func58, Try.ntmps58
    go_wp2_with fail
    refine (right_no c h x _ HR.out).mono ?_
    rintro e w1 ⟨rfl, hb1⟩
    have HB1 : Hid (Below w.heap.size w w1) := chain (by repeat first | exact Below.refl _ _ | refine chain_alloc ?_ _) hb1
    clear hb1
    go_wp2_with fail
    go_ret
    exact ⟨ret_int HS.out.symm, HB1.out⟩
  · obtain ⟨a1, a2, a3, a4, a5, a6, a7⟩ := rightB_out r
    obtain ⟨b1, b2, b3, b4, b5, b6⟩ := prod_small a1 a2 a3 a4 a5 a6
    have HS := Lib.hid (sizeI_yes r)
    have HR := Lib.hid r; clear r
    go_enter Try.func58, Try.ntmps58
    go_wp2_with fail
    refine (right_yes c h x _ HR.out).mono ?_
    rintro e w1 ⟨rfl, hb1⟩
    have HB1 : Hid (Below w.heap.size w w1) := chain (by repeat first | exact Below.refl _ _ | refine chain_alloc ?_ _) hb1
    obtain ⟨hc, hf⟩ := bcell hb1
    clear hb1
    go_wp2_with fail
    go_ret
    exact ⟨ret_int HS.out.symm, HB1.out⟩

end Go.Proofs.Ytklgjhldebdegaa

namespace Go.Proofs.Ytklgjhldebdegaa
open Go.RowKit

theorem within_is (n l m : Int) (r : Bool) (e : withinB n l m = r) (w : World) :
    Calls Try.prog 55 #[.int .i64 n, .int .i64 l, .int .i64 m] w fun e w' => e = .returned (.bool r) ∧ w = w' := by
  have := within_any n l m w
  rwa [e] at this
/-- A shape and a word are handed out. -/
def Out (c h x : Int) (b : Bool) (w : World) (e : Ending) (w' : World) : Prop :=
  e = .returned (.tuple #[.agg #[.int .i64 c, .int .i64 h, .int .i64 x], .bool b]) ∧ Below w.heap.size w w'
set_option maxHeartbeats 400000 in
theorem conv_wrong (c h x out size step : Int) (w : World) (r : rightB c h x = false) :
    Calls Try.prog 56 #[.agg #[.int .i64 c, .int .i64 h, .int .i64 x], .int .i64 out, .int .i64 size, .int .i64 step] w (Out 0 0 0 false w) := by
  have HR := Lib.hid r; clear r
  go_enter Try.func56, Try.ntmps56
  go_wp2_with fail
  refine (right_no c h x _ HR.out).mono ?_
  rintro e w1 ⟨rfl, hb1⟩
  have HB1 : Hid (Below w.heap.size w w1) := chain (by repeat first | exact Below.refl _ _ | refine chain_alloc ?_ _) hb1
  obtain ⟨hc, hf⟩ := bcell hb1
  clear hb1
  go_wp2_with fail
  exact bodyPost_ret (v := .tuple #[.agg #[.int .i64 0, .int .i64 0, .int .i64 0], .bool false]) (by simp [results, Try.results56, go_sem, hc]) rfl ⟨rfl, ((HB1.out.setCell (by simp) _).setCell (by simp) _).setCell (by simp) _⟩
set_option maxHeartbeats 400000 in
theorem conv_out (c h x out size step : Int) (w : World) (r : rightB c h x = true) (o : withinB out 1 8 = false) :
    Calls Try.prog 56 #[.agg #[.int .i64 c, .int .i64 h, .int .i64 x], .int .i64 out, .int .i64 size, .int .i64 step] w (Out 0 0 0 false w) := by
  have HO := Lib.hid o; clear o
  have HR := Lib.hid r; clear r
  go_enter Try.func56, Try.ntmps56
  go_wp2_with fail
  refine (right_yes c h x _ HR.out).mono ?_
  rintro e w1 ⟨rfl, hb1⟩
  have HB1 : Hid (Below w.heap.size w w1) := chain (by repeat first | exact Below.refl _ _ | refine chain_alloc ?_ _) hb1
  obtain ⟨hc, hf⟩ := bcell hb1
  have hz : w.heap.size + 1 < w1.heap.size := by have := hb1.size; simp at this; omega
  clear hb1
  go_wp2_with fail
  refine (within_is out 1 8 _ HO.out _).mono ?_
  rintro e w' ⟨rfl, rfl⟩
  go_wp2_with fail
  exact bodyPost_ret (v := .tuple #[.agg #[.int .i64 0, .int .i64 0, .int .i64 0], .bool false]) (by simp [results, Try.results56, go_sem, hc]) rfl ⟨rfl, ((HB1.out.setCell (by simp) _).setCell (by simp) _).setCell (by simp) _⟩
set_option maxHeartbeats 400000 in
theorem conv_size (c h x out size step : Int) (m : Int) (w : World) (r : rightB c h x = true) (o : withinB out 1 8 = true) (s : withinB size 1 m = false) (hm : (h ≤ x ∧ h = m) ∨ (x < h ∧ x = m)) :
    Calls Try.prog 56 #[.agg #[.int .i64 c, .int .i64 h, .int .i64 x], .int .i64 out, .int .i64 size, .int .i64 step] w (Out 0 0 0 false w) := by
  have HO := Lib.hid o; clear o
  have HS := Lib.hid s; clear s
  rcases hm with ⟨hm, rfl⟩ | ⟨hm, rfl⟩
  all_goals
    have HR := Lib.hid r; clear r
    go_enter Try.func56, Try.ntmps56
    go_wp2_with fail
    refine (right_yes c h x _ HR.out).mono ?_
    rintro e w1 ⟨rfl, hb1⟩
    have HB1 : Hid (Below w.heap.size w w1) := chain (by repeat first | exact Below.refl _ _ | refine chain_alloc ?_ _) hb1
    obtain ⟨hc, hf⟩ := bcell hb1
    have hz : w.heap.size + 1 < w1.heap.size := by have := hb1.size; simp at this; omega
    clear hb1
    go_wp2_with fail
    refine (within_is out 1 8 _ HO.out _).mono ?_
    rintro e w' ⟨rfl, rfl⟩
    go_wp2_with fail
    refine (within_is size 1 _ _ HS.out _).mono ?_
    rintro e w' ⟨rfl, rfl⟩
    go_wp2_with fail
    exact bodyPost_ret (v := .tuple #[.agg #[.int .i64 0, .int .i64 0, .int .i64 0], .bool false]) (by simp [results, Try.results56, go_sem, hc]) rfl ⟨rfl, ((HB1.out.setCell (by simp) _).setCell (by simp) _).setCell (by simp) _⟩
set_option maxHeartbeats 400000 in
theorem conv_step (c h x out size step : Int) (m : Int) (w : World) (r : rightB c h x = true) (o : withinB out 1 8 = true) (s : withinB size 1 m = true) (t : withinB step 1 12 = false) (hm : (h ≤ x ∧ h = m) ∨ (x < h ∧ x = m)) :
    Calls Try.prog 56 #[.agg #[.int .i64 c, .int .i64 h, .int .i64 x], .int .i64 out, .int .i64 size, .int .i64 step] w (Out 0 0 0 false w) := by
  have HO := Lib.hid o; clear o
  have HS := Lib.hid s; clear s
  have HT := Lib.hid t; clear t
  rcases hm with ⟨hm, rfl⟩ | ⟨hm, rfl⟩
  all_goals
    have HR := Lib.hid r; clear r
    go_enter Try.func56, Try.ntmps56
    go_wp2_with fail
    refine (right_yes c h x _ HR.out).mono ?_
    rintro e w1 ⟨rfl, hb1⟩
    have HB1 : Hid (Below w.heap.size w w1) := chain (by repeat first | exact Below.refl _ _ | refine chain_alloc ?_ _) hb1
    obtain ⟨hc, hf⟩ := bcell hb1
    have hz : w.heap.size + 1 < w1.heap.size := by have := hb1.size; simp at this; omega
    clear hb1
    go_wp2_with fail
    refine (within_is out 1 8 _ HO.out _).mono ?_
    rintro e w' ⟨rfl, rfl⟩
    go_wp2_with fail
    refine (within_is size 1 _ _ HS.out _).mono ?_
    rintro e w' ⟨rfl, rfl⟩
    go_wp2_with fail
    refine (within_is step 1 12 _ HT.out _).mono ?_
    rintro e w' ⟨rfl, rfl⟩
    go_wp2_with fail
    exact bodyPost_ret (v := .tuple #[.agg #[.int .i64 0, .int .i64 0, .int .i64 0], .bool false]) (by simp [results, Try.results56, go_sem, hc]) rfl ⟨rfl, ((HB1.out.setCell (by simp) _).setCell (by simp) _).setCell (by simp) _⟩
set_option maxHeartbeats 400000 in
theorem conv_next (c h x out size step : Int) (m : Int) (w : World) (r : rightB c h x = true) (o : withinB out 1 8 = true) (s : withinB size 1 m = true) (t : withinB step 1 12 = true) (hm : (h ≤ x ∧ h = m) ∨ (x < h ∧ x = m))
    (n : rightB out ((h - size) / step + 1) ((x - size) / step + 1) = false) :
    Calls Try.prog 56 #[.agg #[.int .i64 c, .int .i64 h, .int .i64 x], .int .i64 out, .int .i64 size, .int .i64 step] w (Out 0 0 0 false w) := by
  obtain ⟨s1, s2⟩ := withinB_out s
  obtain ⟨t1, t2⟩ := withinB_out t
  obtain ⟨a1, a2, a3, a4, a5, a6, a7⟩ := rightB_out r
  obtain ⟨d1, d2⟩ := wins_bd a3 a4 s1 (by omega) t1
  obtain ⟨d3, d4⟩ := wins_bd a5 a6 s1 (by omega) t1
  have e1 : 0 ≤ h - size := by omega
  have e2 : 0 ≤ x - size := by omega
  have e3 : ¬ step = 0 := by omega
  have HO := Lib.hid o; clear o
  have HS := Lib.hid s; clear s
  have HT := Lib.hid t; clear t
  have HN := Lib.hid n; clear n
  have HR := Lib.hid r; clear r
  rcases hm with ⟨hm, rfl⟩ | ⟨hm, rfl⟩
  all_goals
    go_enter Try.func56, Try.ntmps56
    go_wp2_with fail
    refine (right_yes c h x _ HR.out).mono ?_
    rintro e w1 ⟨rfl, hb1⟩
    have HB1 : Hid (Below w.heap.size w w1) := chain (by repeat first | exact Below.refl _ _ | refine chain_alloc ?_ _) hb1
    obtain ⟨hc, hf⟩ := bcell hb1
    have hz : w.heap.size + 1 < w1.heap.size := by have := hb1.size; simp at this; omega
    have g1 : w1.cell? ⟨w.heap.size, 1, none⟩ = some (.int .i64 h) := by rw [hc _ _ (by simp <;> omega)]; go_simp
    have g2 : w1.cell? ⟨w.heap.size, 2, none⟩ = some (.int .i64 x) := by rw [hc _ _ (by simp <;> omega)]; go_simp
    have hz0 : w.heap.size < w1.heap.size := by omega
    clear hb1
    go_wp2_with fail
    refine (within_is out 1 8 _ HO.out _).mono ?_
    rintro e w' ⟨rfl, rfl⟩
    go_wp2_with fail
    refine (within_is size 1 _ _ HS.out _).mono ?_
    rintro e w' ⟨rfl, rfl⟩
    go_wp2_with fail
    refine (within_is step 1 12 _ HT.out _).mono ?_
    rintro e w' ⟨rfl, rfl⟩
    go_wp2_with fail
    go_region
    go_wp2_with fail
    refine (right_no out ((h - size) / step + 1) ((x - size) / step + 1) _ HN.out).mono ?_
    rintro e w2 ⟨rfl, hb2⟩
    have HB2 : Hid (Below w.heap.size w w2) := chain ((chain_alloc HB1.out _).drew) hb2
    have q1 : w2.heap.size > w1.heap.size := by have := hb2.size; simp at this; omega
    have k0 : ∀ o, w2.cell? ⟨w.heap.size + 1, o, none⟩ = w1.cell? ⟨w.heap.size + 1, o, none⟩ := fun o => by
      rw [hb2.cell (p := ⟨w.heap.size + 1, o, none⟩) (by show w.heap.size + 1 < _; simp; omega)]; go_simp
    have k1 : ∀ o, w2.frozen? ⟨w.heap.size + 1, o, none⟩ = w1.frozen? ⟨w.heap.size + 1, o, none⟩ := fun o => by
      rw [hb2.frozen (p := ⟨w.heap.size + 1, o, none⟩) (by show w.heap.size + 1 < _; simp; omega)]; go_simp
    have k2 : w2.cell? ⟨w1.heap.size, 0, none⟩ = some (.int .i64 out) := by
      rw [hb2.cell (p := ⟨w1.heap.size, 0, none⟩) (by show w1.heap.size < _; simp)]; go_simp
    have k3 : w2.cell? ⟨w1.heap.size, 1, none⟩ = some (.int .i64 ((h - size) / step + 1)) := by
      rw [hb2.cell (p := ⟨w1.heap.size, 1, none⟩) (by show w1.heap.size < _; simp)]; go_simp
    have k4 : w2.cell? ⟨w1.heap.size, 2, none⟩ = some (.int .i64 ((x - size) / step + 1)) := by
      rw [hb2.cell (p := ⟨w1.heap.size, 2, none⟩) (by show w1.heap.size < _; simp)]; go_simp
    clear hb2
    go_wp2_with fail
    exact bodyPost_ret (v := .tuple #[.agg #[.int .i64 0, .int .i64 0, .int .i64 0], .bool false]) (by simp [results, Try.results56, go_sem, k0, hc]) rfl ⟨rfl, ((HB2.out.setCell (by simp) _).setCell (by simp) _).setCell (by simp) _⟩
set_option maxHeartbeats 400000 in
theorem conv_good (c h x out size step : Int) (m : Int) (w : World) (r : rightB c h x = true) (o : withinB out 1 8 = true) (s : withinB size 1 m = true) (t : withinB step 1 12 = true) (hm : (h ≤ x ∧ h = m) ∨ (x < h ∧ x = m))
    (n : rightB out ((h - size) / step + 1) ((x - size) / step + 1) = true) :
    Calls Try.prog 56 #[.agg #[.int .i64 c, .int .i64 h, .int .i64 x], .int .i64 out, .int .i64 size, .int .i64 step] w (Out out ((h - size) / step + 1) ((x - size) / step + 1) true w) := by
  obtain ⟨s1, s2⟩ := withinB_out s
  obtain ⟨t1, t2⟩ := withinB_out t
  obtain ⟨a1, a2, a3, a4, a5, a6, a7⟩ := rightB_out r
  obtain ⟨d1, d2⟩ := wins_bd a3 a4 s1 (by omega) t1
  obtain ⟨d3, d4⟩ := wins_bd a5 a6 s1 (by omega) t1
  have e1 : 0 ≤ h - size := by omega
  have e2 : 0 ≤ x - size := by omega
  have e3 : ¬ step = 0 := by omega
  have HO := Lib.hid o; clear o
  have HS := Lib.hid s; clear s
  have HT := Lib.hid t; clear t
  have HN := Lib.hid n; clear n
  have HR := Lib.hid r; clear r
  rcases hm with ⟨hm, rfl⟩ | ⟨hm, rfl⟩
  all_goals
    go_enter Try.func56, Try.ntmps56
    go_wp2_with fail
    refine (right_yes c h x _ HR.out).mono ?_
    rintro e w1 ⟨rfl, hb1⟩
    have HB1 : Hid (Below w.heap.size w w1) := chain (by repeat first | exact Below.refl _ _ | refine chain_alloc ?_ _) hb1
    obtain ⟨hc, hf⟩ := bcell hb1
    have hz : w.heap.size + 1 < w1.heap.size := by have := hb1.size; simp at this; omega
    have g1 : w1.cell? ⟨w.heap.size, 1, none⟩ = some (.int .i64 h) := by rw [hc _ _ (by simp <;> omega)]; go_simp
    have g2 : w1.cell? ⟨w.heap.size, 2, none⟩ = some (.int .i64 x) := by rw [hc _ _ (by simp <;> omega)]; go_simp
    have hz0 : w.heap.size < w1.heap.size := by omega
    clear hb1
    go_wp2_with fail
    refine (within_is out 1 8 _ HO.out _).mono ?_
    rintro e w' ⟨rfl, rfl⟩
    go_wp2_with fail
    refine (within_is size 1 _ _ HS.out _).mono ?_
    rintro e w' ⟨rfl, rfl⟩
    go_wp2_with fail
    refine (within_is step 1 12 _ HT.out _).mono ?_
    rintro e w' ⟨rfl, rfl⟩
    go_wp2_with fail
    go_region
    go_wp2_with fail
    refine (right_yes out ((h - size) / step + 1) ((x - size) / step + 1) _ HN.out).mono ?_
    rintro e w2 ⟨rfl, hb2⟩
    have HB2 : Hid (Below w.heap.size w w2) := chain ((chain_alloc HB1.out _).drew) hb2
    have q1 : w2.heap.size > w1.heap.size := by have := hb2.size; simp at this; omega
    have k0 : ∀ o, w2.cell? ⟨w.heap.size + 1, o, none⟩ = w1.cell? ⟨w.heap.size + 1, o, none⟩ := fun o => by
      rw [hb2.cell (p := ⟨w.heap.size + 1, o, none⟩) (by show w.heap.size + 1 < _; simp; omega)]; go_simp
    have k1 : ∀ o, w2.frozen? ⟨w.heap.size + 1, o, none⟩ = w1.frozen? ⟨w.heap.size + 1, o, none⟩ := fun o => by
      rw [hb2.frozen (p := ⟨w.heap.size + 1, o, none⟩) (by show w.heap.size + 1 < _; simp; omega)]; go_simp
    have k2 : w2.cell? ⟨w1.heap.size, 0, none⟩ = some (.int .i64 out) := by
      rw [hb2.cell (p := ⟨w1.heap.size, 0, none⟩) (by show w1.heap.size < _; simp)]; go_simp
    have k3 : w2.cell? ⟨w1.heap.size, 1, none⟩ = some (.int .i64 ((h - size) / step + 1)) := by
      rw [hb2.cell (p := ⟨w1.heap.size, 1, none⟩) (by show w1.heap.size < _; simp)]; go_simp
    have k4 : w2.cell? ⟨w1.heap.size, 2, none⟩ = some (.int .i64 ((x - size) / step + 1)) := by
      rw [hb2.cell (p := ⟨w1.heap.size, 2, none⟩) (by show w1.heap.size < _; simp)]; go_simp
    clear hb2
    go_wp2_with fail
    exact bodyPost_ret (v := .tuple #[.agg #[.int .i64 out, .int .i64 ((h - size) / step + 1), .int .i64 ((x - size) / step + 1)], .bool true]) (by simp [results, Try.results56, go_sem, k0, hc]) rfl ⟨rfl, ((HB2.out.setCell (by simp) _).setCell (by simp) _).setCell (by simp) _⟩
theorem conv_any (c h x out size step : Int) (w : World) :
    Calls Try.prog 56 #[.agg #[.int .i64 c, .int .i64 h, .int .i64 x], .int .i64 out, .int .i64 size, .int .i64 step] w (Out (convC c h x out size step) (convH c h x out size step) (convW c h x out size step) (convB c h x out size step) w) := by
  have hm : (h ≤ x ∧ h = min h x) ∨ (x < h ∧ x = min h x) := by omega
  cases f : convB c h x out size step
  · have n := conv_none f
    rw [n.1, n.2.1, n.2.2]
    cases r : rightB c h x
    · exact conv_wrong c h x out size step w r
    cases o : withinB out 1 8
    · exact conv_out c h x out size step w r o
    cases s : withinB size 1 (min h x)
    · exact conv_size c h x out size step _ w r o s hm
    cases t : withinB step 1 12
    · exact conv_step c h x out size step _ w r o s t hm
    cases n : rightB out ((h - size) / step + 1) ((x - size) / step + 1)
    · exact conv_next c h x out size step _ w r o s t hm n
    · have o := withinB_out o
      have s := withinB_out s
      have t := withinB_out t
      rw [convB_yes ⟨r, o.1, o.2, s.1, s.2, t.1, t.2, n⟩] at f
      cases f
  · obtain ⟨r, o1, o2, s1, s2, t1, t2, n⟩ := convB_out f
    have k := conv_is f
    rw [k.1, k.2.1, k.2.2]
    exact conv_good c h x out size step _ w r (withinB_yes o1 o2) (withinB_yes s1 s2) (withinB_yes t1 t2) hm n

end Go.Proofs.Ytklgjhldebdegaa

namespace Go.Proofs.Ytklgjhldebdegaa
open Go.RowKit

set_option maxHeartbeats 400000 in
theorem pool_wrong (c h x size : Int) (w : World) (r : rightB c h x = false) :
    Calls Try.prog 57 #[.agg #[.int .i64 c, .int .i64 h, .int .i64 x], .int .i64 size] w (Out 0 0 0 false w) := by
  have HR := Lib.hid r; clear r
  go_enter Try.func57, Try.ntmps57
  go_wp2_with fail
  refine (right_no c h x _ HR.out).mono ?_
  rintro e w1 ⟨rfl, hb1⟩
  have HB1 : Hid (Below w.heap.size w w1) := chain (by repeat first | exact Below.refl _ _ | refine chain_alloc ?_ _) hb1
  obtain ⟨hc, hf⟩ := bcell hb1
  have hz : w.heap.size + 1 < w1.heap.size := by have := hb1.size; simp at this; omega
  clear hb1
  go_wp2_with fail
  exact bodyPost_ret (v := .tuple #[.agg #[.int .i64 0, .int .i64 0, .int .i64 0], .bool false]) (by simp [results, Try.results57, go_sem, hc]) rfl ⟨rfl, ((HB1.out.setCell (by simp) _).setCell (by simp) _).setCell (by simp) _⟩
set_option maxHeartbeats 400000 in
theorem pool_low (c h x size : Int) (w : World) (r : rightB c h x = true) (s : size < 1) :
    Calls Try.prog 57 #[.agg #[.int .i64 c, .int .i64 h, .int .i64 x], .int .i64 size] w (Out 0 0 0 false w) := by
  have HR := Lib.hid r; clear r
  go_enter Try.func57, Try.ntmps57
  go_wp2_with fail
  refine (right_yes c h x _ HR.out).mono ?_
  rintro e w1 ⟨rfl, hb1⟩
  have HB1 : Hid (Below w.heap.size w w1) := chain (by repeat first | exact Below.refl _ _ | refine chain_alloc ?_ _) hb1
  obtain ⟨hc, hf⟩ := bcell hb1
  have hz : w.heap.size + 1 < w1.heap.size := by have := hb1.size; simp at this; omega
  clear hb1
  go_wp2_with fail
  exact bodyPost_ret (v := .tuple #[.agg #[.int .i64 0, .int .i64 0, .int .i64 0], .bool false]) (by simp [results, Try.results57, go_sem, hc]) rfl ⟨rfl, ((HB1.out.setCell (by simp) _).setCell (by simp) _).setCell (by simp) _⟩
set_option maxHeartbeats 400000 in
theorem pool_high (c h x size : Int) (w : World) (r : rightB c h x = true) (s : 1 ≤ size) (m : ¬ h % size = 0) :
    Calls Try.prog 57 #[.agg #[.int .i64 c, .int .i64 h, .int .i64 x], .int .i64 size] w (Out 0 0 0 false w) := by
  obtain ⟨a1, a2, a3, a4, a5, a6, a7⟩ := rightB_out r
  have HR := Lib.hid r; clear r
  have n : ¬ size = 0 := by omega
  have m' : (h % size != 0) = true := by simpa using m
  go_enter Try.func57, Try.ntmps57
  go_wp2_with fail
  refine (right_yes c h x _ HR.out).mono ?_
  rintro e w1 ⟨rfl, hb1⟩
  have HB1 : Hid (Below w.heap.size w w1) := chain (by repeat first | exact Below.refl _ _ | refine chain_alloc ?_ _) hb1
  obtain ⟨hc, hf⟩ := bcell hb1
  have hz : w.heap.size + 1 < w1.heap.size := by have := hb1.size; simp at this; omega
  clear hb1
  go_wp2_with fail
  exact bodyPost_ret (v := .tuple #[.agg #[.int .i64 0, .int .i64 0, .int .i64 0], .bool false]) (by simp [results, Try.results57, go_sem, hc]) rfl ⟨rfl, ((HB1.out.setCell (by simp) _).setCell (by simp) _).setCell (by simp) _⟩
set_option maxHeartbeats 400000 in
theorem pool_wide (c h x size : Int) (w : World) (r : rightB c h x = true) (s : 1 ≤ size) (m : h % size = 0) (k : ¬ x % size = 0) :
    Calls Try.prog 57 #[.agg #[.int .i64 c, .int .i64 h, .int .i64 x], .int .i64 size] w (Out 0 0 0 false w) := by
  obtain ⟨a1, a2, a3, a4, a5, a6, a7⟩ := rightB_out r
  have HR := Lib.hid r; clear r
  have n : ¬ size = 0 := by omega
  have k' : (x % size != 0) = true := by simpa using k
  go_enter Try.func57, Try.ntmps57
  go_wp2_with fail
  refine (right_yes c h x _ HR.out).mono ?_
  rintro e w1 ⟨rfl, hb1⟩
  have HB1 : Hid (Below w.heap.size w w1) := chain (by repeat first | exact Below.refl _ _ | refine chain_alloc ?_ _) hb1
  obtain ⟨hc, hf⟩ := bcell hb1
  have hz : w.heap.size + 1 < w1.heap.size := by have := hb1.size; simp at this; omega
  clear hb1
  go_wp2_with fail
  exact bodyPost_ret (v := .tuple #[.agg #[.int .i64 0, .int .i64 0, .int .i64 0], .bool false]) (by simp [results, Try.results57, go_sem, hc]) rfl ⟨rfl, ((HB1.out.setCell (by simp) _).setCell (by simp) _).setCell (by simp) _⟩
set_option maxHeartbeats 400000 in
theorem pool_good (c h x size : Int) (w : World) (r : rightB c h x = true) (s : 1 ≤ size) (m : h % size = 0) (k : x % size = 0) :
    Calls Try.prog 57 #[.agg #[.int .i64 c, .int .i64 h, .int .i64 x], .int .i64 size] w (Out c (h / size) (x / size) true w) := by
  obtain ⟨a1, a2, a3, a4, a5, a6, a7⟩ := rightB_out r
  have HR := Lib.hid r; clear r
  have n : ¬ size = 0 := by omega
  go_enter Try.func57, Try.ntmps57
  go_wp2_with fail
  refine (right_yes c h x _ HR.out).mono ?_
  rintro e w1 ⟨rfl, hb1⟩
  have HB1 : Hid (Below w.heap.size w w1) := chain (by repeat first | exact Below.refl _ _ | refine chain_alloc ?_ _) hb1
  obtain ⟨hc, hf⟩ := bcell hb1
  have hz : w.heap.size + 1 < w1.heap.size := by have := hb1.size; simp at this; omega
  clear hb1
  have g0 : w1.cell? ⟨w.heap.size, 0, none⟩ = some (.int .i64 c) := by rw [hc _ _ (by simp <;> omega)]; go_simp
  have g1 : w1.cell? ⟨w.heap.size, 1, none⟩ = some (.int .i64 h) := by rw [hc _ _ (by simp <;> omega)]; go_simp
  have g2 : w1.cell? ⟨w.heap.size, 2, none⟩ = some (.int .i64 x) := by rw [hc _ _ (by simp <;> omega)]; go_simp
  go_wp2_with fail
  go_region
  go_wp2_with fail
  exact bodyPost_ret (v := .tuple #[.agg #[.int .i64 c, .int .i64 (h / size), .int .i64 (x / size)], .bool true]) (by simp [results, Try.results57, go_sem, hc]) rfl ⟨rfl, ((HB1.out.drew.setCell (by simp) _).setCell (by simp) _).setCell (by simp) _⟩
theorem pool_any (c h x size : Int) (w : World) :
    Calls Try.prog 57 #[.agg #[.int .i64 c, .int .i64 h, .int .i64 x], .int .i64 size] w (Out (poolC c h x size) (poolH c h x size) (poolW c h x size) (poolB c h x size) w) := by
  cases f : poolB c h x size
  · have n := pool_none f
    rw [n.1, n.2.1, n.2.2]
    cases r : rightB c h x
    · exact pool_wrong c h x size w r
    by_cases s : size < 1
    · exact pool_low c h x size w r s
    by_cases m : h % size = 0
    · by_cases k : x % size = 0
      · rw [poolB_yes ⟨r, by omega, m, k⟩] at f
        cases f
      · exact pool_wide c h x size w r (by omega) m k
    · exact pool_high c h x size w r (by omega) m
  · obtain ⟨r, s, m, k⟩ := poolB_out f
    have i := pool_is f
    rw [i.1, i.2.1, i.2.2]
    exact pool_good c h x size w r s m k

end Go.Proofs.Ytklgjhldebdegaa

namespace Go.Proofs.Ytklgjhldebdegaa
open Go.RowKit

/-- Whole numbers, as a block's cells. -/
def ic (l : List Int) : Array Value := (l.map fun n => Value.int .i64 n).toArray
def IB (w : World) (b T : Nat) (l : List Int) : Prop := w.heap[b]? = some (.cells (ic l) T (0, 0))
theorem IB.cell {w : World} {b T : Nat} {l : List Int} (h : IB w b T l) {j : Nat} (hj : j < l.length) : w.cell? ⟨b, j, none⟩ = some (.int .i64 (l.getD j 0)) := by
  rw [Lib.cell_of_heap h]
  simp [ic, List.getD_eq_getElem?_getD, hj]
theorem IB.lt {w : World} {b T : Nat} {l : List Int} (h : IB w b T l) : b < w.heap.size := (Array.getElem?_eq_some_iff.1 h).1
theorem IB.below {w w' : World} {b T : Nat} {l : List Int} (h : IB w b T l) (hb : Below w.heap.size w w') : IB w' b T l := (hb.block b h.lt).trans h
/-- A row of pointers into block b. -/
def pc (b : Nat) (os : List Nat) : Array Value := (os.map fun o => Value.pointer (some ⟨b, o, none⟩)).toArray
def Rp (B : Nat) (w : World) (A : Option Addr) (b : Nat) (os : List Nat) : Prop :=
  0 < os.length → ∃ g, A = some ⟨g, 0, none⟩ ∧ B ≤ g ∧ w.heap[g]? = some (.cells (pc b os) 111 (0, 0))
theorem pc_cell {w : World} {g b : Nat} {os : List Nat} (h : w.heap[g]? = some (.cells (pc b os) 111 (0, 0))) {j : Nat} (hj : j < os.length) : w.cell? ⟨g, j, none⟩ = some (.pointer (some ⟨b, os.getD j 0, none⟩)) := by
  rw [Lib.cell_of_heap h]
  simp [pc, List.getD_eq_getElem?_getD, hj]
theorem Rp.below {B : Nat} {w w' : World} {A : Option Addr} {b : Nat} {os : List Nat} (h : Rp B w A b os) (hb : Below w.heap.size w w') : Rp B w' A b os := fun h0 => by
  obtain ⟨g, e, hB, hh⟩ := h h0
  exact ⟨g, e, hB, (hb.block g (Array.getElem?_eq_some_iff.1 hh).1).trans hh⟩
def NumsPost (b : Nat) (os : List Nat) (w : World) (e : Ending) (w' : World) : Prop :=
  ∃ (A : Option Addr) (k n : Nat), e = .returned (.slice A n k) ∧ n = os.length ∧ Rp w.heap.size w' A b os ∧ Below w.heap.size w w'
theorem rp_new {w : World} {b : Nat} {os : List Nat} : Rp w.heap.size (w.alloc (.cells (pc b os) 111)) (some ⟨w.heap.size, 0, none⟩) b os :=
  fun _ => ⟨w.heap.size, rfl, Nat.le_refl _, by show (w.heap.push _)[w.heap.size]? = _; simp⟩
set_option maxHeartbeats 1000000 in
set_option maxRecDepth 100000 in
theorem pic_numbers (b : Nat) (w : World) :
    Calls Try.prog 51 #[.pointer (some ⟨b, 0, none⟩)] w (NumsPost b [0, 1, 2] w) := by
  go_enter Try.func51, Try.ntmps51
  go_wp2
  go_still_tail 9, (by kernel_rfl)
  change wpList _ _ _ _ _ w.drew
  go_wp2
  go_ret
  exact ⟨some ⟨w.heap.size, 0, none⟩, 3, 3, rfl, rfl, rp_new (w := w.drew), (below_drew w).alloc (by simp) _⟩
set_option maxHeartbeats 1000000 in
set_option maxRecDepth 100000 in
theorem lay_conv (b : Nat) (w : World) (hc : w.cell? ⟨b, 0, none⟩ = some (.int .i64 1)) :
    Calls Try.prog 68 #[.pointer (some ⟨b, 0, none⟩)] w (NumsPost b [1, 2, 3] w) := by
  go_enter Try.func68, Try.ntmps68
  go_wp2
  go_still_tail 9, (by kernel_rfl)
  change wpList _ _ _ _ _ w.drew
  go_wp2
  go_ret
  exact ⟨some ⟨w.heap.size, 0, none⟩, 3, 3, rfl, rfl, rp_new (w := w.drew), (below_drew w).alloc (by simp) _⟩
set_option maxHeartbeats 1000000 in
theorem lay_pool (b : Nat) (w : World) (hc : w.cell? ⟨b, 0, none⟩ = some (.int .i64 3)) :
    Calls Try.prog 68 #[.pointer (some ⟨b, 0, none⟩)] w (NumsPost b [2] w) := by
  go_enter Try.func68, Try.ntmps68
  go_wp2
  go_ret
  exact ⟨some ⟨w.heap.size, 0, none⟩, 1, 1, rfl, rfl, rp_new (w := w), (Below.refl _ w).alloc (Nat.le_refl _) _⟩
set_option maxHeartbeats 1000000 in
theorem lay_dense (b : Nat) (w : World) (hc : w.cell? ⟨b, 0, none⟩ = some (.int .i64 4)) :
    Calls Try.prog 68 #[.pointer (some ⟨b, 0, none⟩)] w (NumsPost b [1] w) := by
  go_enter Try.func68, Try.ntmps68
  go_wp2
  go_ret
  exact ⟨some ⟨w.heap.size, 0, none⟩, 1, 1, rfl, rfl, rp_new (w := w), (Below.refl _ w).alloc (Nat.le_refl _) _⟩
set_option maxHeartbeats 1000000 in
theorem lay_none (k : Int) (b : Nat) (w : World) (hc : w.cell? ⟨b, 0, none⟩ = some (.int .i64 k)) (h1 : (k == 1) = false) (h3 : (k == 3) = false) (h4 : (k == 4) = false) :
    Calls Try.prog 68 #[.pointer (some ⟨b, 0, none⟩)] w (NumsPost b [] w) := by
  go_enter Try.func68, Try.ntmps68
  go_wp2
  go_ret
  exact ⟨none, 0, 0, rfl, rfl, fun h => absurd h (by simp), Below.refl _ _⟩
theorem ne_beq {a b : Int} (h : ¬ a = b) : (a == b) = false := by simpa using h
theorem lay_numbers (k : Int) (b : Nat) (w : World) (hc : w.cell? ⟨b, 0, none⟩ = some (.int .i64 k)) :
    Calls Try.prog 68 #[.pointer (some ⟨b, 0, none⟩)] w (NumsPost b (offs k) w) := by
  unfold offs
  by_cases h1 : k = 1
  · subst h1; rw [if_pos rfl]; exact lay_conv b w hc
  · rw [if_neg h1]
    by_cases h3 : k = 3
    · subst h3; rw [if_pos rfl]; exact lay_pool b w hc
    · rw [if_neg h3]
      by_cases h4 : k = 4
      · subst h4; rw [if_pos rfl]; exact lay_dense b w hc
      · rw [if_neg h4]; exact lay_none k b w hc (ne_beq h1) (ne_beq h3) (ne_beq h4)
/-- The numbers that pointers point to. -/
def valsAt (l : List Int) (os : List Nat) : List Int := os.map fun o => l.getD o 0
theorem win_lo {n : Int} (h : n < 0) : winB n = false := by unfold winB; have : decide (0 ≤ n) = false := by simp; omega
                                                            rw [this]; rfl
theorem win_hi {n : Int} (h : 999999 < n) : winB n = false := by unfold winB; have : decide (n ≤ 999999) = false := by simp; omega
                                                                 rw [this]; simp
theorem vals_len (l : List Int) (os : List Nat) : (valsAt l os).length = os.length := by simp [valsAt]
theorem vals_get {l : List Int} {os : List Nat} {k : Nat} (h : k < os.length) : (valsAt l os)[k]? = some (l.getD (os.getD k 0) 0) := by
  simp [valsAt, List.getD_eq_getElem?_getD, h]
theorem all_no {α : Type} {p : α → Bool} {xs : List α} {k : Nat} {x : α} (h : xs[k]? = some x) (hx : p x = false) : xs.all p = false := by
  rw [List.all_eq_false]; exact ⟨x, List.mem_of_getElem? h, by simp [hx]⟩
set_option maxHeartbeats 1000000 in
theorem numbers_within (F b T : Nat) (l : List Int) (os : List Nat) (w : World) (hI : IB w b T l) (ho : ∀ o ∈ os, o < l.length) (hlen : os.length ≤ 1000)
    (hE : ∀ args w, Sem.run Try.prog (callFunc F args) w = .ok (.enter F args) w)
    (hN : ∀ w, IB w b T l → Calls Try.prog F #[.pointer (some ⟨b, 0, none⟩)] w (NumsPost b os w)) :
    Calls Try.prog 50 #[.func (.func F) #[.pointer (some ⟨b, 0, none⟩)] #[]] w fun e w' => e = .returned (.bool ((valsAt l os).all winB)) ∧ Below w.heap.size w w' := by
  have HI := Lib.hid hI; have HO := Lib.hid ho; have HN := Lib.hid hN; clear hI ho hN
  go_enter Try.func50, Try.ntmps50
  go_wp2_with fail
  refine (HN.out w HI.out).mono ?_
  rintro e w1 ⟨A, k0, n, rfl, hn, hR, hb⟩
  have HR := Lib.hid hR; have HB := Lib.hid hb; have HL := Lib.hid hn
  have hn1 : n ≤ 1000 := by omega
  clear hR hb hn
  go_wp2_with fail
  go_loop [8] (fun i => ∃ k : Nat, k ≤ n ∧ i = .int .i64 k ∧ Hid (((valsAt l os).take k).all winB = true)) (fun i => n - (intOf i).toNat)
  case atStart => exact ⟨0, Nat.zero_le _, rfl, rfl⟩
  case round =>
    obtain ⟨k, hk, rfl, HA⟩ := hrel
    by_cases hlt : k < n
    · have hko : k < os.length := by rw [← HL.out]; exact hlt
      obtain ⟨g, rfl, _, hg⟩ := HR.out (by omega)
      have c1 := pc_cell hg hko
      obtain ⟨o, hoe⟩ : ∃ o, o = os.getD k 0 := ⟨_, rfl⟩
      have hom : o < l.length := HO.out o (by rw [hoe]; simp [List.getD_eq_getElem?_getD, hko])
      have c2 := (HI.out.below HB.out).cell hom
      obtain ⟨x, hxe⟩ : ∃ x, x = l.getD o 0 := ⟨_, rfl⟩
      have hv : (valsAt l os)[k]? = some x := by rw [vals_get hko, ← hoe, ← hxe]
      rw [← hoe] at c1
      rw [← hxe] at c2
      have HV := Lib.hid hv
      clear hv hoe hxe hg hom
      by_cases h0 : x < 0
      · have HW := Lib.hid (all_no HV.out (win_lo h0))
        have d0 : decide (x < 0) = true := by simpa using h0
        go_wp2_with fail
        go_ret
        exact ⟨ret_bool HW.out.symm, HB.out⟩
      · have d0 : decide (x < 0) = false := by simpa using h0
        by_cases h1 : 999999 < x
        · have HW := Lib.hid (all_no HV.out (win_hi h1))
          have d1 : decide (999999 < x) = true := by simpa using h1
          go_wp2_with fail
          go_ret
          exact ⟨ret_bool HW.out.symm, HB.out⟩
        · have d1 : decide (999999 < x) = false := by simpa using h1
          have HT : Hid (((valsAt l os).take (k + 1)).all winB = true) := by
            show _ = true
            rw [take_get HV.out, List.all_append, HA.out]; simp [win_mk (n := x) (by omega) (by omega)]
          go_wp2_with fail
          go_round
          case rel => exact ⟨k + 1, by omega, by go_num, HT⟩
          case measure => simp [intOf]; omega
    · obtain rfl : k = n := by omega
      have hall := HA.out
      rw [HL.out, ← vals_len l os, List.take_length] at hall
      have HW := Lib.hid hall
      clear hall
      go_wp2_with fail
      go_ret
      exact ⟨ret_bool HW.out.symm, HB.out⟩

end Go.Proofs.Ytklgjhldebdegaa
