/-
  Rows and blocks in memory, and numbers of 64 bits: apart from any program.
-/
import Derived.Test.YtjokaaekliapmaaDoorRows
import Derived.WalkKit
import Derived.WalkSpells
import Derived.WalkLawsBesides
import Derived.WalkSmall
import Derived.OwnWalk
import Derived.Lib.Hide
import Derived.Laws.AppendOwn
import Derived.Lib.BufferMore
namespace Go.Proofs.YtjokaaekliapmaaDoor
open Go.RowKit

theorem chain {w W w1 : World} (h : Below w.heap.size w W) (hb : Below W.heap.size W w1) : Below w.heap.size w w1 := h.trans (hb.mono h.size)
theorem chain_alloc {w W : World} (h : Below w.heap.size w W) (o : Obj) : Below w.heap.size w (W.alloc o) := h.alloc h.size o
theorem chain_drewN {w W : World} (h : Below w.heap.size w W) (n : Nat) : Below w.heap.size w (W.drewN n) := ⟨h.os, h.tape, h.output, h.size, h.block⟩
theorem below_drew (w : World) : Below w.heap.size w w.drew := (Below.refl _ w).drew
theorem take_get {α : Type} {xs : List α} {k : Nat} {x : α} (h : xs[k]? = some x) : xs.take (k + 1) = xs.take k ++ [x] := by
  obtain ⟨hk, e⟩ := List.getElem?_eq_some_iff.1 h
  rw [List.take_succ_eq_append_getElem hk, e]
theorem next_i64 {k j n : Nat} (hj : j = k + 1) (h : k < n) (hn : n ≤ 100000) : IntKind.i64.wrap ((k : Int) + 1) = (j : Int) := by rw [IntWalk.i64_in _ (by omega)]; omega
theorem next_wrap {k j n : Nat} (hj : j = k + 1) (h : k < n) (hn : n ≤ 100000) : wrap64 ((k : Int) + 1) = (j : Int) := by rw [IntWalk.wrap64_in _ (by omega)]; omega
theorem plain_add (g j : Nat) : (⟨g, 0, none⟩ : Addr).add j = ⟨g, 0 + j, none⟩ := by unfold Addr.add; split <;> simp_all
theorem own_belowE {w w' : World} {B n e s : Nat} {v : Value} {xs : List Value} (h : w.ownsRow B e s v n xs) (hb : Below w.heap.size w w') : w'.ownsRow B e s v n xs := by
  refine ⟨h.1, ?_⟩
  rcases h.2 with h0 | ⟨g, cap, cur, hv, hg, hh, rest⟩
  · exact .inl h0
  · exact .inr ⟨g, cap, cur, hv, hg, (hb.block g (Array.getElem?_eq_some_iff.1 hh).1).trans hh, rest⟩
theorem own_same {w w' : World} {B n e s : Nat} {v : Value} {xs : List Value} (h : w.ownsRow B e s v n xs) (hb : ∀ g, B ≤ g → g < w.heap.size → w'.heap[g]? = w.heap[g]?) : w'.ownsRow B e s v n xs := by
  refine ⟨h.1, ?_⟩
  rcases h.2 with h0 | ⟨g, cap, cur, hv, hg, hh, rest⟩
  · exact .inl h0
  · exact .inr ⟨g, cap, cur, hv, hg, (hb g hg (Array.getElem?_eq_some_iff.1 hh).1).trans hh, rest⟩
theorem own_ne_type {w : World} {B n e s b T : Nat} {v : Value} {xs : List Value} {cs : Array Value} {fr : Nat × Nat} (h : w.ownsRow B e s v n xs) (hb : w.heap[b]? = some (.cells cs T fr)) (hT : T ≠ e) : some b ≠ v.ownBlock := fun he => by
  rcases h.2 with ⟨hv, _⟩ | ⟨g, cap, cur, hv, hg, hh, _⟩
  · rw [hv] at he; cases he
  · rw [hv] at he
    have : b = g := Option.some.inj he
    subst this
    rw [hb] at hh
    injection hh with hh
    injection hh with z1 z2 z3
    exact hT z2
theorem flat_len {α : Type} {f : α → List Value} {m : Nat} (hf : ∀ x, (f x).length = m) : ∀ xs : List α, (xs.flatMap f).length = xs.length * m
  | [] => by simp
  | x :: xs => by rw [List.flatMap_cons, List.length_append, flat_len hf xs, hf, List.length_cons, Nat.succ_mul]; omega
theorem flat_get {α : Type} {f : α → List Value} {m : Nat} (hf : ∀ x, (f x).length = m) : ∀ (xs : List α) (j r : Nat) (x : α), xs[j]? = some x → r < m → (xs.flatMap f)[j * m + r]? = (f x)[r]?
  | [], j, r, x, h, _ => by simp at h
  | y :: ys, 0, r, x, h, hr => by
    simp only [List.getElem?_cons_zero, Option.some.injEq] at h
    subst h
    rw [List.flatMap_cons, Nat.zero_mul, Nat.zero_add, List.getElem?_append_left (by rw [hf]; exact hr)]
  | y :: ys, j + 1, r, x, h, hr => by
    have e : (j + 1) * m + r = (f y).length + (j * m + r) := by rw [hf, Nat.succ_mul]; omega
    rw [List.flatMap_cons, e, List.getElem?_append_right (by omega), Nat.add_sub_cancel_left]
    exact flat_get hf ys j r x (by simpa using h) hr
/-- A slice's address, behind which the structs lie. -/
def Rg {α : Type} (f : α → List Value) (w : World) (A : Option Addr) (xs : List α) : Prop :=
  0 < xs.length → ∃ b off, A = some ⟨b, off, none⟩ ∧ b < w.heap.size ∧ ∀ j u, (xs.flatMap f)[j]? = some u → w.cell? ⟨b, off + j, none⟩ = some u
theorem Rg.nil {α : Type} (f : α → List Value) (w : World) (A : Option Addr) : Rg f w A [] := fun h => absurd h (by simp)
theorem Rg.below {α : Type} {f : α → List Value} {w w' : World} {A : Option Addr} {xs : List α} (h : Rg f w A xs) (hb : Below w.heap.size w w') : Rg f w' A xs := fun h0 => by
  obtain ⟨b, off, e, hlt, hc⟩ := h h0
  exact ⟨b, off, e, Nat.lt_of_lt_of_le hlt hb.size, fun j u hj => (hb.cell (p := ⟨b, off + j, none⟩) hlt).trans (hc j u hj)⟩
theorem Rg.alloc {α : Type} {f : α → List Value} {w : World} {A : Option Addr} {xs : List α} (h : Rg f w A xs) (o : Obj) : Rg f (w.alloc o) A xs :=
  h.below ((Below.refl _ w).alloc (Nat.le_refl _) o)
theorem Rg.at {α : Type} {f : α → List Value} {m : Nat} (hf : ∀ x, (f x).length = m) {w : World} {b off : Nat} {xs : List α}
    (h : ∀ j u, (xs.flatMap f)[j]? = some u → w.cell? ⟨b, off + j, none⟩ = some u) {k : Nat} {x : α} (hx : xs[k]? = some x) : ∀ r u, (f x)[r]? = some u → w.cell? ⟨b, off + k * m + r, none⟩ = some u := fun r u hu => by
  have hr : r < m := by rw [← hf x]; exact (List.getElem?_eq_some_iff.1 hu).1
  rw [Nat.add_assoc]
  exact h _ _ ((flat_get hf xs k r x hx hr).trans hu)
theorem Rg.kept {α : Type} {f : α → List Value} {w w' : World} {A : Option Addr} {xs : List α} (h : Rg f w A xs) (hb : ∀ b off, A = some ⟨b, off, none⟩ → 0 < xs.length → w'.heap[b]? = w.heap[b]?) : Rg f w' A xs := fun h0 => by
  obtain ⟨b, off, e, hlt, hc⟩ := h h0
  have q := hb b off e h0
  refine ⟨b, off, e, ?_, fun j u hj => (World.cell?_of_block (a := ⟨b, off + j, none⟩) q).trans (hc j u hj)⟩
  have : w'.heap[b]? = some w.heap[b] := by rw [q]; exact Array.getElem?_eq_getElem hlt
  exact (Array.getElem?_eq_some_iff.1 this).1
theorem cell_block {w : World} {b i : Nat} {v : Value} (h : w.cell? ⟨b, i, none⟩ = some v) : ∃ cs T fr, w.heap[b]? = some (.cells cs T fr) := by
  unfold World.cell? at h
  split at h
  · rename_i cs T fr ho; exact ⟨cs, T, fr, ho⟩
  · cases h
theorem own_rg {α : Type} {f : α → List Value} {m : Nat} (hf : ∀ x, (f x).length = m) (hm : 0 < m) {w : World} {B e n : Nat} {v : Value} {xs : List α} (h : w.ownsRow B e m v n (xs.flatMap f)) :
    ∃ A c, v = .slice A n c ∧ n = xs.length ∧ Rg f w A xs := by
  have hl := h.1
  rw [flat_len hf] at hl
  have hn : n = xs.length := (Nat.eq_of_mul_eq_mul_right hm hl).symm
  rcases h.2 with ⟨hv, h0⟩ | ⟨g, cp, cur, hv, _, hh, _, _, _, ht⟩
  · subst hv h0
    exact ⟨none, 0, rfl, hn, fun hp => absurd hp (by omega)⟩
  · subst hv
    refine ⟨_, cp, rfl, hn, fun _ => ⟨g, 0, rfl, (Array.getElem?_eq_some_iff.1 hh).1, fun j u hj => ?_⟩⟩
    rw [Nat.zero_add, Lib.cell_of_heap hh]
    rw [← ht] at hj
    have hj2 := hj
    rw [List.getElem?_take] at hj
    split at hj
    · rw [Array.getElem?_toList] at hj; exact hj
    · cases hj
theorem own_cap {α : Type} {f : α → List Value} {m : Nat} (hf : ∀ x, (f x).length = m) (hm : 0 < m) {w : World} {B e n : Nat} {v : Value} {xs : List α} (h : w.ownsRow B e m v n (xs.flatMap f)) :
    ∃ A c, v = .slice A n c ∧ n = xs.length ∧ Rg f w A xs ∧ n ≤ c ∧ c ≤ maxLen := by
  obtain ⟨A, c, hv, hn, hR⟩ := own_rg hf hm h
  refine ⟨A, c, hv, hn, hR, ?_⟩
  rcases h.2 with ⟨hv2, h0⟩ | ⟨g, cp, cur, hv2, _, _, h1, h2, _, _⟩
  · rw [hv2] at hv
    injection hv with a b c
    subst c
    exact ⟨by omega, Nat.zero_le _⟩
  · rw [hv2] at hv
    injection hv with a b c
    subst c
    exact ⟨h1, h2⟩
theorem own_new {w : World} {B e m n c n' : Nat} {A : Option Addr} {xs : List Value} (h : w.ownsRow B e m (.slice A n c) n' xs) : ∀ a, A = some a → B ≤ a.block := fun a ha => by
  rcases h.2 with ⟨hv, _⟩ | ⟨g, cp, cur, hv, hg, _⟩
  · injection hv with h1; rw [h1] at ha; cases ha
  · injection hv with h1; rw [h1] at ha; rw [← Option.some.inj ha]; exact hg
theorem own_kind {w : World} {B e m n c n' : Nat} {A : Option Addr} {xs : List Value} (h : w.ownsRow B e m (.slice A n c) n' xs) : ∀ a, A = some a → ∃ cs fr, w.heap[a.block]? = some (.cells cs e fr) := fun a ha => by
  rcases h.2 with ⟨hv, _⟩ | ⟨g, cp, cur, hv, hg, hh, _⟩
  · injection hv with h1; rw [h1] at ha; cases ha
  · injection hv with h1; rw [h1] at ha; rw [← Option.some.inj ha]; exact ⟨cur, _, hh⟩
theorem rg_block {α : Type} {f : α → List Value} {w : World} {g T : Nat} {fr : Nat × Nat} {cs : Array Value} {xs : List α} (h : w.heap[g]? = some (.cells cs T fr)) (e : cs.toList = xs.flatMap f) : Rg f w (some ⟨g, 0, none⟩) xs := fun _ =>
  ⟨g, 0, rfl, (Array.getElem?_eq_some_iff.1 h).1, fun j u hj => by
    rw [Nat.zero_add, Lib.cell_of_heap h, ← Array.getElem?_toList, e]; exact hj⟩
theorem new_cells {w : World} {cs : List Value} {T : Nat} : ∀ j u, cs[j]? = some u → (w.alloc (.cells cs.toArray T)).cell? ((⟨w.heap.size, 0, none⟩ : Addr).add j) = some u := fun j u hu => by
  rw [plain_add, Nat.zero_add, Lib.cell_of_heap (heap_alloc_new w _)]
  simpa using hu
/-- A variable of one cell. -/
def CB (w : World) (b T : Nat) (v : Value) : Prop := w.heap[b]? = some (.cells #[v] T (0, 0))
theorem CB.lt {w : World} {b T : Nat} {v : Value} (H : CB w b T v) : b < w.heap.size := (Array.getElem?_eq_some_iff.1 H).1
theorem CB.cell {w : World} {b T : Nat} {v : Value} (H : CB w b T v) : w.cell? ⟨b, 0, none⟩ = some v := by rw [Lib.cell_of_heap H]; rfl
theorem CB.frozen {w : World} {b T : Nat} {v : Value} (H : CB w b T v) : w.frozen? ⟨b, 0, none⟩ = false := Lib.frozen_of_heap H 0
theorem CB.below {w w' : World} {b T : Nat} {v : Value} (H : CB w b T v) (hb : Below w.heap.size w w') : CB w' b T v := (hb.block b H.lt).trans H
theorem CB.set {w : World} {b T : Nat} {v : Value} (H : CB w b T v) (u : Value) : CB (w.setCell ⟨b, 0, none⟩ u) b T u := Lib.heap_setCell_same (i := 0) H u
theorem CB.other {w : World} {b T : Nat} {v : Value} (H : CB w b T v) (a : Addr) (u : Value) (h : b ≠ a.block) : CB (w.setCell a u) b T v := (Below.heap_setCell w a u b h).trans H
/-- Terms, or places, that are handed out. -/
def RowTo {α : Type} (f : α → List Value) (xs : List α) (w : World) (e : Ending) (w' : World) : Prop :=
  ∃ (A : Option Addr) (k n : Nat), e = .returned (.slice A n k) ∧ n = xs.length ∧ Rg f w' A xs ∧ Below w.heap.size w w' ∧ n ≤ k ∧ k ≤ maxLen
/-- Terms, or places, that are handed out: a row of one's own. -/
def RowNew {α : Type} (f : α → List Value) (xs : List α) (w : World) (e : Ending) (w' : World) : Prop :=
  ∃ (A : Option Addr) (k n : Nat), e = .returned (.slice A n k) ∧ n = xs.length ∧ Rg f w' A xs ∧ Below w.heap.size w w' ∧ n ≤ k ∧ k ≤ maxLen ∧ ∀ a, A = some a → w.heap.size ≤ a.block
theorem RowNew.row {α : Type} {f : α → List Value} {xs : List α} {w w' : World} {e : Ending} (h : RowNew f xs w e w') : RowTo f xs w e w' := by
  obtain ⟨A, k, n, h1, h2, h3, h4, h5, h6, _⟩ := h
  exact ⟨A, k, n, h1, h2, h3, h4, h5, h6⟩
def icells (x : Int) : List Value := [.int .i64 x]
theorem icells_len (x : Int) : (icells x).length = 1 := rfl
theorem icells_one (x : Int) : ∀ u ∈ icells x, u.oneCell' = true := fun u hu => by
  simp only [icells, List.mem_cons, List.not_mem_nil, or_false] at hu
  subst hu; rfl
theorem tow_size : ∀ (os : List Obj) (w : World), (os.foldl World.alloc w).heap.size = w.heap.size + os.length
  | [], _ => rfl
  | o :: os, w => by rw [List.foldl_cons, tow_size os, World.size_alloc, List.length_cons]; omega
theorem tow_old : ∀ (os : List Obj) (w : World) (k : Nat), k < w.heap.size → (os.foldl World.alloc w).heap[k]? = w.heap[k]?
  | [], _, _, _ => rfl
  | o :: os, w, k, h => by rw [List.foldl_cons, tow_old os _ k (by rw [World.size_alloc]; omega)]; exact Lib.alloc_old w o k h
theorem tow_at : ∀ (os : List Obj) (w : World) (i : Nat) (o : Obj), os[i]? = some o → (os.foldl World.alloc w).heap[w.heap.size + i]? = some o
  | [], _, _, _, h => by simp at h
  | o :: os, w, 0, q, h => by
    simp at h; subst h
    rw [List.foldl_cons, tow_old os _ _ (by rw [World.size_alloc]; omega)]; exact heap_alloc_new w _
  | o :: os, w, i + 1, q, h => by
    rw [List.foldl_cons, show w.heap.size + (i + 1) = (w.alloc o).heap.size + i by rw [World.size_alloc]; omega]
    exact tow_at os _ i q (by simpa using h)
theorem tow_below : ∀ (os : List Obj) (w : World), Below w.heap.size w (os.foldl World.alloc w)
  | [], _ => Below.refl _ _
  | o :: os, w => chain ((Below.refl _ w).alloc (Nat.le_refl _) o) (tow_below os (w.alloc o))
/-- The number that a cell bears. -/
def uz (u : UInt64) : Int := (u.toNat : Int)
theorem uz_inj {x y : UInt64} (h : uz x = uz y) : x = y := by
  unfold uz at h
  exact UInt64.toNat_inj.1 (by omega)
theorem uz_lo (x : UInt64) : 0 ≤ uz x := by unfold uz; omega
theorem uz_hi (x : UInt64) : uz x < 18446744073709551616 := by
  unfold uz; have := x.toNat_lt; omega
theorem uz_add (x y : UInt64) : IntKind.u64.wrap (uz x + uz y) = uz (x + y) := by
  rw [IntKind.wrap_u64]; unfold uz; rw [UInt64.toNat_add]; omega
theorem uz_sub (x y : UInt64) : IntKind.u64.wrap (uz x - uz y) = uz (x - y) := by
  rw [IntKind.wrap_u64]; unfold uz; rw [UInt64.toNat_sub]
  have hx := x.toNat_lt; have hy := y.toNat_lt; omega
theorem uz_mul (x y : UInt64) : IntKind.u64.wrap (uz x * uz y) = uz (x * y) := by
  rw [IntKind.wrap_u64]; unfold uz; rw [UInt64.toNat_mul]; omega
theorem uz_beq (x y : UInt64) : (uz x == uz y) = (x == y) := by
  rw [Bool.eq_iff_iff, beq_iff_eq, beq_iff_eq]
  exact ⟨uz_inj, fun h => by rw [h]⟩
theorem uz_of {n : Int} (h0 : 0 ≤ n) (h1 : n < 18446744073709551616) : ∃ u : UInt64, n = uz u :=
  ⟨UInt64.ofNat n.toNat, by unfold uz; rw [UInt64.toNat_ofNat']; omega⟩
def ucells (u : UInt64) : List Value := [.int .u64 (uz u)]
theorem ucells_len (u : UInt64) : (ucells u).length = 1 := rfl
theorem ucells_one (x : UInt64) : ∀ u ∈ ucells x, u.oneCell' = true := fun u hu => by
  simp only [ucells, List.mem_cons, List.not_mem_nil, or_false] at hu
  subst hu; rfl

end Go.Proofs.YtjokaaekliapmaaDoor
