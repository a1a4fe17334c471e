/-
  Appends onto rows of layers of the call's own, at a step of a region that draws its order, too; a network that is put together.
-/
import Derived.Test.YtbcmhoomdackkaaTurn
import Derived.Test.YtbcmhoomdackkaaFit2
import Derived.Test.YtbcmhoomdackkaaFacts
import Derived.Maps.AppendAt
import Derived.OwnWalk
import Derived.Deep.AppendLies
namespace Go.Proofs.Ytbcmhoomdackkaa
open Go.RowKit

theorem Try.info40 : (Try.prog.info? 40).map (fun i => (i.zero, i.size, i.bytes)) = some (some (.agg #[.int .i64 0, .int .i64 0, .int .i64 0, .int .i64 0]), 4, 32) := by kernel_rfl

def lcells (ls : List Ly) : List Value := ls.flatMap fun l => [.int .i64 l.k, .int .i64 l.o, .int .i64 l.s, .int .i64 l.t]
theorem lcells_get : ∀ {ls : List Ly} {j : Nat}, j < ls.length → ∀ i, i < 4 → (lcells ls)[j * 4 + i]? = [Value.int .i64 (ls.getD j Ly.z).k, .int .i64 (ls.getD j Ly.z).o, .int .i64 (ls.getD j Ly.z).s, .int .i64 (ls.getD j Ly.z).t][i]?
  | [], _, h, _, _ => by simp at h
  | l :: ls, 0, _, i, hi => by
    show ([Value.int .i64 l.k, .int .i64 l.o, .int .i64 l.s, .int .i64 l.t] ++ lcells ls)[0 * 4 + i]? = _
    rw [List.getElem?_append_left (by simp; omega), Nat.zero_mul, Nat.zero_add]; rfl
  | l :: ls, j + 1, h, i, hi => by
    show ([Value.int .i64 l.k, .int .i64 l.o, .int .i64 l.s, .int .i64 l.t] ++ lcells ls)[(j + 1) * 4 + i]? = _
    rw [List.getElem?_append_right (by simp; omega)]
    have := lcells_get (ls := ls) (j := j) (by simpa using h) i hi
    rw [show (j + 1) * 4 + i - [Value.int .i64 l.k, .int .i64 l.o, .int .i64 l.s, .int .i64 l.t].length = j * 4 + i by simp; omega, this]
    rfl
theorem own_rl {w : World} {B : Nat} {v : Value} {ls : List Ly} (h : w.ownsRow B 40 4 v ls.length (lcells ls)) : ∃ A c, v = .slice A ls.length c ∧ Rl w A ls := by
  rcases h.2 with ⟨hv, hn⟩ | ⟨g, cp, cur, hv, _, hh, _⟩
  · exact ⟨none, 0, by rw [hv, hn], fun h0 => absurd h0 (by omega)⟩
  · subst hv
    refine ⟨_, cp, rfl, fun _ => ⟨g, 0, rfl, (Array.getElem?_eq_some_iff.1 hh).1, fun j hj => ?_⟩⟩
    have key := lcells_get hj
    have cell : ∀ i, i < 4 → w.cell? ⟨g, 0 + j * 4 + i, none⟩ = [Value.int .i64 (ls.getD j Ly.z).k, .int .i64 (ls.getD j Ly.z).o, .int .i64 (ls.getD j Ly.z).s, .int .i64 (ls.getD j Ly.z).t][i]? := fun i hi => by
      have hk := key i hi
      obtain ⟨u, hu⟩ : ∃ u, (lcells ls)[j * 4 + i]? = some u := by
        rw [hk]
        match i, hi with
        | 0, _ => exact ⟨_, rfl⟩
        | 1, _ => exact ⟨_, rfl⟩
        | 2, _ => exact ⟨_, rfl⟩
        | 3, _ => exact ⟨_, rfl⟩
      have hc := h.cells (g := g) rfl (j * 4 + i) u hu
      rw [plain_add] at hc
      rw [← hk, hu, ← hc, Nat.add_assoc]
    exact ⟨cell 0 (by omega), cell 1 (by omega), cell 2 (by omega), cell 3 (by omega)⟩

theorem lcells_length (ls : List Ly) : (lcells ls).length = ls.length * 4 := by
  induction ls with
  | nil => rfl
  | cons l ls ih => show ([_, _, _, _] ++ lcells ls).length = _; rw [List.length_append, ih]; simp; omega
theorem lcells_append (xs ys : List Ly) : lcells (xs ++ ys) = lcells xs ++ lcells ys := by simp [lcells]
theorem lcells_one (ls : List Ly) : ∀ u ∈ lcells ls, u.oneCell' = true := fun u hu => by
  unfold lcells at hu
  obtain ⟨l, _, h⟩ := List.mem_flatMap.1 hu
  simp only [List.mem_cons, List.not_mem_nil, or_false] at h
  rcases h with rfl | rfl | rfl | rfl <;> rfl
theorem lay_cells {w : World} {b off : Nat} {ls : List Ly} (h : ∀ j, j < ls.length → LyAt w b (off + j * 4) (ls.getD j Ly.z)) : ∀ j u, (lcells ls)[j]? = some u → w.cell? ((⟨b, off, none⟩ : Addr).add j) = some u := fun j u hu => by
  have hj : j < ls.length * 4 := by
    have := (List.getElem?_eq_some_iff.1 hu).1
    rwa [lcells_length] at this
  have ha : (⟨b, off, none⟩ : Addr).add j = ⟨b, off + j, none⟩ := by unfold Addr.add; split <;> simp_all
  rw [ha]
  obtain ⟨q, r, hr, hq⟩ : ∃ q r, r < 4 ∧ j = q * 4 + r := ⟨j / 4, j % 4, Nat.mod_lt _ (by omega), by omega⟩
  subst hq
  have hL := h q (by omega)
  have hk := lcells_get (ls := ls) (j := q) (by omega) r hr
  rw [hu] at hk
  obtain ⟨c0, c1, c2, c3⟩ := hL
  match r, hr with
  | 0, _ => rw [show off + (q * 4 + 0) = off + q * 4 by omega, c0, hk]; rfl
  | 1, _ => rw [show off + (q * 4 + 1) = off + q * 4 + 1 by omega, c1, hk]; rfl
  | 2, _ => rw [show off + (q * 4 + 2) = off + q * 4 + 2 by omega, c2, hk]; rfl
  | 3, _ => rw [show off + (q * 4 + 3) = off + q * 4 + 3 by omega, c3, hk]; rfl

theorem append_nil_lay {w : World} {B n c : Nat} {v : Value} {us : List Value} (h : w.ownsRow B 40 4 v n us) (ty : TypeId) :
    (Builtin.append_ #[24, 24] ty #[v, .slice none 0 c]).run Try.prog w = .ok v w := by
  obtain ⟨i0, hi, hz0, hz1, hz2⟩ := info_parts Try.info40
  rcases h.2 with ⟨rfl, rfl⟩ | ⟨g, cap, cur, rfl, _, _, hnc, _⟩
  · simp [Builtin.append_, run_underlying Try.underlying24, sizeOf, typeInfo, hi, Builtin.lenOf, Builtin.firstCells]
  · simp [Builtin.append_, run_underlying Try.underlying24, sizeOf, typeInfo, hi, Builtin.lenOf, Builtin.firstCells, hnc, storeCells]
/-- What an append of a whole row onto one of the call's own comes to. -/
theorem append_lay {w : World} {B n m : Nat} {v : Value} {xs ys : List Ly} (ty : TypeId) (h : w.ownsRow B 40 4 v n (lcells xs)) (A : Option Addr) (c : Nat) (hy : Rl w A ys) (hm : m = ys.length) (hs : n + m ≤ 100000) (hB : B ≤ w.heap.size) :
    ∃ A' c' w', (Builtin.append_ #[24, 24] ty #[v, .slice A m c]).run Try.prog w = .ok (.slice A' (n + m) c') w' ∧ w'.ownsRow B 40 4 (.slice A' (n + m) c') (n + m) (lcells (xs ++ ys)) ∧ w.grownBy w' v.ownBlock ∧
      ((Value.slice A' (n + m) c').ownBlock = v.ownBlock ∨ (Value.slice A' (n + m) c').ownBlock = some w.heap.size) := by
  obtain ⟨i0, hi, hz0, hz1, hz2⟩ := info_parts Try.info40
  have form : ∀ {w' : World} {v' : Value} {k : Nat} {zs : List Value}, w'.ownsRow B 40 4 v' k zs → ∃ A' c', v' = .slice A' k c' := fun hh => by
    rcases hh.2 with ⟨hv, hn⟩ | ⟨g, cap, cur, hv, _⟩
    · exact ⟨none, 0, by rw [hv, hn]⟩
    · exact ⟨_, cap, hv⟩
  rcases A with _ | ad
  · have hy0 : ys = [] := by
      cases ys with
      | nil => rfl
      | cons y ys => obtain ⟨b, off, e, _⟩ := hy (by simp); cases e
    subst hy0
    obtain rfl : m = 0 := hm
    obtain ⟨A', c', rfl⟩ := form h
    exact ⟨A', c', w, append_nil_lay h ty, by rw [List.append_nil]; exact h, World.grownBy.refl _ _, .inl rfl⟩
  · have hcells : ∀ j u, (lcells ys)[j]? = some u → w.cell? (ad.add j) = some u := fun j u hu => by
      have hj := (List.getElem?_eq_some_iff.1 hu).1
      rw [lcells_length] at hj
      obtain ⟨b, off, e, _, hc⟩ := hy (by omega)
      obtain rfl := Option.some.inj e
      exact lay_cells hc j u hu
    obtain ⟨v', w', hrun, h2, h3, _, h5⟩ := run_append_own_at (P := Try.prog) w B 24 ty 40 i0 (.agg #[.int .i64 0, .int .i64 0, .int .i64 0, .int .i64 0]) 4 32 Try.underlying24 hi hz0 hz1 hz2 rfl (by decide) v n (lcells xs) h ad m c (lcells ys) (by rw [lcells_length, hm]) hcells (lcells_one ys) (by unfold maxLen; omega) (by omega) hB
    obtain ⟨A', c', rfl⟩ := form h2
    exact ⟨A', c', w', hrun, by rw [lcells_append]; exact h2, h3, h5⟩
/-- The same, at a step of a region that draws its order. -/
theorem step_lay {ops : Array Oper} {o : Oper} {a : Act} {w : World} {K : Act → World → Prop} {Q : Exit → Act → World → Prop} {E : Prop} (hgd : o.guard = none) (s x : Operand)
    (ho : o.op = .call { callee := .builtin .append, args := #[s, x], argTypes := #[24, 24] }) (B : Nat) (v : Value) (n : Nat) (xs : List Ly) (hs : a.eval s = v) (hown : w.ownsRow B 40 4 v n (lcells xs))
    (A : Option Addr) (m c : Nat) (ys : List Ly) (hx : a.eval x = .slice A m c) (hy : Rl w A ys) (hm : m = ys.length) (hz : n + m ≤ 100000) (hB : B ≤ w.heap.size)
    (h : ∀ A' c' w', w'.ownsRow B 40 4 (.slice A' (n + m) c') (n + m) (lcells (xs ++ ys)) → w.grownBy w' v.ownBlock → ((Value.slice A' (n + m) c').ownBlock = v.ownBlock ∨ (Value.slice A' (n + m) c').ownBlock = some w.heap.size) → K (a.put o.dst (.slice A' (n + m) c')) w') :
    if Region.wanted o (yielded ops a.tmps) = true then Oper.wp Try.prog o a w K Q else E := by
  have hw : Region.wanted o (yielded ops a.tmps) = true := by simp [Region.wanted, hgd]
  rw [if_pos hw]
  obtain ⟨A', c', w', hr, h1, h2, h3⟩ := append_lay o.type hown A c hy hm hz hB
  unfold Oper.wp execOp
  simp only [ho, resolve, invoke, builtin, Sem.run_bind, Sem.run_pure, Result.andThen_ok, List.map_toArray, List.map_cons, List.map_nil, hs, hx, hr]
  exact h A' c' w' h1 h2 h3

theorem step_lay0 {ops : Array Oper} {o : Oper} {a : Act} {w : World} {K : Act → World → Prop} {Q : Exit → Act → World → Prop} {E : Prop} (hgd : o.guard = none) (s x : Operand)
    (ho : o.op = .call { callee := .builtin .append, args := #[s, x], argTypes := #[24, 24] }) (B : Nat) (v : Value) (hs : a.eval s = v) (hown : w.ownsRow B 40 4 v 0 [])
    (A : Option Addr) (m c : Nat) (ys : List Ly) (hx : a.eval x = .slice A m c) (hy : Rl w A ys) (hm : m = ys.length) (hz : m ≤ 100000) (hB : B ≤ w.heap.size)
    (h : ∀ A' c' w', w'.ownsRow B 40 4 (.slice A' m c') m (lcells ys) → w.grownBy w' v.ownBlock → K (a.put o.dst (.slice A' m c')) w') :
    if Region.wanted o (yielded ops a.tmps) = true then Oper.wp Try.prog o a w K Q else E :=
  step_lay hgd s x ho B v 0 [] hs hown A m c ys hx hy hm (by omega) hB fun A' c' w' h1 h2 _ => by
    rw [Nat.zero_add] at h1 ⊢
    rw [List.nil_append] at h1
    exact h A' c' w' h1 h2

/-- Blocks that an append does not grow read as before. -/
theorem grow_cells {w w' : World} {row : Option Nat} (h : w.grownBy w' row) (k : Nat) (hk : k < w.heap.size) (hr : some k ≠ row) :
    (∀ o, w'.cell? ⟨k, o, none⟩ = w.cell? ⟨k, o, none⟩) ∧ (∀ o, w'.frozen? ⟨k, o, none⟩ = w.frozen? ⟨k, o, none⟩) :=
  ⟨fun o => h.cell_far ⟨k, o, none⟩ hk hr, fun o => h.frozen_far ⟨k, o, none⟩ hk hr⟩
theorem own_void {w : World} {B g e s : Nat} (h : w.heap[g]? = some (.cells #[] e (0, 0))) (hB : B ≤ g) : w.ownsRow B e s (.slice (some ⟨g, 0, none⟩) 0 0) 0 [] :=
  ⟨by simp, .inr ⟨g, 0, #[], rfl, hB, h, Nat.le_refl _, Nat.zero_le _, by simp, by simp⟩⟩
theorem grow_rule {w w' : World} {row : Option Nat} (h : w.grownBy w' row) : ∀ k o, k < w.heap.size → some k ≠ row → w'.cell? ⟨k, o, none⟩ = w.cell? ⟨k, o, none⟩ := fun k o hk hr => (grow_cells h k hk hr).1 o

/-! ### One, two and three new blocks -/
theorem two_size (W : World) (a b : Obj) : ((W.alloc a).alloc b).heap.size = W.heap.size + 2 := by simp
theorem three_size (W : World) (a b c : Obj) : (((W.alloc a).alloc b).alloc c).heap.size = W.heap.size + 3 := by simp
theorem two_new (W : World) (a b : Obj) : ((W.alloc a).alloc b).heap[W.heap.size + 1]? = some b := by
  have := heap_alloc_new (W.alloc a) b
  rwa [show (W.alloc a).heap.size = W.heap.size + 1 by simp] at this
theorem two_old (W : World) (a b : Obj) : ((W.alloc a).alloc b).heap[W.heap.size]? = some a := (Lib.alloc_old (W.alloc a) b _ (by simp)).trans (heap_alloc_new W a)
theorem three_new (W : World) (a b c : Obj) : (((W.alloc a).alloc b).alloc c).heap[W.heap.size + 1 + 1]? = some c := by
  have := two_new (W.alloc a) b c
  rwa [show (W.alloc a).heap.size = W.heap.size + 1 by simp] at this
theorem three_mid (W : World) (a b c : Obj) : (((W.alloc a).alloc b).alloc c).heap[W.heap.size + 1]? = some b := (Lib.alloc_old ((W.alloc a).alloc b) c _ (by simp)).trans (two_new W a b)
theorem three_old (W : World) (a b c : Obj) : (((W.alloc a).alloc b).alloc c).heap[W.heap.size]? = some a := (Lib.alloc_old ((W.alloc a).alloc b) c _ (by simp; omega)).trans (two_old W a b)
theorem void1 (W : World) (e s : Nat) : (W.alloc (.cells #[] e)).drew.ownsRow W.heap.size e s (.slice (some ⟨W.heap.size, 0, none⟩) 0 0) 0 [] := own_void (heap_alloc_new W _) (Nat.le_refl _)
theorem void2a (W : World) (e s : Nat) (b : Obj) : ((W.alloc (.cells #[] e)).alloc b).drew.ownsRow W.heap.size e s (.slice (some ⟨W.heap.size, 0, none⟩) 0 0) 0 [] := own_void (two_old W _ b) (Nat.le_refl _)
theorem void2b (W : World) (e s : Nat) (a : Obj) : ((W.alloc a).alloc (.cells #[] e)).drew.ownsRow W.heap.size e s (.slice (some ⟨W.heap.size + 1, 0, none⟩) 0 0) 0 [] := own_void (two_new W a _) (Nat.le_succ _)
theorem void3a (W : World) (e s : Nat) (b c : Obj) : (((W.alloc (.cells #[] e)).alloc b).alloc c).drew.ownsRow W.heap.size e s (.slice (some ⟨W.heap.size, 0, none⟩) 0 0) 0 [] := own_void (three_old W _ b c) (Nat.le_refl _)
theorem void3b (W : World) (e s : Nat) (a c : Obj) : (((W.alloc a).alloc (.cells #[] e)).alloc c).drew.ownsRow W.heap.size e s (.slice (some ⟨W.heap.size + 1, 0, none⟩) 0 0) 0 [] := own_void (three_mid W a _ c) (Nat.le_succ _)
theorem void3c (W : World) (e s : Nat) (a b : Obj) : (((W.alloc a).alloc b).alloc (.cells #[] e)).drew.ownsRow W.heap.size e s (.slice (some ⟨W.heap.size + 1 + 1, 0, none⟩) 0 0) 0 [] := own_void (three_new W a b _) (by omega)
theorem news1 (W : World) (a : Obj) : Below W.heap.size W (W.alloc a).drew := ((Below.refl _ W).alloc (Nat.le_refl _) _).drew
theorem news2 (W : World) (a b : Obj) : Below W.heap.size W ((W.alloc a).alloc b).drew := (((Below.refl _ W).alloc (Nat.le_refl _) _).alloc (by simp) _).drew
theorem news3 (W : World) (a b c : Obj) : Below W.heap.size W (((W.alloc a).alloc b).alloc c).drew := ((((Below.refl _ W).alloc (Nat.le_refl _) _).alloc (by simp) _).alloc (by simp; omega) _).drew

theorem ownL_ne {w : World} {B n z T : Nat} {v : Value} {xs : List Value} {cs : Array Value} (h : w.ownsRow B 40 4 v n xs) (hz : w.heap[z]? = some (.cells cs T (0, 0))) (hT : T ≠ 40) : some z ≠ v.ownBlock := fun he => by
  rcases h.2 with ⟨rfl, _⟩ | ⟨g, cap, cur, rfl, _, hh, _⟩
  · simp [Value.ownBlock] at he
  · have : z = g := by simpa [Value.ownBlock] using he
    subst this
    rw [hh] at hz
    cases hz
    exact hT rfl
theorem nb_grow {w w' : World} {B n z : Nat} {v u : Value} {xs : List Value} {c h x : Int} (hg : w.grownBy w' v.ownBlock) (ho : w.ownsRow B 40 4 v n xs) (hz : NB w z c h x u) : NB w' z c h x u :=
  (hg.block z hz.lt (ownL_ne ho hz (by decide))).trans hz
def QB (w : World) (g : Nat) (l : Ly) : Prop := w.heap[g]? = some (.cells #[.int .i64 l.k, .int .i64 l.o, .int .i64 l.s, .int .i64 l.t] 40 (0, 0))
theorem QB.alloc {w : World} {g : Nat} {l : Ly} (h : QB w g l) (o : Obj) : QB (w.alloc o) g l := (Lib.alloc_old w o g (Array.getElem?_eq_some_iff.1 h).1).trans h
theorem qb_new (w : World) (k o s t : Int) : QB (w.alloc (.cells #[.int .i64 k, .int .i64 o, .int .i64 s, .int .i64 t] 40)) w.heap.size ⟨k, o, s, t⟩ := heap_alloc_new w _
theorem qb_new2 (w : World) (b : Obj) (k o s t : Int) : QB ((w.alloc b).alloc (.cells #[.int .i64 k, .int .i64 o, .int .i64 s, .int .i64 t] 40)) (w.heap.size + 1) ⟨k, o, s, t⟩ := two_new w b _
theorem rl_q {w : World} {g : Nat} {l : Ly} (h : QB w g l) : Rl w (some ⟨g, 0, none⟩) [l] := fun _ =>
  ⟨g, 0, rfl, (Array.getElem?_eq_some_iff.1 h).1, fun j hj => by
    match j, hj with
    | 0, _ =>
      unfold LyAt
      rw [Lib.cell_of_heap h, Lib.cell_of_heap h, Lib.cell_of_heap h, Lib.cell_of_heap h]
      exact ⟨rfl, rfl, rfl, rfl⟩⟩
theorem qb_grow {w w' : World} {g e : Nat} {k : Nat} {l : Ly} (hg : w.grownBy w' (Value.slice (some ⟨e, 0, none⟩) 0 k).ownBlock) (hq : QB w g l) (hne : g ≠ e) : QB w' g l :=
  (hg.block g (Array.getElem?_eq_some_iff.1 hq).1 (by simp [Value.ownBlock]; exact hne)).trans hq
theorem NB.set4 {w : World} {b : Nat} {c h x c' h' x' : Int} {v v' : Value} (H : NB w b c h x v) :
    NB ((((w.setCell ⟨b, 0, none⟩ (.int .i64 c')).setCell ⟨b, 1, none⟩ (.int .i64 h')).setCell ⟨b, 2, none⟩ (.int .i64 x')).setCell ⟨b, 3, none⟩ v') b c' h' x' v' :=
  Lib.heap_setCell_same (i := 3) (Lib.heap_setCell_same (i := 2) (Lib.heap_setCell_same (i := 1) (Lib.heap_setCell_same (i := 0) H _) _) _) _
/-- What is left of a network that was put together. -/
def Made (W V : World) (z : Nat) (c h x : Int) (A : Option Addr) (m k : Nat) (ls : List Ly) : Prop := Below W.heap.size W V ∧ NB V z c h x (.slice A m k) ∧ Rl V A ls
theorem made_set {W w9 : World} {z : Nat} {c h x : Int} {A : Option Addr} {m k : Nat} {ls : List Ly} (hb : Below W.heap.size W w9) (hz : W.heap.size ≤ z) (ho : w9.ownsRow W.heap.size 40 4 (.slice A m k) m (lcells ls)) (hm : m = ls.length) (hn : NB w9 z 0 0 0 (.slice none 0 0)) :
    Made W ((((w9.setCell ⟨z, 0, none⟩ (.int .i64 c)).setCell ⟨z, 1, none⟩ (.int .i64 h)).setCell ⟨z, 2, none⟩ (.int .i64 x)).setCell ⟨z, 3, none⟩ (.slice A m k)) z c h x A m k ls := by
  refine ⟨(((hb.setCell (p := ⟨z, 0, none⟩) hz _).setCell (p := ⟨z, 1, none⟩) hz _).setCell (p := ⟨z, 2, none⟩) hz _).setCell (p := ⟨z, 3, none⟩) hz _, hn.set4, ?_⟩
  subst hm
  have hne := ownL_ne ho hn (by decide)
  have h2 : (((((w9.setCell ⟨z, 0, none⟩ (.int .i64 c)).setCell ⟨z, 1, none⟩ (.int .i64 h)).setCell ⟨z, 2, none⟩ (.int .i64 x)).setCell ⟨z, 3, none⟩ (.slice A ls.length k))).ownsRow W.heap.size 40 4 (.slice A ls.length k) ls.length (lcells ls) := by
    refine ⟨ho.1, ?_⟩
    rcases ho.2 with h0 | ⟨g, cap, cur, hv, hg, hh, rest⟩
    · exact .inl h0
    · refine .inr ⟨g, cap, cur, hv, hg, ?_, rest⟩
      have hgz : g ≠ z := fun e => hne (by rw [hv, e]; rfl)
      rw [Below.heap_setCell _ _ _ _ (by show g ≠ z; exact hgz), Below.heap_setCell _ _ _ _ (by show g ≠ z; exact hgz), Below.heap_setCell _ _ _ _ (by show g ≠ z; exact hgz), Below.heap_setCell _ _ _ _ (by show g ≠ z; exact hgz)]
      exact hh
  obtain ⟨A', k', hv, hR⟩ := own_rl h2
  cases hv
  exact hR
theorem made_new {W w9 : World} {c h x : Int} {A : Option Addr} {m k : Nat} {ls : List Ly} (hb : Below W.heap.size W w9) (ho : w9.ownsRow W.heap.size 40 4 (.slice A m k) m (lcells ls)) (hm : m = ls.length) :
    Made W (w9.alloc (.cells #[.int .i64 c, .int .i64 h, .int .i64 x, .slice A m k] 26)) w9.heap.size c h x A m k ls := by
  refine ⟨hb.alloc hb.size _, NB.new _ _ _ _ _, ?_⟩
  subst hm
  obtain ⟨A', k', hv, hR⟩ := own_rl ho
  cases hv
  exact Rl.below hR ((Below.refl _ w9).alloc (Nat.le_refl _) _)

end Go.Proofs.Ytbcmhoomdackkaa
