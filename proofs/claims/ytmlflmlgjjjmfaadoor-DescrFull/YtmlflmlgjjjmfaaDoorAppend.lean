/-
  Appends onto rows of the call's own: of texts, and of layers; at a step of a region that draws its order, too.
-/
import Derived.Test.YtmlflmlgjjjmfaaDoorLCut
import Derived.Maps.AppendAt
import Derived.OwnWalk
namespace Go.Proofs.YtmlflmlgjjjmfaaDoor
open Go.RowKit

theorem lcells_length (ls : List Ly) : (lcells ls).length = ls.length * 4 := by
  induction ls with
  | nil => rfl
  | cons l ls ih => show ([_, _, _, _] ++ lcells ls).length = _; rw [List.length_append, ih]; simp; omega
theorem lcells_append (xs ys : List Ly) : lcells (xs ++ ys) = lcells xs ++ lcells ys := by simp [lcells]
theorem lcells_one (ls : List Ly) : ∀ u ∈ lcells ls, u.oneCell' = true := fun u hu => by
  unfold lcells at hu
  obtain ⟨l, _, h⟩ := List.mem_flatMap.1 hu
  simp only [List.mem_cons, List.not_mem_nil, or_false] at h
  rcases h with rfl | rfl | rfl | rfl <;> rfl
theorem lay_cells {w : World} {b off : Nat} {ls : List Ly} (h : ∀ j, j < ls.length → LyAt w b (off + j * 4) (ls.getD j Ly.z)) : ∀ j u, (lcells ls)[j]? = some u → w.cell? ((⟨b, off, none⟩ : Addr).add j) = some u := fun j u hu => by
  have hj : j < ls.length * 4 := by
    have := (List.getElem?_eq_some_iff.1 hu).1
    rwa [lcells_length] at this
  have ha : (⟨b, off, none⟩ : Addr).add j = ⟨b, off + j, none⟩ := by unfold Addr.add; split <;> simp_all
  rw [ha]
  obtain ⟨q, r, hr, hq⟩ : ∃ q r, r < 4 ∧ j = q * 4 + r := ⟨j / 4, j % 4, Nat.mod_lt _ (by omega), by omega⟩
  subst hq
  have hL := h q (by omega)
  have hk := lcells_get (ls := ls) (j := q) (by omega) r hr
  rw [hu] at hk
  obtain ⟨c0, c1, c2, c3⟩ := hL
  match r, hr with
  | 0, _ => rw [show off + (q * 4 + 0) = off + q * 4 by omega, c0, hk]; rfl
  | 1, _ => rw [show off + (q * 4 + 1) = off + q * 4 + 1 by omega, c1, hk]; rfl
  | 2, _ => rw [show off + (q * 4 + 2) = off + q * 4 + 2 by omega, c2, hk]; rfl
  | 3, _ => rw [show off + (q * 4 + 3) = off + q * 4 + 3 by omega, c3, hk]; rfl

theorem append_nil_txt {w : World} {B n c : Nat} {v : Value} {us : List Value} (h : w.ownsRow B 9 1 v n us) (ty : TypeId) :
    (Builtin.append_ #[35, 35] ty #[v, .slice none 0 c]).run Tryd.prog w = .ok v w := by
  obtain ⟨i0, hi, hz0, hz1, hz2⟩ := info_parts Tryd.info9
  rcases h.2 with ⟨rfl, rfl⟩ | ⟨g, cap, cur, rfl, _, _, hnc, _⟩
  · simp [Builtin.append_, run_underlying Tryd.underlying35, sizeOf, typeInfo, hi, Builtin.lenOf, Builtin.firstCells]
  · simp [Builtin.append_, run_underlying Tryd.underlying35, sizeOf, typeInfo, hi, Builtin.lenOf, Builtin.firstCells, hnc, storeCells]
/-- What an append of a whole row onto one of the call's own comes to. -/
theorem append_txt {w : World} {B n m : Nat} {v : Value} {xs ys : List (List UInt8)} (ty : TypeId) (h : w.ownsRow B 9 1 v n (cellsOf xs)) (A : Option Addr) (c : Nat) (hy : Rd w A ys) (hm : m = ys.length) (hs : n + m ≤ 1000000) (hB : B ≤ w.heap.size) :
    ∃ A' c' w', (Builtin.append_ #[35, 35] ty #[v, .slice A m c]).run Tryd.prog w = .ok (.slice A' (n + m) c') w' ∧ w'.ownsRow B 9 1 (.slice A' (n + m) c') (n + m) (cellsOf (xs ++ ys)) ∧ w.grownBy w' v.ownBlock ∧
      ((Value.slice A' (n + m) c').ownBlock = v.ownBlock ∨ (Value.slice A' (n + m) c').ownBlock = some w.heap.size) := by
  obtain ⟨i0, hi, hz0, hz1, hz2⟩ := info_parts Tryd.info9
  have form : ∀ {w' : World} {v' : Value} {k : Nat} {zs : List Value}, w'.ownsRow B 9 1 v' k zs → ∃ A' c', v' = .slice A' k c' := fun hh => by
    rcases hh.2 with ⟨hv, hn⟩ | ⟨g, cap, cur, hv, _⟩
    · exact ⟨none, 0, by rw [hv, hn]⟩
    · exact ⟨_, cap, hv⟩
  rcases A with _ | ad
  · have hy0 : ys = [] := by
      cases ys with
      | nil => rfl
      | cons y ys => obtain ⟨b, off, e, _⟩ := hy (by simp); cases e
    subst hy0
    obtain rfl : m = 0 := hm
    obtain ⟨A', c', rfl⟩ := form h
    exact ⟨A', c', w, append_nil_txt h ty, by rw [List.append_nil]; exact h, World.grownBy.refl _ _, .inl rfl⟩
  · have hcells : ∀ j u, (cellsOf ys)[j]? = some u → w.cell? (ad.add j) = some u := fun j u hu => by
      have hj := (List.getElem?_eq_some_iff.1 hu).1
      rw [cellsOf_length] at hj
      obtain ⟨b, off, e, _, hc⟩ := hy (by omega)
      obtain rfl := Option.some.inj e
      exact Rd.cells hc j u hu
    obtain ⟨v', w', hrun, h2, h3, _, h5⟩ := run_append_own_at (P := Tryd.prog) w B 35 ty 9 i0 (.string ⟨#[]⟩) 1 16 Tryd.underlying35 hi hz0 hz1 hz2 rfl (by decide) v n (cellsOf xs) h ad m c (cellsOf ys) (by rw [cellsOf_length, hm]; simp) hcells (cells_one ys) (by unfold maxLen; omega) (by omega) hB
    obtain ⟨A', c', rfl⟩ := form h2
    exact ⟨A', c', w', hrun, by rw [cellsOf_append]; exact h2, h3, h5⟩
/-- The same, at a step of a region that draws its order. -/
theorem step_txt {ops : Array Oper} {o : Oper} {a : Act} {w : World} {K : Act → World → Prop} {Q : Exit → Act → World → Prop} {E : Prop} (hgd : o.guard = none) (s x : Operand)
    (ho : o.op = .call { callee := .builtin .append, args := #[s, x], argTypes := #[35, 35] }) (B : Nat) (v : Value) (n : Nat) (xs : List (List UInt8)) (hs : a.eval s = v) (hown : w.ownsRow B 9 1 v n (cellsOf xs))
    (A : Option Addr) (m c : Nat) (ys : List (List UInt8)) (hx : a.eval x = .slice A m c) (hy : Rd w A ys) (hm : m = ys.length) (hz : n + m ≤ 1000000) (hB : B ≤ w.heap.size)
    (h : ∀ A' c' w', w'.ownsRow B 9 1 (.slice A' (n + m) c') (n + m) (cellsOf (xs ++ ys)) → w.grownBy w' v.ownBlock → ((Value.slice A' (n + m) c').ownBlock = v.ownBlock ∨ (Value.slice A' (n + m) c').ownBlock = some w.heap.size) → K (a.put o.dst (.slice A' (n + m) c')) w') :
    if Region.wanted o (yielded ops a.tmps) = true then Oper.wp Tryd.prog o a w K Q else E := by
  have hw : Region.wanted o (yielded ops a.tmps) = true := by simp [Region.wanted, hgd]
  rw [if_pos hw]
  obtain ⟨A', c', w', hr, h1, h2, h3⟩ := append_txt o.type hown A c hy hm hz hB
  unfold Oper.wp execOp
  simp only [ho, resolve, invoke, builtin, Sem.run_bind, Sem.run_pure, Result.andThen_ok, List.map_toArray, List.map_cons, List.map_nil, hs, hx, hr]
  exact h A' c' w' h1 h2 h3

theorem append_nil_lay {w : World} {B n c : Nat} {v : Value} {us : List Value} (h : w.ownsRow B 42 4 v n us) (ty : TypeId) :
    (Builtin.append_ #[24, 24] ty #[v, .slice none 0 c]).run Tryd.prog w = .ok v w := by
  obtain ⟨i0, hi, hz0, hz1, hz2⟩ := info_parts Tryd.info42
  rcases h.2 with ⟨rfl, rfl⟩ | ⟨g, cap, cur, rfl, _, _, hnc, _⟩
  · simp [Builtin.append_, run_underlying Tryd.underlying24, sizeOf, typeInfo, hi, Builtin.lenOf, Builtin.firstCells]
  · simp [Builtin.append_, run_underlying Tryd.underlying24, sizeOf, typeInfo, hi, Builtin.lenOf, Builtin.firstCells, hnc, storeCells]
/-- What an append of a whole row onto one of the call's own comes to. -/
theorem append_lay {w : World} {B n m : Nat} {v : Value} {xs ys : List Ly} (ty : TypeId) (h : w.ownsRow B 42 4 v n (lcells xs)) (A : Option Addr) (c : Nat) (hy : Rl w A ys) (hm : m = ys.length) (hs : n + m ≤ 100000) (hB : B ≤ w.heap.size) :
    ∃ A' c' w', (Builtin.append_ #[24, 24] ty #[v, .slice A m c]).run Tryd.prog w = .ok (.slice A' (n + m) c') w' ∧ w'.ownsRow B 42 4 (.slice A' (n + m) c') (n + m) (lcells (xs ++ ys)) ∧ w.grownBy w' v.ownBlock ∧
      ((Value.slice A' (n + m) c').ownBlock = v.ownBlock ∨ (Value.slice A' (n + m) c').ownBlock = some w.heap.size) := by
  obtain ⟨i0, hi, hz0, hz1, hz2⟩ := info_parts Tryd.info42
  have form : ∀ {w' : World} {v' : Value} {k : Nat} {zs : List Value}, w'.ownsRow B 42 4 v' k zs → ∃ A' c', v' = .slice A' k c' := fun hh => by
    rcases hh.2 with ⟨hv, hn⟩ | ⟨g, cap, cur, hv, _⟩
    · exact ⟨none, 0, by rw [hv, hn]⟩
    · exact ⟨_, cap, hv⟩
  rcases A with _ | ad
  · have hy0 : ys = [] := by
      cases ys with
      | nil => rfl
      | cons y ys => obtain ⟨b, off, e, _⟩ := hy (by simp); cases e
    subst hy0
    obtain rfl : m = 0 := hm
    obtain ⟨A', c', rfl⟩ := form h
    exact ⟨A', c', w, append_nil_lay h ty, by rw [List.append_nil]; exact h, World.grownBy.refl _ _, .inl rfl⟩
  · have hcells : ∀ j u, (lcells ys)[j]? = some u → w.cell? (ad.add j) = some u := fun j u hu => by
      have hj := (List.getElem?_eq_some_iff.1 hu).1
      rw [lcells_length] at hj
      obtain ⟨b, off, e, _, hc⟩ := hy (by omega)
      obtain rfl := Option.some.inj e
      exact lay_cells hc j u hu
    obtain ⟨v', w', hrun, h2, h3, _, h5⟩ := run_append_own_at (P := Tryd.prog) w B 24 ty 42 i0 (.agg #[.int .i64 0, .int .i64 0, .int .i64 0, .int .i64 0]) 4 32 Tryd.underlying24 hi hz0 hz1 hz2 rfl (by decide) v n (lcells xs) h ad m c (lcells ys) (by rw [lcells_length, hm]) hcells (lcells_one ys) (by unfold maxLen; omega) (by omega) hB
    obtain ⟨A', c', rfl⟩ := form h2
    exact ⟨A', c', w', hrun, by rw [lcells_append]; exact h2, h3, h5⟩
/-- The same, at a step of a region that draws its order. -/
theorem step_lay {ops : Array Oper} {o : Oper} {a : Act} {w : World} {K : Act → World → Prop} {Q : Exit → Act → World → Prop} {E : Prop} (hgd : o.guard = none) (s x : Operand)
    (ho : o.op = .call { callee := .builtin .append, args := #[s, x], argTypes := #[24, 24] }) (B : Nat) (v : Value) (n : Nat) (xs : List Ly) (hs : a.eval s = v) (hown : w.ownsRow B 42 4 v n (lcells xs))
    (A : Option Addr) (m c : Nat) (ys : List Ly) (hx : a.eval x = .slice A m c) (hy : Rl w A ys) (hm : m = ys.length) (hz : n + m ≤ 100000) (hB : B ≤ w.heap.size)
    (h : ∀ A' c' w', w'.ownsRow B 42 4 (.slice A' (n + m) c') (n + m) (lcells (xs ++ ys)) → w.grownBy w' v.ownBlock → ((Value.slice A' (n + m) c').ownBlock = v.ownBlock ∨ (Value.slice A' (n + m) c').ownBlock = some w.heap.size) → K (a.put o.dst (.slice A' (n + m) c')) w') :
    if Region.wanted o (yielded ops a.tmps) = true then Oper.wp Tryd.prog o a w K Q else E := by
  have hw : Region.wanted o (yielded ops a.tmps) = true := by simp [Region.wanted, hgd]
  rw [if_pos hw]
  obtain ⟨A', c', w', hr, h1, h2, h3⟩ := append_lay o.type hown A c hy hm hz hB
  unfold Oper.wp execOp
  simp only [ho, resolve, invoke, builtin, Sem.run_bind, Sem.run_pure, Result.andThen_ok, List.map_toArray, List.map_cons, List.map_nil, hs, hx, hr]
  exact h A' c' w' h1 h2 h3

theorem step_lay0 {ops : Array Oper} {o : Oper} {a : Act} {w : World} {K : Act → World → Prop} {Q : Exit → Act → World → Prop} {E : Prop} (hgd : o.guard = none) (s x : Operand)
    (ho : o.op = .call { callee := .builtin .append, args := #[s, x], argTypes := #[24, 24] }) (B : Nat) (v : Value) (hs : a.eval s = v) (hown : w.ownsRow B 42 4 v 0 [])
    (A : Option Addr) (m c : Nat) (ys : List Ly) (hx : a.eval x = .slice A m c) (hy : Rl w A ys) (hm : m = ys.length) (hz : m ≤ 100000) (hB : B ≤ w.heap.size)
    (h : ∀ A' c' w', w'.ownsRow B 42 4 (.slice A' m c') m (lcells ys) → w.grownBy w' v.ownBlock → K (a.put o.dst (.slice A' m c')) w') :
    if Region.wanted o (yielded ops a.tmps) = true then Oper.wp Tryd.prog o a w K Q else E :=
  step_lay hgd s x ho B v 0 [] hs hown A m c ys hx hy hm (by omega) hB fun A' c' w' h1 h2 _ => by
    rw [Nat.zero_add] at h1 ⊢
    rw [List.nil_append] at h1
    exact h A' c' w' h1 h2

/-- Blocks that an append does not grow read as before. -/
theorem grow_cells {w w' : World} {row : Option Nat} (h : w.grownBy w' row) (k : Nat) (hk : k < w.heap.size) (hr : some k ≠ row) :
    (∀ o, w'.cell? ⟨k, o, none⟩ = w.cell? ⟨k, o, none⟩) ∧ (∀ o, w'.frozen? ⟨k, o, none⟩ = w.frozen? ⟨k, o, none⟩) :=
  ⟨fun o => h.cell_far ⟨k, o, none⟩ hk hr, fun o => h.frozen_far ⟨k, o, none⟩ hk hr⟩
theorem own_void {w : World} {B g e s : Nat} (h : w.heap[g]? = some (.cells #[] e (0, 0))) (hB : B ≤ g) : w.ownsRow B e s (.slice (some ⟨g, 0, none⟩) 0 0) 0 [] :=
  ⟨by simp, .inr ⟨g, 0, #[], rfl, hB, h, Nat.le_refl _, Nat.zero_le _, by simp, by simp⟩⟩
theorem rd_one {w : World} {g : Nat} {s : ByteArray} (h : w.cell? ⟨g, 0, none⟩ = some (.string s)) (hg : g < w.heap.size) : Rd w (some ⟨g, 0, none⟩) [bl s] := fun _ =>
  ⟨g, 0, rfl, hg, fun j hj => by
    match j, hj with
    | 0, _ => rw [show (0 + 0 : Nat) = 0 from rfl, h]; show _ = some (Value.string (ba (bl s))); rw [ba_bl]⟩
theorem cut_from (b1 o1 n cap j : Nat) (h1 : j ≤ n) (hcap : n ≤ cap) :
    ∃ A2 c2, (∀ w, (Instr.slice 35 (.slice (some ⟨b1, o1, none⟩) n cap) (some (.int .i64 (j : Int))) none none).run Tryd.prog w = .ok (.slice A2 (n - j) c2) w) ∧
      (∀ w xs, Rd w (some ⟨b1, o1, none⟩) xs → xs.length = n → Rd w A2 (xs.drop j)) := by
  by_cases hc : cap = j
  · subst hc
    obtain rfl : n = cap := by omega
    refine ⟨some ⟨b1, o1, none⟩, 0, fun w => by go_simp, fun w xs _ hl => ?_⟩
    rw [List.drop_of_length_le (by omega)]
    exact Rd.nil _ _
  · refine ⟨some ⟨b1, o1 + j, none⟩, cap - j, fun w => by first | (go_simp; done) | (go_simp; intro h; omega), fun w xs hR hl => ?_⟩
    have := hR.drop (k := j) (cap := cap) (by omega)
    have e : (some (⟨b1, o1, none⟩ : Addr)).map (·.add j) = some ⟨b1, o1 + j, none⟩ := by simp [Addr.add]
    rwa [if_neg hc, e] at this

theorem grow_rule {w w' : World} {row : Option Nat} (h : w.grownBy w' row) : ∀ k o, k < w.heap.size → some k ≠ row → w'.cell? ⟨k, o, none⟩ = w.cell? ⟨k, o, none⟩ := fun k o hk hr => (grow_cells h k hk hr).1 o

/-! ### One, two and three new blocks -/
theorem two_size (W : World) (a b : Obj) : ((W.alloc a).alloc b).heap.size = W.heap.size + 2 := by simp
theorem three_size (W : World) (a b c : Obj) : (((W.alloc a).alloc b).alloc c).heap.size = W.heap.size + 3 := by simp
theorem two_new (W : World) (a b : Obj) : ((W.alloc a).alloc b).heap[W.heap.size + 1]? = some b := by
  have := heap_alloc_new (W.alloc a) b
  rwa [show (W.alloc a).heap.size = W.heap.size + 1 by simp] at this
theorem two_old (W : World) (a b : Obj) : ((W.alloc a).alloc b).heap[W.heap.size]? = some a := (Lib.alloc_old (W.alloc a) b _ (by simp)).trans (heap_alloc_new W a)
theorem three_new (W : World) (a b c : Obj) : (((W.alloc a).alloc b).alloc c).heap[W.heap.size + 1 + 1]? = some c := by
  have := two_new (W.alloc a) b c
  rwa [show (W.alloc a).heap.size = W.heap.size + 1 by simp] at this
theorem three_mid (W : World) (a b c : Obj) : (((W.alloc a).alloc b).alloc c).heap[W.heap.size + 1]? = some b := (Lib.alloc_old ((W.alloc a).alloc b) c _ (by simp)).trans (two_new W a b)
theorem three_old (W : World) (a b c : Obj) : (((W.alloc a).alloc b).alloc c).heap[W.heap.size]? = some a := (Lib.alloc_old ((W.alloc a).alloc b) c _ (by simp; omega)).trans (two_old W a b)
theorem void1 (W : World) (e s : Nat) : (W.alloc (.cells #[] e)).drew.ownsRow W.heap.size e s (.slice (some ⟨W.heap.size, 0, none⟩) 0 0) 0 [] := own_void (heap_alloc_new W _) (Nat.le_refl _)
theorem void2a (W : World) (e s : Nat) (b : Obj) : ((W.alloc (.cells #[] e)).alloc b).drew.ownsRow W.heap.size e s (.slice (some ⟨W.heap.size, 0, none⟩) 0 0) 0 [] := own_void (two_old W _ b) (Nat.le_refl _)
theorem void2b (W : World) (e s : Nat) (a : Obj) : ((W.alloc a).alloc (.cells #[] e)).drew.ownsRow W.heap.size e s (.slice (some ⟨W.heap.size + 1, 0, none⟩) 0 0) 0 [] := own_void (two_new W a _) (Nat.le_succ _)
theorem void3a (W : World) (e s : Nat) (b c : Obj) : (((W.alloc (.cells #[] e)).alloc b).alloc c).drew.ownsRow W.heap.size e s (.slice (some ⟨W.heap.size, 0, none⟩) 0 0) 0 [] := own_void (three_old W _ b c) (Nat.le_refl _)
theorem void3b (W : World) (e s : Nat) (a c : Obj) : (((W.alloc a).alloc (.cells #[] e)).alloc c).drew.ownsRow W.heap.size e s (.slice (some ⟨W.heap.size + 1, 0, none⟩) 0 0) 0 [] := own_void (three_mid W a _ c) (Nat.le_succ _)
theorem void3c (W : World) (e s : Nat) (a b : Obj) : (((W.alloc a).alloc b).alloc (.cells #[] e)).drew.ownsRow W.heap.size e s (.slice (some ⟨W.heap.size + 1 + 1, 0, none⟩) 0 0) 0 [] := own_void (three_new W a b _) (by omega)
theorem news1 (W : World) (a : Obj) : Below W.heap.size W (W.alloc a).drew := ((Below.refl _ W).alloc (Nat.le_refl _) _).drew
theorem news2 (W : World) (a b : Obj) : Below W.heap.size W ((W.alloc a).alloc b).drew := (((Below.refl _ W).alloc (Nat.le_refl _) _).alloc (by simp) _).drew
theorem news3 (W : World) (a b c : Obj) : Below W.heap.size W (((W.alloc a).alloc b).alloc c).drew := ((((Below.refl _ W).alloc (Nat.le_refl _) _).alloc (by simp) _).alloc (by simp; omega) _).drew

end Go.Proofs.YtmlflmlgjjjmfaaDoor
