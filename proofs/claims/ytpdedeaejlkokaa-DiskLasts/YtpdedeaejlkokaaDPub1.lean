/-
  A disk of package disk in memory: sectors and writes as rows of whole bytes, and a map that tells which sectors are torn.
-/
import Derived.Test.YtpdedeaejlkokaaDRef7
import Derived.Deep.MidRow
import Derived.Deep.WholeRow
import Derived.Maps.OwnSet
namespace Go.Proofs.Ytpdedeaejlkokaa
open Go.RowKit

/-! ### Cells of sectors and writes -/
/-- Sixty-four bytes, whatever comes. -/
def s64 (l : List UInt8) : List UInt8 := (l ++ List.replicate 64 0).take 64
theorem s64_len (l : List UInt8) : (s64 l).length = 64 := by
  unfold s64
  rw [List.length_take, List.length_append, List.length_replicate]; omega
theorem s64_eq {l : List UInt8} (h : l.length = 64) : s64 l = l := by
  unfold s64
  rw [List.take_append_of_le_length (by omega), List.take_of_length_le (by omega)]
def scells (l : List UInt8) : List Value := (s64 l).flatMap bcells
theorem scells_len (l : List UInt8) : (scells l).length = 64 := by rw [scells, flat_len bcells_len, s64_len]
theorem scells_eq {l : List UInt8} (h : l.length = 64) : scells l = l.flatMap bcells := by rw [scells, s64_eq h]
theorem scells_one (l : List UInt8) : ∀ u ∈ scells l, u.oneCell' = true := fun u hu => by
  obtain ⟨x, _, hx⟩ := List.mem_flatMap.1 hu
  simp only [bcells, List.mem_cons, List.not_mem_nil, or_false] at hx
  rw [hx]; rfl
def wcells (x : Nat × List UInt8) : List Value := .int .i64 (x.1 : Int) :: scells x.2
theorem wcells_len (x : Nat × List UInt8) : (wcells x).length = 65 := by rw [wcells, List.length_cons, scells_len]
theorem wcells_one (x : Nat × List UInt8) : ∀ u ∈ wcells x, u.oneCell' = true := fun u hu => by
  rcases List.mem_cons.1 hu with rfl | h
  · rfl
  · exact scells_one _ u h

/-! ### Many cells at once -/
def setMany (cs : Array Value) : Nat → List Value → Array Value
  | _, [] => cs
  | o, v :: r => setMany (cs.setIfInBounds o v) (o + 1) r
theorem many_size : ∀ (vs : List Value) (o : Nat) (cs : Array Value), (setMany cs o vs).size = cs.size
  | [], _, _ => rfl
  | _ :: r, o, cs => by rw [setMany, many_size r, Array.size_setIfInBounds]
theorem many_list : ∀ (vs : List Value) (o : Nat) (cs : Array Value), o + vs.length ≤ cs.size → (setMany cs o vs).toList = cs.toList.take o ++ vs ++ cs.toList.drop (o + vs.length)
  | [], o, cs, _ => by simp [setMany]
  | v :: r, o, cs, h => by
    rw [List.length_cons] at h
    rw [setMany, many_list r (o + 1) _ (by rw [Array.size_setIfInBounds]; omega), Array.toList_setIfInBounds]
    have e1 : (cs.toList.set o v).take (o + 1) = cs.toList.take o ++ [v] := by
      rw [List.take_add_one, List.take_set_of_le (by omega), List.getElem?_set_self (by rw [Array.length_toList]; omega)]; rfl
    have e2 : (cs.toList.set o v).drop (o + 1 + r.length) = cs.toList.drop (o + (v :: r).length) := by
      rw [List.drop_set_of_lt (by omega), List.length_cons]; congr 1; omega
    rw [e1, e2]
    simp
theorem sets_other {b k : Nat} (h : k ≠ b) : ∀ (vs : List Value) (o : Nat) (w : World), (w.setCells b o vs).heap[k]? = w.heap[k]?
  | [], _, _ => rfl
  | v :: r, o, w => (sets_other h r (o + 1) (w.setCell ⟨b, o, none⟩ v)).trans (Below.heap_setCell w ⟨b, o, none⟩ v k h)
theorem sets_size (b : Nat) : ∀ (vs : List Value) (o : Nat) (w : World), (w.setCells b o vs).heap.size = w.heap.size
  | [], _, _ => rfl
  | _ :: r, o, _ => (sets_size b r (o + 1) _).trans (World.size_setCell _ _ _)
theorem sets_same {b T : Nat} {fr : Nat × Nat} : ∀ (vs : List Value) (o : Nat) (w : World) (cs : Array Value), w.heap[b]? = some (.cells cs T fr) → (w.setCells b o vs).heap[b]? = some (.cells (setMany cs o vs) T fr)
  | [], _, _, _, h => h
  | v :: r, o, _, _, h => sets_same r (o + 1) _ _ (Lib.heap_setCell_same h v)
theorem Kept.sets {B : Nat} {O : Nat → Prop} {w : World} {k : Nat} (hk : O k ∨ w.heap.size ≤ k) (hB : B ≤ k) : ∀ (vs : List Value) (o : Nat) (w' : World), Kept B O w w' → Kept B O w (w'.setCells k o vs)
  | [], _, _, h => h
  | v :: r, o, _, h => Kept.sets hk hB r (o + 1) _ (h.set hk hB v)
theorem flat_put {α : Type} {f : α → List Value} {m : Nat} (hf : ∀ x, (f x).length = m) (xs : List α) (i : Nat) (x : α) (hi : i < xs.length) :
    (xs.flatMap f).take (i * m) ++ f x ++ (xs.flatMap f).drop (i * m + m) = (xs.set i x).flatMap f := by
  have e : xs = xs.take i ++ (xs[i] :: xs.drop (i + 1)) := by rw [← List.drop_eq_getElem_cons hi, List.take_append_drop]
  have hl : ((xs.take i).flatMap f).length = i * m := by rw [flat_len hf, List.length_take, Nat.min_eq_left (by omega)]
  have e2 : xs.set i x = xs.take i ++ (x :: xs.drop (i + 1)) := by rw [List.set_eq_take_append_cons_drop, if_pos hi]
  rw [e2, List.flatMap_append, List.flatMap_cons]
  have e3 : xs.flatMap f = (xs.take i).flatMap f ++ (f xs[i] ++ (xs.drop (i + 1)).flatMap f) := by
    conv => lhs; rw [e]
    rw [List.flatMap_append, List.flatMap_cons]
  rw [e3, List.take_left' hl, List.append_assoc]
  congr 2
  rw [← List.append_assoc, List.drop_left' (by rw [List.length_append, hl, hf])]
/-- An element of a row of one's own is laid anew. -/
theorem own_put {α : Type} {f : α → List Value} {m : Nat} (hf : ∀ x, (f x).length = m) {w : World} {B e b n c : Nat} {xs : List α} (h : w.ownsRow B e m (.slice (some ⟨b, 0, none⟩) n c) n (xs.flatMap f)) {i : Nat} (hi : i < xs.length) (hm : 0 < m) (x : α) :
    (w.setCells b (i * m) (f x)).ownsRow B e m (.slice (some ⟨b, 0, none⟩) n c) n ((xs.set i x).flatMap f) := by
  have hl := h.1
  rw [flat_len hf] at hl
  have hn : n = xs.length := (Nat.eq_of_mul_eq_mul_right hm hl).symm
  rcases h.2 with ⟨hv, _⟩ | ⟨g, cp, cur, hv, hg, hh, h1, h2, h3, h4⟩
  · cases hv
  · injection hv with e1 e2 e3
    injection e1 with e1
    injection e1 with e1
    subst e1 e3
    have h5 : i * m + m ≤ n * m := by
      rw [← Nat.succ_mul]; exact Nat.mul_le_mul_right m (by omega)
    have h6 : n * m ≤ cur.size := by rw [h3]; exact Nat.mul_le_mul_right m h1
    refine ⟨by rw [flat_len hf, List.length_set, hn], .inr ⟨b, c, _, rfl, hg, sets_same _ _ _ _ hh, h1, h2, by rw [many_size]; exact h3, ?_⟩⟩
    rw [many_list _ _ _ (by rw [hf]; omega), hf, ← flat_put hf xs i x hi, ← h4, List.take_take, Nat.min_eq_left (by omega), List.drop_take, List.take_append, List.length_append, List.length_take, hf, Array.length_toList, Nat.min_eq_left (by omega), List.take_of_length_le (by rw [List.length_append, List.length_take, hf]; omega)]

/-! ### Which sectors are torn -/
theorem keyI : Maps.Keyed Try.prog 3 := Maps.int_keyed (q := .i64) (by kernel_rfl)
theorem mapT : Try.prog.underlying 54 = some (.map 3 4) := by kernel_rfl
theorem boolT : Try.prog.underlying 4 = some .bool := by kernel_rfl
theorem zeroQ (w : World) : (zeroValue 4).run Try.prog w = .ok (.bool false) w := (zero_of_info (n := 1) (by kernel_rfl)).1 w
theorem key_of (i : Nat) (h : i ≤ 100000) : keyOf Try.prog 3 (.int .i64 (i : Int)) = some (.int .i64 (i : Int)) := Maps.keyOf_int_mk (q := .i64) (by kernel_rfl) (WalkArith.wf_i64 (by omega))
theorem bool_inv {H : Type} {v : Value} {z : DataW H × List MemPlace} (h : plainElem Try.prog 4 v = some z) : ∃ x, v = .bool x ∧ z.1 = .lit (.bool x) := by
  unfold plainElem at h
  rw [boolT] at h
  cases v <;> simp at h
  rename_i x
  exact ⟨x, rfl, by rw [← h]⟩
theorem own_tight {H : Type} {P : Program} {k : TypeId} {R : Value → Option (DataW H × List MemPlace)} {w : World} {b n : Nat} {D : DataW H} (h : w.ownsMap P k R b n D) : w.ownsMap P k R b (Maps.size D) D := by
  obtain ⟨es, clock, hb, F, hs, rfl⟩ := h
  exact ⟨es, clock, hb, F, by rw [Maps.size_eq, length_sorted]; simp, rfl⟩
theorem count_on : ∀ (t : List Bool) (i : Nat), i < t.length → (t.set i true).count true = if t.getD i false then t.count true else t.count true + 1
  | [], i, h => by simp at h
  | x :: t, 0, _ => by cases x <;> simp
  | x :: t, i + 1, h => by
    have := count_on t i (by simpa using h)
    rw [List.set_cons_succ, List.count_cons, List.count_cons, this, List.getD_cons_succ]
    split <;> omega
theorem count_off : ∀ (t : List Bool) (i : Nat), i < t.length → (t.set i false).count true + (if t.getD i false then 1 else 0) = t.count true
  | [], i, h => by simp at h
  | x :: t, 0, _ => by cases x <;> simp
  | x :: t, i + 1, h => by
    have := count_off t i (by simpa using h)
    rw [List.set_cons_succ, List.count_cons, List.count_cons, List.getD_cons_succ]
    omega
theorem lit_ne {i j : Nat} (h : j ≠ i) : (Lit.int .i64 (j : Int)) ≠ Lit.int .i64 (i : Int) := fun e => by
  injection e with _ e
  omega
def TM (w : World) (m : Nat) (t : List Bool) : Prop :=
  ∃ D : DataW Unit, w.ownsMap Try.prog 3 (plainElem Try.prog 4) m (Maps.size D) D ∧ Maps.size D = t.count true ∧
    (∀ i : Nat, i < t.length → Maps.has D (.int .i64 (i : Int)) = t.getD i false) ∧ ∀ i : Nat, i < t.length → D.atKey (.int .i64 (i : Int)) (.lit (.bool false)) = .lit (.bool (t.getD i false))
theorem TM.stay {w w' : World} {m : Nat} {t : List Bool} (H : TM w m t) (h : w'.heap[m]? = w.heap[m]?) : TM w' m t := by
  obtain ⟨D, ⟨es, clock, hb, r⟩, r2⟩ := H
  exact ⟨D, ⟨es, clock, h.trans hb, r⟩, r2⟩
theorem TM.map {w : World} {m : Nat} {t : List Bool} (H : TM w m t) : ∃ es clock, w.heap[m]? = some (.map es clock) := by
  obtain ⟨D, ⟨es, clock, hb, r⟩, r2⟩ := H
  exact ⟨es, clock, hb⟩
theorem TM.new (w : World) (n : Nat) : TM (w.alloc (.map #[] 0)) w.heap.size (List.replicate n false) := by
  refine ⟨.map [], World.ownsMap_made _ _ _ _, ?_, fun i h => ?_, fun i h => ?_⟩
  · rw [List.count_replicate]; rfl
  · rw [List.length_replicate] at h
    simp [Maps.has, List.getD_eq_getElem?_getD, h]
  · rw [List.length_replicate] at h
    simp [DataW.atKey, List.getD_eq_getElem?_getD, h]
theorem TM.look {w : World} {m : Nat} {t : List Bool} (H : TM w m t) {i : Nat} (hi : i < t.length) (ht : t.length ≤ 100000) : (Instr.lookup 54 (.map (some m)) (.int .i64 (i : Int)) false).run Try.prog w = .ok (.bool (t.getD i false)) w := by
  obtain ⟨D, h1, h2, h3, h4⟩ := H
  obtain ⟨v, ps, hr, hv⟩ := h1.lookup keyI mapT (zeroQ w) (plainElem_bool boolT false) (key_of i (by omega))
  obtain ⟨x, rfl, hx⟩ := bool_inv hv
  rw [h4 i hi] at hx
  injection hx with hx
  injection hx with hx
  rw [hr, hx]
theorem TM.put {w : World} {m : Nat} {t : List Bool} (H : TM w m t) {i : Nat} (hi : i < t.length) (ht : t.length ≤ 100000) : ∃ w', (Instr.mapUpdate 54 (.map (some m)) (.int .i64 (i : Int)) (.bool true)).run Try.prog w = .ok () w' ∧ TM w' m (t.set i true) ∧ w.mapTurned w' m := by
  obtain ⟨D, h1, h2, h3, h4⟩ := H
  have hc : t.count true ≤ t.length := List.count_le_length
  obtain ⟨w', r, o, tn⟩ := h1.store keyI mapT (by rw [h2]; unfold maxLen; omega) (key_of i (by omega)) (plainElem_bool boolT true)
  have T1 := h1.tidy keyI
  refine ⟨w', r, ⟨_, own_tight o, ?_, fun j hj => ?_, fun j hj => ?_⟩, tn⟩
  · rw [Maps.size_put T1, h3 i hi, h2, count_on t i hi]
  · rw [List.length_set] at hj
    by_cases e : j = i
    · subst e
      rw [Maps.has_put_same T1.isMap (k := .int .i64 (j : Int)) True.intro, getD_set_eq _ _ _ hj]
    · rw [Maps.has_put_other (lit_ne e), h3 j hj, getD_set_ne _ _ _ (fun q => e q.symm)]
  · rw [List.length_set] at hj
    by_cases e : j = i
    · subst e
      rw [Maps.atKey_put_same T1.isMap (k := .int .i64 (j : Int)) True.intro, getD_set_eq _ _ _ hj]
    · rw [Maps.atKey_put_other (lit_ne e), h4 j hj, getD_set_ne _ _ _ (fun q => e q.symm)]
theorem TM.del {w : World} {m : Nat} {t : List Bool} (H : TM w m t) {i : Nat} (hi : i < t.length) (ht : t.length ≤ 100000) : ∃ w', (∀ ty, (Builtin.delete_ #[54, 3] ty #[.map (some m), .int .i64 (i : Int)]).run Try.prog w = .ok (.tuple #[]) w') ∧ TM w' m (t.set i false) ∧ w.mapTurned w' m := by
  obtain ⟨D, h1, h2, h3, h4⟩ := H
  have T1 := h1.tidy keyI
  obtain ⟨w', r, o, tn⟩ := h1.drop keyI mapT (key_of i (by omega)) 0
  refine ⟨w', fun ty => r, ⟨_, own_tight o, ?_, fun j hj => ?_, fun j hj => ?_⟩, tn⟩
  · have a := Maps.size_del (k := .int .i64 (i : Int)) T1
    have b := count_off t i hi
    rw [h3 i hi] at a
    omega
  · rw [List.length_set] at hj
    by_cases e : j = i
    · subst e
      rw [Maps.has_del_same, getD_set_eq _ _ _ hj]
    · rw [Maps.has_del_other (lit_ne e), h3 j hj, getD_set_ne _ _ _ (fun q => e q.symm)]
  · rw [List.length_set] at hj
    by_cases e : j = i
    · subst e
      rw [Maps.atKey_del_same, getD_set_eq _ _ _ hj]
    · rw [Maps.atKey_del_other (lit_ne e), h4 j hj, getD_set_ne _ _ _ (fun q => e q.symm)]
theorem turned_other {w w' : World} {m k : Nat} (h : w.mapTurned w' m) (hk : k ≠ m) : w'.heap[k]? = w.heap[k]? := by
  obtain ⟨es, clock, es', clock', hb, rfl⟩ := h
  exact ChangeMaps.heap_setBlock_other hb _ hk
theorem turned_size {w w' : World} {m : Nat} (h : w.mapTurned w' m) : w'.heap.size = w.heap.size := by
  obtain ⟨es, clock, es', clock', hb, rfl⟩ := h
  simp [ChangeMaps.setBlock]
theorem Kept.turned {B : Nat} {O : Nat → Prop} {w w' w'' : World} {m : Nat} (h : Kept B O w w') (g : w'.mapTurned w'' m) (hk : O m ∨ w.heap.size ≤ m) (hB : B ≤ m) (hs : B ≤ w'.heap.size) : Kept B O w w'' :=
  ⟨h.1.grown g.grown hs (fun k e => by cases e; exact hB), fun b hb hn => (turned_other g (fun e => by subst e; rcases hk with q | q; exact hn q; omega)).trans (h.2 b hb hn)⟩

end Go.Proofs.Ytpdedeaejlkokaa
