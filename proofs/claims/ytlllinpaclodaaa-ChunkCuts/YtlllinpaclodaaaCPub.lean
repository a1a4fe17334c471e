/-
  What package chunk answers: Gather.
-/
import Derived.Test.YtlllinpaclodaaaCPub5
import Derived.Deep.DeepCutAuto
import Derived.RegionTactic
namespace Go.Proofs.Ytlllinpaclodaaa
open Go.RowKit

theorem chain_drew {w W : World} (h : Below w.heap.size w W) : Below w.heap.size w W.drew := h.drew
/-- How many places have no number. -/
def lackN (f : Nat → Option UInt64) : Nat → Nat
  | 0 => 0
  | m + 1 => lackN f m + if (f m).isNone then 1 else 0
theorem lack_le (f : Nat → Option UInt64) : ∀ m, lackN f m ≤ m
  | 0 => Nat.le_refl _
  | m + 1 => by
    have := lack_le f m
    unfold lackN; split <;> omega
theorem lack_congr {f g : Nat → Option UInt64} : ∀ {m : Nat}, (∀ j, j < m → f j = g j) → lackN f m = lackN g m
  | 0, _ => rfl
  | m + 1, h => by
    unfold lackN
    rw [lack_congr (m := m) (fun j hj => h j (by omega)), h m (by omega)]
theorem lack_none : ∀ m, lackN (fun _ => none) m = m
  | 0 => rfl
  | m + 1 => by unfold lackN; rw [lack_none m]; rfl
theorem lack_zero {f : Nat → Option UInt64} : ∀ {m : Nat}, lackN f m = 0 ↔ ∀ j, j < m → f j ≠ none
  | 0 => ⟨fun _ j hj => absurd hj (by omega), fun _ => rfl⟩
  | m + 1 => by
    unfold lackN
    constructor
    · intro h j hj
      by_cases e : j = m
      · subst e
        intro hn
        rw [hn] at h; simp at h
      · exact (lack_zero (m := m)).1 (by omega) j (by omega)
    · intro h
      rw [lack_zero.2 (fun j hj => h j (by omega))]
      have := h m (by omega)
      cases q : f m with
      | none => exact absurd q this
      | some x => rfl
def putF (f : Nat → Option UInt64) (p : Nat) (x : UInt64) : Nat → Option UInt64 := fun j => if j = p then some x else f j
theorem lack_put {f : Nat → Option UInt64} {p : Nat} {x : UInt64} : ∀ {m : Nat}, p < m → f p = none → lackN (putF f p x) m + 1 = lackN f m
  | 0, h, _ => absurd h (by omega)
  | m + 1, h, hn => by
    unfold lackN
    by_cases e : p = m
    · subst e
      rw [lack_congr (f := putF f p x) (g := f) (fun j hj => if_neg (by omega)), hn]
      unfold putF
      rw [if_pos rfl]; rfl
    · have := lack_put (x := x) (m := m) (by omega) hn
      have e2 : putF f p x m = f m := if_neg (by omega)
      rw [e2]; omega
/-- Both rows of Gather: numbers, and whether they are there. -/
def GV (w : World) (o h m : Nat) (f : Nat → Option UInt64) : Prop :=
  (∃ cs : Array Value, w.heap[o]? = some (.cells cs 40 (0, 0)) ∧ cs.size = m ∧ ∀ j, j < m → cs[j]? = some (.int .u64 (uz ((f j).getD 0)))) ∧
  (∃ ds : Array Value, w.heap[h]? = some (.cells ds 4 (0, 0)) ∧ ds.size = m ∧ ∀ j, j < m → ds[j]? = some (.bool (f j).isSome))
theorem GV.congr {w : World} {o h m : Nat} {f g : Nat → Option UInt64} (H : GV w o h m f) (e : ∀ j, j < m → f j = g j) : GV w o h m g := by
  obtain ⟨⟨cs, a1, a2, a3⟩, ds, b1, b2, b3⟩ := H
  exact ⟨⟨cs, a1, a2, fun j hj => by rw [← e j hj]; exact a3 j hj⟩, ds, b1, b2, fun j hj => by rw [← e j hj]; exact b3 j hj⟩
theorem GV.lt {w : World} {o h m : Nat} {f : Nat → Option UInt64} (H : GV w o h m f) : o < w.heap.size ∧ h < w.heap.size := by
  obtain ⟨⟨cs, a1, _⟩, ds, b1, _⟩ := H
  exact ⟨(Array.getElem?_eq_some_iff.1 a1).1, (Array.getElem?_eq_some_iff.1 b1).1⟩
theorem GV.ne {w : World} {o h m : Nat} {f : Nat → Option UInt64} (H : GV w o h m f) : o ≠ h := by
  obtain ⟨⟨cs, a1, _⟩, ds, b1, _⟩ := H
  rintro rfl
  rw [a1] at b1
  injection b1 with b1
  injection b1 with z1 z2 z3
  revert z2; decide
theorem GV.below {w w' : World} {o h m : Nat} {f : Nat → Option UInt64} (H : GV w o h m f) (hb : Below w.heap.size w w') : GV w' o h m f := by
  obtain ⟨l1, l2⟩ := H.lt
  obtain ⟨⟨cs, a1, a2⟩, ds, b1, b2⟩ := H
  exact ⟨⟨cs, (hb.block o l1).trans a1, a2⟩, ds, (hb.block h l2).trans b1, b2⟩
theorem GV.drew {w : World} {o h m : Nat} {f : Nat → Option UInt64} (H : GV w o h m f) : GV w.drew o h m f := H
theorem GV.facts {w : World} {o h m : Nat} {f : Nat → Option UInt64} (H : GV w o h m f) {p : Nat} (hp : p < m) :
    w.cell? ⟨o, p, none⟩ = some (.int .u64 (uz ((f p).getD 0))) ∧ w.cell? ⟨h, p, none⟩ = some (.bool (f p).isSome) ∧ w.frozen? ⟨o, p, none⟩ = false ∧ w.frozen? ⟨h, p, none⟩ = false := by
  obtain ⟨⟨cs, a1, a2, a3⟩, ds, b1, b2, b3⟩ := H
  exact ⟨by rw [Lib.cell_of_heap a1]; exact a3 p hp, by rw [Lib.cell_of_heap b1]; exact b3 p hp, Lib.frozen_of_heap a1 p, Lib.frozen_of_heap b1 p⟩
theorem GV.put {w : World} {o h m : Nat} {f : Nat → Option UInt64} (H : GV w o h m f) {p : Nat} (hp : p < m) (x : UInt64) :
    GV ((w.setCell ⟨o, p, none⟩ (.int .u64 (uz x))).setCell ⟨h, p, none⟩ (.bool true)) o h m (putF f p x) := by
  have ne := H.ne
  obtain ⟨⟨cs, a1, a2, a3⟩, ds, b1, b2, b3⟩ := H
  have c1 : (w.setCell ⟨o, p, none⟩ (.int .u64 (uz x))).heap[o]? = _ := Lib.heap_setCell_same (i := p) a1 (.int .u64 (uz x))
  have c2 : (w.setCell ⟨o, p, none⟩ (.int .u64 (uz x))).heap[h]? = some (.cells ds 4 (0, 0)) := (Below.heap_setCell w ⟨o, p, none⟩ (.int .u64 (uz x)) h (fun e => ne e.symm)).trans b1
  refine ⟨⟨_, (Below.heap_setCell _ ⟨h, p, none⟩ (.bool true) o ne).trans c1, by rw [Array.size_setIfInBounds]; exact a2, fun j hj => ?_⟩, _, Lib.heap_setCell_same (i := p) c2 (.bool true), by rw [Array.size_setIfInBounds]; exact b2, fun j hj => ?_⟩
  · unfold putF
    by_cases e : j = p
    · subst e
      rw [if_pos rfl, Array.getElem?_setIfInBounds_self_of_lt (by omega)]; rfl
    · rw [if_neg e, Array.getElem?_setIfInBounds_ne (by omega)]; exact a3 j hj
  · unfold putF
    by_cases e : j = p
    · subst e
      rw [if_pos rfl, Array.getElem?_setIfInBounds_self_of_lt (by omega)]; rfl
    · rw [if_neg e, Array.getElem?_setIfInBounds_ne (by omega)]; exact b3 j hj
theorem GV.made1 (w : World) (m : Nat) : GV ((w.alloc (.cells (madeCells #[.int .u64 0] m) 40)).alloc (.cells (madeCells #[.bool false] m) 4)) w.heap.size (w.heap.size + 1) m (fun _ => none) := by
  refine ⟨⟨_, (Lib.alloc_old _ _ _ (by rw [World.size_alloc]; omega)).trans (heap_alloc_new w _), size_madeCells _ _, fun j hj => ?_⟩, ⟨_, by have := heap_alloc_new (w.alloc (.cells (madeCells #[.int .u64 0] m) 40)) (.cells (madeCells #[.bool false] m) 4); rw [World.size_alloc] at this; exact this, size_madeCells _ _, fun j hj => ?_⟩⟩
  · simp [madeCells, hj, Nat.mod_one]; rfl
  · simp [madeCells, hj, Nat.mod_one]
theorem GV.made2 (w : World) (m : Nat) : GV ((w.alloc (.cells (madeCells #[.bool false] m) 4)).alloc (.cells (madeCells #[.int .u64 0] m) 40)) (w.heap.size + 1) w.heap.size m (fun _ => none) := by
  refine ⟨⟨_, by have := heap_alloc_new (w.alloc (.cells (madeCells #[.bool false] m) 4)) (.cells (madeCells #[.int .u64 0] m) 40); rw [World.size_alloc] at this; exact this, size_madeCells _ _, fun j hj => ?_⟩, ⟨_, (Lib.alloc_old _ _ _ (by rw [World.size_alloc]; omega)).trans (heap_alloc_new w _), size_madeCells _ _, fun j hj => ?_⟩⟩
  · simp [madeCells, hj, Nat.mod_one]; rfl
  · simp [madeCells, hj, Nat.mod_one]
theorem GV.row {w : World} {o h m : Nat} {f : Nat → Option UInt64} (H : GV w o h m f) {us : List UInt64} (hl : us.length = m) (hu : ∀ j, j < m → us[j]? = some ((f j).getD 0)) : Rg ucells w (some ⟨o, 0, none⟩) us := fun _ => by
  obtain ⟨⟨cs, a1, a2, a3⟩, _⟩ := H
  refine ⟨o, 0, rfl, (Array.getElem?_eq_some_iff.1 a1).1, fun j u hj => ?_⟩
  rw [Nat.zero_add, Lib.cell_of_heap a1]
  rw [uflat_get] at hj
  obtain ⟨y, hy, rfl⟩ := Option.map_eq_some_iff.1 hj
  have hm := (List.getElem?_eq_some_iff.1 hy).1
  rw [hu j (by omega)] at hy
  rw [a3 j (by omega), ← Option.some.inj hy]
/-- What a chunk's first numbers say of a position. -/
def hasI (i : Nat) (q : Int) (b : List UInt8) : Option UInt64 := if okGet b = true ∧ (posC b : Int) ≤ q ∧ q < posC b + i then (listC b)[(q - posC b).toNat]? else none
theorem hasI_all (q : Int) (b : List UInt8) : hasI (manyC b) q b = hasC q b := rfl
theorem hasI_no {b : List UInt8} (h : okGet b = false) (i : Nat) (q : Int) : hasI i q b = none := if_neg (fun z => by rw [h] at z; exact absurd z.1 (by decide))
theorem hasI_zero (q : Int) (b : List UInt8) : hasI 0 q b = none := if_neg (fun z => by omega)
theorem hasI_here {b : List UInt8} (i : Nat) {q : Int} (h : q = posC b + i) : hasI i q b = none := if_neg (fun z => by omega)
theorem hasI_next {b : List UInt8} (ok : okGet b = true) {i : Nat} {x : UInt64} (hx : (listC b)[i]? = some x) (q : Int) : hasI (i + 1) q b = if q = posC b + i then some x else hasI i q b := by
  unfold hasI
  by_cases e : q = posC b + i
  · rw [if_pos e, if_pos ⟨ok, by omega, by omega⟩, ← hx, show (q - (posC b : Int)).toNat = i by omega]
  · rw [if_neg e]
    by_cases c : (posC b : Int) ≤ q ∧ q < posC b + i
    · rw [if_pos ⟨ok, by omega, by omega⟩, if_pos ⟨ok, by omega, by omega⟩]
    · rw [if_neg (fun z => c ⟨by omega, by omega⟩), if_neg (fun z => c ⟨by omega, by omega⟩)]
theorem num_snoc {q : Int} {bss : List (List UInt8)} {k : Nat} {b : List UInt8} (hb : bss[k]? = some b) : numC q (bss.take (k + 1)) = (numC q (bss.take k)).or (hasC q b) := by
  unfold numC
  rw [take_get hb, List.findSome?_append]
  simp
/-- What is known behind so many chunks, and so many numbers of the next one. -/
def kn14 (a : Int) (bss : List (List UInt8)) (k : Nat) (b : List UInt8) (i : Nat) : Nat → Option UInt64 := fun j => (numC (a + (j : Int)) (bss.take k)).or (hasI i (a + (j : Int)) b)
theorem kn_zero (a : Int) (bss : List (List UInt8)) (k : Nat) (b : List UInt8) (j : Nat) : numC (a + (j : Int)) (bss.take k) = kn14 a bss k b 0 j := by
  unfold kn14; rw [hasI_zero, Option.or_none]
theorem kn_skip {a : Int} {bss : List (List UInt8)} {k : Nat} {b : List UInt8} (ok : okGet b = true) {i : Nat} {x : UInt64} (hx : (listC b)[i]? = some x) {m : Nat} (h : ∀ j, j < m → a + (j : Int) = posC b + i → kn14 a bss k b i j ≠ none) (j : Nat) (hj : j < m) : kn14 a bss k b i j = kn14 a bss k b (i + 1) j := by
  have hq := h j hj
  unfold kn14 at hq ⊢
  rw [hasI_next ok hx]
  by_cases e : a + (j : Int) = posC b + i
  · have := hq e
    rw [hasI_here i e, Option.or_none] at this ⊢
    cases n : numC (a + (j : Int)) (bss.take k) with
    | none => exact absurd n this
    | some v => rfl
  · rw [if_neg e]
theorem kn_put {a : Int} {bss : List (List UInt8)} {k : Nat} {b : List UInt8} (ok : okGet b = true) {i : Nat} {x : UInt64} (hx : (listC b)[i]? = some x) {p : Nat} (hp : a + (p : Int) = posC b + i) (hn : kn14 a bss k b i p = none) (j : Nat) : putF (kn14 a bss k b i) p x j = kn14 a bss k b (i + 1) j := by
  unfold putF
  unfold kn14 at hn ⊢
  rw [hasI_next ok hx]
  by_cases e : j = p
  · subst e
    rw [if_pos rfl, if_pos hp]
    rw [hasI_here i hp, Option.or_none] at hn
    rw [hn]; rfl
  · rw [if_neg e, if_neg (by omega)]
theorem kn_done {a : Int} {bss : List (List UInt8)} {k : Nat} {b : List UInt8} (hb : bss[k]? = some b) {n : Nat} (hn : n = (getL b).length) (j : Nat) : kn14 a bss k b n j = numC (a + (j : Int)) (bss.take (k + 1)) := by
  rw [num_snoc hb]
  unfold kn14
  congr 1
  by_cases ok : okGet b = true
  · rw [hn, (get_yes ok).2, list_len, hasI_all]
  · have ok : okGet b = false := by simpa using ok
    rw [hasI_no ok, has_junk ok]
theorem num_pos {q : Int} {bss : List (List UInt8)} (h : numC q bss ≠ none) : 0 ≤ q ∧ q ≤ 65535 := by
  unfold numC at h
  rw [Ne, List.findSome?_eq_none_iff] at h
  obtain ⟨b, hb⟩ := Classical.not_forall.1 h
  obtain ⟨_, hn⟩ := Classical.not_imp.1 hb
  unfold hasC at hn
  split at hn
  · rename_i z
    have := (ok_get.1 z.1).2.2.2
    omega
  · exact absurd rfl hn

theorem Try.infoO : (Try.prog.info? 4).map (fun i => (i.zero, i.size, i.bytes)) = some (some (.bool false), 1, 1) := by kernel_rfl

set_option maxHeartbeats 4000000 in
set_option maxRecDepth 100000 in
theorem gather14 (a m : Int) (A : Option Addr) (cA n : Nat) (bss : List (List UInt8)) (w : World) (hx : BR w A bss) (lx : n = bss.length) (hn : n ≤ 1000000) (hl : ∀ b ∈ bss, b.length ≤ 1000000) (ia : I64 a := by first | assumption | exact I64.pos _ | exact I64.small (by omega) (by omega)) :
    Calls Try.prog 14 #[.int .i64 a, .int .i64 m, .slice A n cA] w (GaTo a m bss w) := by
  have HX := Lib.hid hx; have LX := Lib.hid lx; have HL := Lib.hid hl
  have NO : Hid (¬ (0 ≤ m ∧ m ≤ 4096 ∧ (m ≤ 0 ∨ 0 ≤ a ∧ a ≤ 65535) ∧ ∀ i : Nat, i < m.toNat → numC (a + (i : Int)) bss ≠ none) → okGa a m bss = false ∧ gaL a m bss = []) := ga_no
  clear hx lx hl
  by_cases h0 : m < 0
  · have d0 : decide (m < 0) = true := decide_eq_true h0
    have E := Lib.hid (NO.out (fun z => by omega))
    clear h0 NO
    go_enter Try.func14, Try.ntmps14
    go_wp2_with fail
    go_ret2
    exact ⟨none, 0, 0, by rw [E.out.1]; rfl, by rw [E.out.2]; rfl, by rw [E.out.2]; exact Rg.nil _ _ _, Below.refl _ _, Nat.le_refl _, Nat.zero_le _⟩
  have d0 : decide (m < 0) = false := decide_eq_false h0
  by_cases h1 : 4096 < m
  · have d1 : decide (4096 < m) = true := decide_eq_true h1
    have E := Lib.hid (NO.out (fun z => by omega))
    clear h0 h1 NO
    go_enter Try.func14, Try.ntmps14
    go_wp2_with fail
    go_ret2
    exact ⟨none, 0, 0, by rw [E.out.1]; rfl, by rw [E.out.2]; rfl, by rw [E.out.2]; exact Rg.nil _ _ _, Below.refl _ _, Nat.le_refl _, Nat.zero_le _⟩
  have d1 : decide (4096 < m) = false := decide_eq_false h1
  obtain ⟨M, rfl⟩ : ∃ M : Nat, m = M := ⟨m.toNat, by omega⟩
  have d0' : decide ((M : Int) < 0) = false := decide_eq_false (by omega)
  have d1' : decide (4096 < M) = false := decide_eq_false (by omega)
  have M4 : M ≤ 4096 := by omega
  have hmk : ∀ w : World, (Instr.makeSlice 22 (.int .i64 (M : Int)) (.int .i64 (M : Int))).run Try.prog w = .ok (.slice (some ⟨w.heap.size, 0, none⟩) M M) (w.alloc (.cells (madeCells #[.int .u64 0] M) 40)) := fun w => by
    obtain ⟨i0, hi, hz0, hz1, hz2⟩ := info_parts Try.info40
    have := run_make (P := Try.prog) w 22 40 i0 _ Try.underlying22 hi hz0 .i64 .i64 (M : Int) (M : Int) (by omega) (Int.le_refl _) (by rw [hz2]; omega) (by omega)
    rw [hz1, Nat.mul_one] at this
    exact this
  have hmb : ∀ w : World, (Instr.makeSlice 48 (.int .i64 (M : Int)) (.int .i64 (M : Int))).run Try.prog w = .ok (.slice (some ⟨w.heap.size, 0, none⟩) M M) (w.alloc (.cells (madeCells #[.bool false] M) 4)) := fun w => by
    obtain ⟨i0, hi, hz0, hz1, hz2⟩ := info_parts Try.infoO
    have := run_make (P := Try.prog) w 48 4 i0 _ Try.underlying48 hi hz0 .i64 .i64 (M : Int) (M : Int) (by omega) (Int.le_refl _) (by rw [hz2]; omega) (by omega)
    rw [hz1, Nat.mul_one] at this
    exact this
  clear h0 h1
  go_enter Try.func14, Try.ntmps14
  go_upto_region 3 with fail
  go_cut [8, 9, 10] (fun s8 s9 s10 wx => ∃ o h : Nat, s8 = .slice (some ⟨o, 0, none⟩) M M ∧ s9 = .slice (some ⟨h, 0, none⟩) M M ∧ s10 = .int .i64 (M : Int) ∧ Hid (GV wx o h M (fun _ => none)) ∧ Hid (Below w.heap.size w wx) ∧ Hid (w.heap.size ≤ o ∧ w.heap.size ≤ h))
  case first =>
    go_wp2_with fail
    go_region
    all_goals (go_wp2_with fail; go_meet)
    all_goals first
      | exact ⟨w.heap.size, w.heap.size + 1, rfl, rfl, rfl, (GV.made1 w M).drew, chain_drew (chain_alloc (chain_alloc (Below.refl _ _) _) _), by show _ ∧ _; omega⟩
      | exact ⟨w.heap.size + 1, w.heap.size, rfl, rfl, rfl, (GV.made2 w M).drew, chain_drew (chain_alloc (chain_alloc (Below.refl _ _) _) _), by show _ ∧ _; omega⟩
  case rest =>
    obtain ⟨o, h, rfl, rfl, rfl, G0, B0, OH⟩ := hcut
    go_wp2_with fail
    go_loopg [10, 32] n (fun gh s10 s32 wr => ∃ k : Nat, k ≤ n ∧ Hid (gh = n - k) ∧ s32 = .int .i64 (k : Int) ∧ s10 = .int .i64 (lackN (fun j => numC (a + (j : Int)) (bss.take k)) M : Int) ∧ Hid (GV wr o h M (fun j => numC (a + (j : Int)) (bss.take k))) ∧ Hid (Below w.heap.size w wr))
    case atStart => exact ⟨0, Nat.zero_le _, by show _ = _; omega, rfl, by rw [show (fun j : Nat => numC (a + (j : Int)) (bss.take 0)) = fun _ => none from rfl, lack_none], G0, B0⟩
    case round =>
      obtain ⟨k, hk, HG, rfl, rfl, GK, BK⟩ := hrel
      by_cases kn : k < n
      · obtain ⟨b, gb⟩ : ∃ b, bss[k]? = some b := ⟨_, List.getElem?_eq_getElem (by rw [← LX.out]; exact kn)⟩
        obtain ⟨b1, o1, hd, rfl, l1, hc, HB1⟩ := HX.out.get gb
        have c1 := (BK.out.cell (p := ⟨b1, o1 + k, none⟩) l1).trans hc
        obtain ⟨hA, hn0, hc0⟩ := hd
        dsimp only at c1
        have HBB := Lib.hid HB1
        have BL : b.length ≤ 1000000 := HL.out b (List.mem_of_getElem? gb)
        have CG : Hid (∀ w', Rg bcells w' hA b → Calls Try.prog 12 #[.slice hA hn0 hc0] w' (GetNew b w')) := fun w' h => get14n hA hc0 hn0 b w' h HB1.1 (by have := HB1.1; simp only at this; omega) HB1.2.1
        have KN := Lib.hid kn
        have GB := Lib.hid gb
        have ki : (k : Int) < (n : Int) := by omega
        have ka : (0 : Int) ≤ (k : Int) := by omega
        obtain ⟨L, hL⟩ : ∃ L, L = lackN (fun j => numC (a + (j : Int)) (bss.take k)) M := ⟨_, rfl⟩
        rw [← hL]
        have L0 : Hid (L = lackN (kn14 a bss k b 0) M) := by
          show _ = _
          rw [hL]
          exact lack_congr (fun j _ => kn_zero a bss k b j)
        clear hc HB1 gb BL kn hL
        go_wp2_with fail
        refine (CG.out _ (HBB.out.2.2.below BK.out)).mono ?_
        rintro e w2 ⟨A2, k2, n2, rfl, h1, h2, hb, h4, h5, h6⟩
        have AN : Hid (∀ x, A2 = some x → x.block ≠ o ∧ x.block ≠ h) := fun x hx => by
          have := h6 x hx
          have := GK.out.lt
          omega
        have M2 := Lib.hid h1; have R2 := Lib.hid h2
        have B2 := Lib.hid (chain BK.out hb)
        have G2 : Hid (GV w2 o h M (kn14 a bss k b 0)) := (GK.out.below hb).congr (fun j _ => kn_zero a bss k b j)
        have N6 : n2 ≤ 6 := by rw [h1]; exact getl_max b
        obtain ⟨p, hp⟩ : ∃ p, p = getP b := ⟨_, rfl⟩
        have P0 : 0 ≤ p ∧ p ≤ 65535 := by
          rw [hp]
          by_cases ok : okGet b = true
          · rw [(get_yes ok).1]
            have := pos_lt ok
            omega
          · rw [(get_no (by simpa using ok)).1]; omega
        have HP := Lib.hid hp
        obtain ⟨P1, P2⟩ := P0
        rw [← hp]
        have I1 := ia.out.1
        have I2 := ia.out.2
        clear h1 h2 h4 h5 h6 hb c1 l1 BK GK hp
        go_wp2_with fail
        go_loopg [10, 44] n2 (fun gh s10 s44 wx => ∃ i : Nat, i ≤ n2 ∧ Hid (gh = n2 - i) ∧ s44 = .int .i64 (i : Int) ∧ s10 = .int .i64 (lackN (kn14 a bss k b i) M : Int) ∧ Hid (GV wx o h M (kn14 a bss k b i)) ∧ Hid (Below w.heap.size w wx) ∧ Hid (∀ g, g ≠ o → g ≠ h → wx.heap[g]? = w2.heap[g]?))
        case atStart => exact ⟨0, Nat.zero_le _, by show _ = _; omega, rfl, by rw [L0.out], G2, B2, fun _ _ _ => rfl⟩
        case round =>
          obtain ⟨i, hi, HG2, rfl, rfl, GX, BX, KX⟩ := hrel
          obtain ⟨D, hD⟩ : ∃ D, D = lackN (kn14 a bss k b i) M := ⟨_, rfl⟩
          have DM : D ≤ M := by rw [hD]; exact lack_le _ _
          have HD := Lib.hid hD
          rw [← hD]
          clear hD
          by_cases i2 : i < n2
          · have ok : okGet b = true := by
              by_cases ok : okGet b = true
              · exact ok
              · have := M2.out
                rw [(get_no (by simpa using ok)).2] at this
                simp at this; omega
            obtain ⟨e1, e2⟩ := get_yes ok
            have R3 := R2.out
            have M3 := M2.out
            rw [e2] at R3 M3
            have PB : p = (posC b : Int) := by rw [HP.out, e1]
            obtain ⟨x, gx⟩ : ∃ x, (listC b)[i]? = some x := ⟨_, List.getElem?_eq_getElem (by rw [← M3]; exact i2)⟩
            obtain ⟨b2, o2, rfl, l2, c2⟩ := R3 (by rw [← M3]; omega)
            have c3 : wr.cell? ⟨b2, o2 + i, none⟩ = some (.int .u64 (uz x)) := (World.cell?_of_block (a := ⟨b2, o2 + i, none⟩) (KX.out b2 (AN.out _ rfl).1 (AN.out _ rfl).2)).trans (su_cell c2 gx)
            have ii : (i : Int) < (n2 : Int) := by omega
            have i0 : (0 : Int) ≤ (i : Int) := by omega
            obtain ⟨q, hq⟩ : ∃ q, q = IntKind.i64.wrap (p + (i : Int) - a) := ⟨_, rfl⟩
            have QF : Hid (∀ j : Nat, j < M → (a + (j : Int) = (posC b : Int) + i ↔ q = j)) := fun j hj => by
              rw [hq, IntKind.wrap_i64]
              omega
            have w1 : IntKind.i64.wrap (p + (i : Int) - a) = q := hq.symm
            have w2' : wrap64 (p + (i : Int) - a) = q := by rw [← IntWalk.i64_left]; exact w1
            have OKX := Lib.hid ok; have GXX := Lib.hid gx; have I2H := Lib.hid i2
            clear hq e1 e2 R3 M3 PB gx c2 l2 ok
            by_cases q0 : q < 0
            · have dq : decide (q < 0) = true := decide_eq_true q0
              have S1 : Hid (∀ j, j < M → kn14 a bss k b i j = kn14 a bss k b (i + 1) j) := kn_skip OKX.out GXX.out (fun j hj z => absurd ((QF.out j hj).1 z) (by omega))
              have G3 : Hid (GV wr o h M (kn14 a bss k b (i + 1))) := GX.out.congr S1.out
              have D3 : Hid (D = lackN (kn14 a bss k b (i + 1)) M) := HD.out.trans (lack_congr S1.out)
              clear q0 i2
              go_wp2_with fail
              go_roundg (n2 - (i + 1))
              case measure => have := HG2.out; have := I2H.out; omega
              case rel => exact ⟨i + 1, by have := I2H.out; omega, rfl, by go_num, by rw [D3.out], G3, BX, KX⟩
            · have dq : decide (q < 0) = false := decide_eq_false q0
              by_cases q1 : (M : Int) ≤ q
              · have dM : decide ((M : Int) ≤ q) = true := decide_eq_true q1
                have S1 : Hid (∀ j, j < M → kn14 a bss k b i j = kn14 a bss k b (i + 1) j) := kn_skip OKX.out GXX.out (fun j hj z => absurd ((QF.out j hj).1 z) (by omega))
                have G3 : Hid (GV wr o h M (kn14 a bss k b (i + 1))) := GX.out.congr S1.out
                have D3 : Hid (D = lackN (kn14 a bss k b (i + 1)) M) := HD.out.trans (lack_congr S1.out)
                clear q0 q1 i2
                go_wp2_with fail
                go_roundg (n2 - (i + 1))
                case measure => have := HG2.out; have := I2H.out; omega
                case rel => exact ⟨i + 1, by have := I2H.out; omega, rfl, by go_num, by rw [D3.out], G3, BX, KX⟩
              · obtain ⟨y, rfl⟩ : ∃ y : Nat, q = y := ⟨q.toNat, by omega⟩
                have yM : y < M := by omega
                have dM : decide ((M : Int) ≤ (y : Int)) = false := decide_eq_false q1
                have dM' : decide (M ≤ y) = false := decide_eq_false (by omega)
                have ym : (y : Int) < (M : Int) := by omega
                have y0 : (0 : Int) ≤ (y : Int) := by omega
                have AY : a + (y : Int) = (posC b : Int) + i := (QF.out y yM).2 rfl
                obtain ⟨f1, f2, f3, f4⟩ := GX.out.facts yM
                cases hv : kn14 a bss k b i y with
                | some v =>
                  have S1 : Hid (∀ j, j < M → kn14 a bss k b i j = kn14 a bss k b (i + 1) j) := kn_skip OKX.out GXX.out (fun j hj z => by
                    have := (QF.out j hj).1 z
                    obtain rfl : j = y := by omega
                    rw [hv]; exact Option.some_ne_none _)
                  have G3 : Hid (GV wr o h M (kn14 a bss k b (i + 1))) := GX.out.congr S1.out
                  have D3 : Hid (D = lackN (kn14 a bss k b (i + 1)) M) := HD.out.trans (lack_congr S1.out)
                  rw [hv] at f2
                  simp only [Option.isSome_some] at f2
                  clear q0 q1 i2 f1 f3 f4 AY hv
                  go_wp2_with fail
                  go_roundg (n2 - (i + 1))
                  case measure => have := HG2.out; have := I2H.out; omega
                  case rel => exact ⟨i + 1, by have := I2H.out; omega, rfl, by go_num, by rw [D3.out], G3, BX, KX⟩
                | none =>
                  have S1 : Hid (∀ j, j < M → putF (kn14 a bss k b i) y x j = kn14 a bss k b (i + 1) j) := fun j _ => kn_put OKX.out GXX.out AY hv j
                  have G3 : Hid (GV ((wr.setCell ⟨o, y, none⟩ (.int .u64 (uz x))).setCell ⟨h, y, none⟩ (.bool true)) o h M (kn14 a bss k b (i + 1))) := (GX.out.put yM x).congr S1.out
                  have D3 : Hid (D = lackN (kn14 a bss k b (i + 1)) M + 1) := by
                    show _ = _
                    rw [HD.out, ← lack_congr S1.out]; exact (lack_put yM hv).symm
                  have D4 : 1 ≤ D := by have := D3.out; omega
                  have B3 : Hid (Below w.heap.size w ((wr.setCell ⟨o, y, none⟩ (.int .u64 (uz x))).setCell ⟨h, y, none⟩ (.bool true))) := (BX.out.setCell OH.out.1 _).setCell OH.out.2 _
                  have K3 : Hid (∀ g, g ≠ o → g ≠ h → ((wr.setCell ⟨o, y, none⟩ (.int .u64 (uz x))).setCell ⟨h, y, none⟩ (.bool true)).heap[g]? = w2.heap[g]?) := fun g g1 g2 => ((Below.heap_setCell _ _ _ g g2).trans (Below.heap_setCell _ _ _ g g1)).trans (KX.out g g1 g2)
                  have nOH := GX.out.ne
                  have x0 := uz_lo x; have x1 := uz_hi x
                  rw [hv] at f2
                  simp only [Option.isSome_none] at f2
                  clear q0 q1 i2 AY hv
                  go_wp2_with fail
                  go_roundg (n2 - (i + 1))
                  case measure => have := HG2.out; have := I2H.out; omega
                  case rel => exact ⟨i + 1, by have := I2H.out; omega, rfl, by go_num, by have := D3.out; congr 1; omega, G3, B3, K3⟩
          · obtain rfl : i = n2 := by omega
            have S1 : Hid (∀ j, j < M → kn14 a bss k b i j = numC (a + (j : Int)) (bss.take (k + 1))) := fun j _ => kn_done GB.out M2.out j
            have G3 : Hid (GV wr o h M (fun j => numC (a + (j : Int)) (bss.take (k + 1)))) := GX.out.congr S1.out
            have D3 : Hid (D = lackN (fun j => numC (a + (j : Int)) (bss.take (k + 1))) M) := HD.out.trans (lack_congr S1.out)
            go_wp2_with fail
            go_roundg (n - (k + 1))
            case measure => have := HG.out; have := KN.out; omega
            case rel => exact ⟨k + 1, by have := KN.out; omega, rfl, by go_num, by rw [D3.out], G3, BX⟩
      · obtain rfl : k = n := by omega
        obtain ⟨L, hL⟩ : ∃ L, L = lackN (fun j => numC (a + (j : Int)) (bss.take k)) M := ⟨_, rfl⟩
        rw [← hL]
        rw [List.take_of_length_le (Nat.le_of_eq LX.out.symm)] at hL GK
        have LM : L ≤ M := by rw [hL]; exact lack_le _ _
        by_cases z : 0 < L
        · have dz : decide ((0 : Int) < (L : Int)) = true := decide_eq_true (by omega)
          have E := Lib.hid (NO.out (fun q => by
            have : L = 0 := by rw [hL]; exact lack_zero.2 (fun j hj => q.2.2.2 j (by omega))
            omega))
          clear NO hL
          go_wp2_with fail
          go_ret2
          exact ⟨none, 0, 0, by rw [E.out.1]; rfl, by rw [E.out.2]; rfl, by rw [E.out.2]; exact Rg.nil _ _ _, BK.out, Nat.le_refl _, Nat.zero_le _⟩
        · obtain rfl : L = 0 := by omega
          have NN := lack_zero.1 hL.symm
          have OK : Hid (okGa a (M : Int) bss = true) := ok_ga.2 ⟨by omega, by omega, by
            by_cases z : M = 0
            · left; omega
            · right
              have := num_pos (NN 0 (by omega))
              omega, fun j hj => NN j (by omega)⟩
          have E : Hid (gaL a (M : Int) bss = (List.range M).map fun (j : Nat) => (numC (a + (j : Int)) bss).getD 0) := by
            show _ = _
            unfold gaL; rw [if_pos OK.out]; unfold allGa; rw [Int.toNat_natCast]
          have HR : Hid (Rg ucells wr (some ⟨o, 0, none⟩) ((List.range M).map fun (j : Nat) => (numC (a + (j : Int)) bss).getD 0)) := GK.out.row (by simp) (fun j hj => by rw [List.getElem?_map, List.getElem?_range hj]; rfl)
          clear hL NN
          go_wp2_with fail
          go_ret2
          exact ⟨some ⟨o, 0, none⟩, M, M, by rw [OK.out]; rfl, by rw [E.out]; simp, by rw [E.out]; exact HR.out, BK.out, Nat.le_refl _, by unfold maxLen; omega⟩

end Go.Proofs.Ytlllinpaclodaaa
