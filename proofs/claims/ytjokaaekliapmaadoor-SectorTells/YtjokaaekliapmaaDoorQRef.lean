/-
  What the document's own functions of layer 16 answer: Number, Read, Right, Same.
-/
import Derived.Test.YtjokaaekliapmaaDoorQMath
import Derived.Deep.LoopGhost
import Derived.Deep.QuietTactic
import Derived.BigQuiet
import Derived.StillTailTactics
namespace Go.Proofs.YtjokaaekliapmaaDoor
open Go.RowKit

/-- Bytes that are filled from behind. -/
def BF (w : World) (g m k : Nat) (bs : List UInt8) : Prop :=
  ∃ cs : Array Value, w.heap[g]? = some (.cells cs 5 (0, 0)) ∧ cs.size = m ∧ (∀ j, j < m → ∃ v : Int, cs[j]? = some (.int .u8 v)) ∧ ∀ j x, k ≤ j → bs[j]? = some x → cs[j]? = some (.int .u8 (bz x))
theorem BF.start (w : World) (m : Nat) (bs : List UInt8) (hl : bs.length = m) : BF (w.alloc (.cells (madeCells #[.int .u8 0] m) 5)) w.heap.size m m bs := by
  refine ⟨_, heap_alloc_new w _, by rw [size_madeCells], fun j hj => ⟨0, ?_⟩, fun j x hj hx => ?_⟩
  · simp [madeCells, hj, Nat.mod_one]
  · have := (List.getElem?_eq_some_iff.1 hx).1; omega
theorem BF.facts {w : World} {g m k : Nat} {bs : List UInt8} (h : BF w g m k bs) {j : Nat} (hj : j < m) : (∃ v, w.cell? ⟨g, j, none⟩ = some (.int .u8 v)) ∧ w.frozen? ⟨g, j, none⟩ = false := by
  obtain ⟨cs, h1, h2, h3, _⟩ := h
  exact ⟨by rw [Lib.cell_of_heap h1]; exact h3 j hj, Lib.frozen_of_heap h1 j⟩
theorem BF.step {w : World} {g m k : Nat} {bs : List UInt8} {x : UInt8} (h : BF w g m (k + 1) bs) (hk : k < m) (hx : bs[k]? = some x) : BF (w.setCell ⟨g, k, none⟩ (.int .u8 (bz x))) g m k bs := by
  obtain ⟨cs, h1, h2, h3, h4⟩ := h
  refine ⟨_, Lib.heap_setCell_same h1 _, by simp [h2], fun j hj => ?_, fun j y hj hy => ?_⟩
  · by_cases e : j = k
    · subst e; exact ⟨_, by rw [Array.getElem?_setIfInBounds_self_of_lt (by omega)]⟩
    · obtain ⟨v, hv⟩ := h3 j hj
      exact ⟨v, by rw [Array.getElem?_setIfInBounds_ne (by omega)]; exact hv⟩
  · by_cases e : j = k
    · subst e
      rw [hx] at hy
      obtain rfl := Option.some.inj hy
      rw [Array.getElem?_setIfInBounds_self_of_lt (by omega)]
    · rw [Array.getElem?_setIfInBounds_ne (by omega)]
      exact h4 j y (by omega) hy
theorem BF.done {w : World} {g m B : Nat} {bs : List UInt8} (h : BF w g m 0 bs) (hl : bs.length = m) (hB : B ≤ g) (hm : m ≤ maxLen) : w.ownsRow B 5 1 (.slice (some ⟨g, 0, none⟩) m m) m (bs.flatMap bcells) := by
  obtain ⟨cs, h1, h2, h3, h4⟩ := h
  refine ⟨by rw [flat_len bcells_len, hl], .inr ⟨g, m, cs, rfl, hB, h1, Nat.le_refl _, hm, by omega, ?_⟩⟩
  rw [Nat.mul_one, List.take_of_length_le (by simp; omega)]
  apply List.ext_getElem?
  intro j
  rw [Array.getElem?_toList]
  by_cases hj : j < m
  · have hb : bs[j]? = some (bs[j]'(by omega)) := List.getElem?_eq_getElem _
    rw [h4 j _ (Nat.zero_le _) hb]
    have := flat_get bcells_len bs j 0 _ hb (by decide)
    rw [Nat.mul_one, Nat.add_zero] at this
    rw [this]; rfl
  · rw [Array.getElem?_eq_none (by omega), List.getElem?_eq_none (by rw [flat_len bcells_len, hl]; omega)]

set_option maxHeartbeats 1000000 in
set_option maxRecDepth 100000 in
theorem rnumber16 (n m : Nat) (w : World) (hn : n < 9223372036854775808) (hm : 1 ≤ m) (hm8 : m ≤ 8) :
    Calls Tryd.prog 24 #[.int .i64 (n : Int), .int .i64 (m : Int)] w (BOwn (beN m n) w) := by
  obtain ⟨i0, hi, hz0, hz1, hz2⟩ := info_parts Tryd.infoB
  have hmk : ∀ w : World, (Instr.makeSlice 22 (.int .i64 (m : Int)) (.int .i64 (m : Int))).run Tryd.prog w = .ok (.slice (some ⟨w.heap.size, 0, none⟩) m m) (w.alloc (.cells (madeCells #[.int .u8 0] m) 5)) := fun w => by
    have := run_make (P := Tryd.prog) w 22 5 i0 _ Tryd.underlying22 hi hz0 .i64 .i64 (m : Int) (m : Int) (by omega) (Int.le_refl _) (by rw [hz2]; omega) (by omega)
    rw [hz1, Nat.mul_one] at this
    exact this
  have HBL := Lib.hid (beN_len m n)
  go_enter Tryd.func24, Tryd.ntmps24
  go_wp2_with fail
  obtain ⟨g, hg⟩ : ∃ g, g = w.heap.size := ⟨_, rfl⟩
  obtain ⟨W, hW⟩ : ∃ W, W = w.alloc (.cells (madeCells #[.int .u8 0] m) 5) := ⟨_, rfl⟩
  have F0 : Hid (BF W g m m (beN m n)) := by rw [hW, hg]; exact BF.start w m _ (beN_len m n)
  have B0 : Hid (Below w.heap.size w W) := by rw [hW]; exact (Below.refl _ w).alloc (Nat.le_refl _) _
  have gl : w.heap.size ≤ g := by omega
  rw [← hW, ← hg]
  clear hW hg hi hz0 hz1 hz2 hmk
  go_loopg [0, 6] m (fun gh s0 s6 wr => ∃ j q : Nat, j ≤ m ∧ Hid (gh = m - j) ∧ s0 = .int .i64 (q : Int) ∧ Hid (q = n / 256 ^ j) ∧ s6 = .int .i64 ((m : Int) - 1 - (j : Int)) ∧ Hid (BF wr g m (m - j) (beN m n)) ∧ Hid (Below w.heap.size w wr))
  case atStart => exact ⟨0, n, Nat.zero_le _, by show _ = _; omega, rfl, by show _ = _; simp, by congr 1; omega, F0, B0⟩
  case round =>
    obtain ⟨j, q, hj, HG, rfl, HQ, rfl, FK, BK⟩ := hrel
    by_cases jn : j < m
    · obtain ⟨i, hie⟩ : ∃ i : Nat, i = m - 1 - j := ⟨_, rfl⟩
      have ie : (m : Int) - 1 - (j : Int) = (i : Int) := by omega
      rw [ie]
      have im : i < m := by omega
      have ii : (i : Int) < (m : Int) := by omega
      have ia : (0 : Int) ≤ (i : Int) := by omega
      have FK2 : Hid (BF wr g m (i + 1) (beN m n)) := by
        show BF _ _ _ _ _
        rw [show i + 1 = m - j by omega]; exact FK.out
      obtain ⟨⟨v, c0⟩, p0⟩ := FK2.out.facts im
      have q63 : q < 9223372036854775808 := by rw [HQ.out]; exact Nat.lt_of_le_of_lt (Nat.div_le_self _ _) hn
      have bx : (beN m n)[i]? = some (UInt8.ofNat q) := by rw [be_get im, HQ.out, show m - 1 - i = j by omega]
      have e1 : (q : Int) % 256 = bz (UInt8.ofNat q) := by unfold bz; rw [UInt8.toNat_ofNat']; omega
      have y0 := bz_lo (UInt8.ofNat q)
      have y1 := bz_hi (UInt8.ofNat q)
      obtain ⟨r, hr⟩ : ∃ r : Nat, r = q / 256 := ⟨_, rfl⟩
      have e2 : (q : Int) / 256 = (r : Int) := by omega
      have BX := Lib.hid bx; have HR := Lib.hid hr; have JN := Lib.hid jn; have HI := Lib.hid hie
      clear bx hr jn hie FK ie
      go_wp2_with fail
      have F3 := Lib.hid (FK2.out.step im BX.out)
      have B3 : Hid (Below w.heap.size w (wr.setCell ⟨g, i, none⟩ (.int .u8 (bz (UInt8.ofNat q))))) := BK.out.setCell (p := ⟨g, i, none⟩) gl _
      go_roundg (m - (j + 1))
      case measure => have := HG.out; have := JN.out; omega
      case rel => exact ⟨j + 1, r, by have := JN.out; omega, rfl, rfl, by show _ = _; rw [HR.out, HQ.out, Nat.div_div_eq_div_mul, Nat.pow_succ], by have := HI.out; have := JN.out; congr 1; omega, by
        show BF _ _ _ _ _
        rw [show m - (j + 1) = i by have := HI.out; have := JN.out; omega]; exact F3.out, B3⟩
    · obtain rfl : j = m := by omega
      have F9 : Hid (BF wr g j 0 (beN j n)) := by
        have := FK.out
        rwa [Nat.sub_self] at this
      go_wp2_with fail
      go_ret
      exact ⟨_, rfl, by rw [beN_len]; exact F9.out.done (beN_len _ _) gl (by unfold maxLen; omega), BK.out⟩

set_option maxHeartbeats 1000000 in
set_option maxRecDepth 100000 in
theorem rread16 (A : Option Addr) (cA n : Nat) (b : List UInt8) (w : World) (hx : Rg bcells w A b) (lx : n = b.length) (hn : rdN b < 4611686018427387904) (hm : n ≤ 8) :
    Calls Tryd.prog 20 #[.slice A n cA] w fun e w' => e = .returned (.int .i64 (rdN b : Nat)) ∧ Below w.heap.size w w' := by
  have HX := Lib.hid hx; have LX := Lib.hid lx
  clear hx lx
  go_enter Tryd.func20, Tryd.ntmps20
  go_wp2_with fail
  go_loopg [3, 4] n (fun gh s3 s4 wr => ∃ j q : Nat, j ≤ n ∧ Hid (gh = n - j) ∧ s4 = .int .i64 (j : Int) ∧ s3 = .int .i64 (q : Int) ∧ Hid (q = rdN (b.take j)) ∧ wr = w)
  case atStart => exact ⟨0, 0, Nat.zero_le _, by show _ = _; omega, rfl, rfl, rfl, rfl⟩
  case round =>
    obtain ⟨j, q, hj, HG, rfl, rfl, HQ, rfl⟩ := hrel
    by_cases jn : j < n
    · obtain ⟨b1, o1, rfl, l1, q1⟩ := HX.out (by rw [← LX.out]; omega)
      obtain ⟨y, gy⟩ : ∃ y, b[j]? = some y := ⟨_, List.getElem?_eq_getElem (by rw [← LX.out]; exact jn)⟩
      have c1 := b_cell q1 gy
      have y0 := bz_lo y
      have y1 := bz_hi y
      have ji : (j : Int) < (n : Int) := by omega
      have ja : (0 : Int) ≤ (j : Int) := by omega
      have NX : Hid (rdN (b.take (j + 1)) = q * 256 + y.toNat) := by show _ = _; rw [take_get gy, rd_snoc, HQ.out]
      have small : rdN (b.take (j + 1)) < 4611686018427387904 := by
        have e : rdN b = rdN (b.take (j + 1)) * 256 ^ (b.drop (j + 1)).length + rdN (b.drop (j + 1)) := by rw [← rd_app, List.take_append_drop]
        have p : 0 < 256 ^ (b.drop (j + 1)).length := Nat.pow_pos (by decide)
        have := Nat.le_mul_of_pos_right (rdN (b.take (j + 1))) p
        omega
      have qs : q * 256 + y.toNat < 4611686018427387904 := by rw [← NX.out]; exact small
      have q9 : q ≤ 18014398509481984 := by omega
      obtain ⟨r, hr⟩ : ∃ r : Nat, r = q * 256 + y.toNat := ⟨_, rfl⟩
      have e1 : (q : Int) * 256 + bz y = (r : Int) := by unfold bz; omega
      have HR := Lib.hid hr
      have JN := Lib.hid jn
      clear gy q1 small qs hr jn
      go_wp2_with fail
      go_roundg (n - (j + 1))
      case measure => have := HG.out; have := JN.out; omega
      case rel => exact ⟨j + 1, r, by have := JN.out; omega, rfl, by go_num, rfl, by show _ = _; rw [HR.out, NX.out], rfl⟩
    · obtain rfl : j = n := by omega
      have E : Hid (q = rdN b) := by show _ = _; rw [HQ.out, List.take_of_length_le (Nat.le_of_eq LX.out.symm)]
      go_wp2_with fail
      go_ret
      exact ⟨by rw [E.out]; rfl, Below.refl _ _⟩

set_option maxHeartbeats 1000000 in
theorem rwithin16 (n a b : Int) (w : World) : Calls Tryd.prog 22 #[.int .i64 n, .int .i64 a, .int .i64 b] w fun e w' => e = .returned (.bool (withinI n a b)) ∧ Below w.heap.size w w' := by
  by_cases h1 : a ≤ n
  · have d1 : decide (a ≤ n) = true := decide_eq_true h1
    by_cases h2 : n ≤ b
    · have d2 : decide (n ≤ b) = true := decide_eq_true h2
      have E : Hid (withinI n a b = true) := by show _ = _; unfold withinI; rw [d1, d2]; rfl
      clear h1 h2
      go_enter Tryd.func22, Tryd.ntmps22
      go_wp2_with fail
      go_ret
      exact ⟨by rw [E.out]; rfl, Below.refl _ _⟩
    · have d2 : decide (n ≤ b) = false := decide_eq_false h2
      have E : Hid (withinI n a b = false) := by show _ = _; unfold withinI; rw [d1, d2]; rfl
      clear h1 h2
      go_enter Tryd.func22, Tryd.ntmps22
      go_wp2_with fail
      go_ret
      exact ⟨by rw [E.out]; rfl, Below.refl _ _⟩
  · have d1 : decide (a ≤ n) = false := decide_eq_false h1
    have E : Hid (withinI n a b = false) := by show _ = _; unfold withinI; rw [d1]; rfl
    clear h1
    go_enter Tryd.func22, Tryd.ntmps22
    go_wp2_with fail
    go_ret
    exact ⟨by rw [E.out]; rfl, Below.refl _ _⟩

set_option maxHeartbeats 4000000 in
set_option maxRecDepth 100000 in
theorem rright16 (s : Sec) (A : Option Addr) (n c : Nat) (w : World) (hn : n = s.b.length) : Calls Tryd.prog 13 #[secv s A n c] w fun e w' => e = .returned (.bool (rightQ s)) ∧ Below w.heap.size w w' := by
  obtain ⟨g, p, t, k, b⟩ := s
  have RQ : Hid (rightQ ⟨g, p, t, k, b⟩ = (decide (1 ≤ g) && decide (g ≤ 281474976710656) && withinI p 0 4096 && withinI t 1 32 && withinI k 0 1000 && withinI (n : Int) 1 50)) := by show _ = _; rw [hn]; rfl
  obtain ⟨r, hr⟩ : ∃ r, r = rightQ ⟨g, p, t, k, b⟩ := ⟨_, rfl⟩
  rw [← hr] at RQ ⊢
  unfold secv
  dsimp only
  clear hn hr
  by_cases h1 : 1 ≤ g
  rotate_left
  · have d1 : decide (1 ≤ g) = false := decide_eq_false h1
    have E : Hid (r = false) := by show _ = _; rw [RQ.out, d1]; rfl
    clear h1 RQ
    go_enter Tryd.func13, Tryd.ntmps13
    go_wp2_with fail
    go_ret
    exact ⟨by rw [E.out]; rfl, chain_alloc (Below.refl _ w) _⟩
  have d1 : decide (1 ≤ g) = true := decide_eq_true h1
  by_cases h2 : g ≤ 281474976710656
  rotate_left
  · have d2 : decide (g ≤ 281474976710656) = false := decide_eq_false h2
    have E : Hid (r = false) := by show _ = _; rw [RQ.out, d1, d2]; rfl
    clear h1 h2 RQ
    go_enter Tryd.func13, Tryd.ntmps13
    go_wp2_with fail
    go_ret
    exact ⟨by rw [E.out]; rfl, chain_alloc (Below.refl _ w) _⟩
  have d2 : decide (g ≤ 281474976710656) = true := decide_eq_true h2
  rw [d1, d2] at RQ
  clear h1 h2
  go_enter Tryd.func13, Tryd.ntmps13
  go_wp2_with fail
  have hb := chain_alloc (Below.refl _ w) (.cells #[.int .i64 g, .int .i64 p, .int .i64 t, .int .i64 k, .slice A n c] 24)
  have NB : (w.alloc (.cells #[.int .i64 g, .int .i64 p, .int .i64 t, .int .i64 k, .slice A n c] 24)).heap[w.heap.size]? = some (.cells #[.int .i64 g, .int .i64 p, .int .i64 t, .int .i64 k, .slice A n c] 24 (0, 0)) := heap_alloc_new w _
  have zl : w.heap.size < (w.alloc (.cells #[.int .i64 g, .int .i64 p, .int .i64 t, .int .i64 k, .slice A n c] 24)).heap.size := by simp
  obtain ⟨z, hz⟩ : ∃ z, z = w.heap.size := ⟨_, rfl⟩
  rw [← hz] at NB zl ⊢
  generalize w.alloc (.cells #[.int .i64 g, .int .i64 p, .int .i64 t, .int .i64 k, .slice A n c] 24) = w1 at hb NB zl ⊢
  have B1 := Lib.hid hb
  have NX := Lib.hid NB
  have ZL := Lib.hid zl
  clear hb NB zl hz
  obtain ⟨x0, hx0⟩ : ∃ x, x = withinI p 0 4096 := ⟨_, rfl⟩
  refine (rwithin16 p 0 4096 _).mono ?_
  rw [← hx0] at RQ ⊢
  clear hx0
  rintro e w2 ⟨rfl, hb⟩
  have B2 := Lib.hid (chain B1.out hb)
  replace NX := Lib.hid ((hb.block z ZL.out).trans NX.out)
  replace ZL := Lib.hid (Nat.lt_of_lt_of_le ZL.out hb.size)
  clear hb B1
  rcases x0 with _ | _
  · have E : Hid (r = false) := by show _ = _; rw [RQ.out]; simp
    clear RQ
    go_wp2_with fail
    go_ret
    exact ⟨by rw [E.out]; rfl, B2.out⟩
  have c0 : w2.cell? ⟨z, 2, none⟩ = some (.int .i64 t) := by rw [Lib.cell_of_heap NX.out]; rfl
  have zi0 := ZL.out
  go_wp2_with fail
  clear c0 zi0
  obtain ⟨x1, hx1⟩ : ∃ x, x = withinI t 1 32 := ⟨_, rfl⟩
  refine (rwithin16 t 1 32 _).mono ?_
  rw [← hx1] at RQ ⊢
  clear hx1
  rintro e w3 ⟨rfl, hb⟩
  have B3 := Lib.hid (chain B2.out hb)
  replace NX := Lib.hid ((hb.block z ZL.out).trans NX.out)
  replace ZL := Lib.hid (Nat.lt_of_lt_of_le ZL.out hb.size)
  clear hb B2
  rcases x1 with _ | _
  · have E : Hid (r = false) := by show _ = _; rw [RQ.out]; simp
    clear RQ
    go_wp2_with fail
    go_ret
    exact ⟨by rw [E.out]; rfl, B3.out⟩
  have c1 : w3.cell? ⟨z, 3, none⟩ = some (.int .i64 k) := by rw [Lib.cell_of_heap NX.out]; rfl
  have zi1 := ZL.out
  go_wp2_with fail
  clear c1 zi1
  obtain ⟨x2, hx2⟩ : ∃ x, x = withinI k 0 1000 := ⟨_, rfl⟩
  refine (rwithin16 k 0 1000 _).mono ?_
  rw [← hx2] at RQ ⊢
  clear hx2
  rintro e w4 ⟨rfl, hb⟩
  have B4 := Lib.hid (chain B3.out hb)
  replace NX := Lib.hid ((hb.block z ZL.out).trans NX.out)
  replace ZL := Lib.hid (Nat.lt_of_lt_of_le ZL.out hb.size)
  clear hb B3
  rcases x2 with _ | _
  · have E : Hid (r = false) := by show _ = _; rw [RQ.out]; simp
    clear RQ
    go_wp2_with fail
    go_ret
    exact ⟨by rw [E.out]; rfl, B4.out⟩
  have c2 : w4.cell? ⟨z, 4, none⟩ = some (.slice A n c) := by rw [Lib.cell_of_heap NX.out]; rfl
  have zi2 := ZL.out
  go_wp2_with fail
  clear c2 zi2
  obtain ⟨x3, hx3⟩ : ∃ x, x = withinI (n : Int) 1 50 := ⟨_, rfl⟩
  refine (rwithin16 (n : Int) 1 50 _).mono ?_
  rw [← hx3] at RQ ⊢
  clear hx3
  rintro e w5 ⟨rfl, hb⟩
  have B5 := Lib.hid (chain B4.out hb)
  replace NX := Lib.hid ((hb.block z ZL.out).trans NX.out)
  replace ZL := Lib.hid (Nat.lt_of_lt_of_le ZL.out hb.size)
  clear hb B4
  rcases x3 with _ | _
  · have E : Hid (r = false) := by show _ = _; rw [RQ.out]; simp
    clear RQ
    go_wp2_with fail
    go_ret
    exact ⟨by rw [E.out]; rfl, B5.out⟩
  have E : Hid (r = true) := by show _ = _; rw [RQ.out]; simp
  clear RQ
  go_wp2_with fail
  go_ret
  exact ⟨by rw [E.out]; rfl, B5.out⟩

set_option maxHeartbeats 4000000 in
set_option maxRecDepth 100000 in
theorem rsame16 (s : Sec) (A B : Option Addr) (n c m d : Nat) (w : World) (h1 : n = s.b.length) (h2 : m = s.b.length) (ra : Rg bcells w A s.b) (rb : Rg bcells w B s.b) :
    Calls Tryd.prog 16 #[secv s A n c, secv s B m d] w fun e w' => e = .returned (.bool true) ∧ Below w.heap.size w w' := by
  have t1 := fun w' (hb : Below w.heap.size w w') => text_of (c := c) (ra.below hb) h1
  have t2 := fun w' (hb : Below w.heap.size w w') => text_of (c := d) (rb.below hb) h2
  obtain ⟨g, p, t, k, b⟩ := s
  have y1 := t1 ((w.alloc (.cells #[.int .i64 g, .int .i64 p, .int .i64 t, .int .i64 k, .slice A n c] 24)).alloc (.cells #[.int .i64 g, .int .i64 p, .int .i64 t, .int .i64 k, .slice B m d] 24)) (chain_alloc (chain_alloc (Below.refl _ w) _) _)
  have y2 := t2 ((w.alloc (.cells #[.int .i64 g, .int .i64 p, .int .i64 t, .int .i64 k, .slice A n c] 24)).alloc (.cells #[.int .i64 g, .int .i64 p, .int .i64 t, .int .i64 k, .slice B m d] 24)) (chain_alloc (chain_alloc (Below.refl _ w) _) _)
  unfold secv
  dsimp only at y1 y2 ⊢
  have ne : ((tx b).toList == (tx b).toList) = true := by simp
  clear t1 t2 h1 h2 ra rb
  go_enter Tryd.func16, Tryd.ntmps16
  go_wp2_with fail
  go_ret
  exact ⟨rfl, chain_alloc (chain_alloc (Below.refl _ w) _) _⟩

end Go.Proofs.YtjokaaekliapmaaDoor
