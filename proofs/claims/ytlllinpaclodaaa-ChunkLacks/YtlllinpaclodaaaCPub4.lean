/-
  What package chunk answers: Get.
-/
import Derived.Test.YtlllinpaclodaaaCPub3
namespace Go.Proofs.Ytlllinpaclodaaa
open Go.RowKit

/-- A block of numbers. -/
def UA (w : World) (g T : Nat) (l : List UInt64) : Prop := w.heap[g]? = some (.cells (l.flatMap ucells).toArray T (0, 0))
theorem uflat_get (l : List UInt64) (j : Nat) : (l.flatMap ucells)[j]? = (l[j]?).map fun y => Value.int .u64 (uz y) := by
  by_cases h : j < l.length
  · have := flat_get ucells_len l j 0 _ (List.getElem?_eq_getElem h) (by decide)
    rw [Nat.mul_one, Nat.add_zero] at this
    rw [this, List.getElem?_eq_getElem h]; rfl
  · rw [List.getElem?_eq_none (by rw [flat_len ucells_len]; omega), List.getElem?_eq_none (by omega)]; rfl
theorem UA.lt {w : World} {g T : Nat} {l : List UInt64} (h : UA w g T l) : g < w.heap.size := (Array.getElem?_eq_some_iff.1 h).1
theorem UA.cell {w : World} {g T : Nat} {l : List UInt64} (h : UA w g T l) {j : Nat} {y : UInt64} (hy : l[j]? = some y) : w.cell? ⟨g, j, none⟩ = some (.int .u64 (uz y)) := by
  rw [Lib.cell_of_heap h, List.getElem?_toArray, uflat_get, hy]; rfl
theorem UA.frozen {w : World} {g T : Nat} {l : List UInt64} (h : UA w g T l) (j : Nat) : w.frozen? ⟨g, j, none⟩ = false := Lib.frozen_of_heap h j
theorem UA.below {w w' : World} {g T : Nat} {l : List UInt64} (h : UA w g T l) (hb : Below w.heap.size w w') : UA w' g T l := (hb.block g h.lt).trans h
theorem UA.set {w : World} {g T : Nat} {l : List UInt64} (h : UA w g T l) (j : Nat) (y : UInt64) : UA (w.setCell ⟨g, j, none⟩ (.int .u64 (uz y))) g T (l.set j y) := by
  have h2 := Lib.heap_setCell_same (i := j) h (.int .u64 (uz y))
  unfold UA
  rw [h2, List.setIfInBounds_toArray]
  congr 3
  apply List.ext_getElem?
  intro k
  rw [uflat_get, List.getElem?_set, List.getElem?_set, uflat_get, flat_len ucells_len, Nat.mul_one]
  by_cases e : j = k
  · subst e
    by_cases q : j < l.length
    · simp [q]
    · simp [q]
  · simp [e]
theorem numbers_new (w : World) (T : Nat) {cs : Array Value} (h : cs = ((List.replicate 6 (0 : UInt64)).flatMap ucells).toArray) : UA (w.alloc (.cells cs T)) w.heap.size T (List.replicate 6 0) := by
  subst h; exact heap_alloc_new w _
theorem numbers_step {l : List UInt64} {i : Nat} {x : UInt64} (hx : l[i]? = some x) (h : i < 6) : (l.take i ++ List.replicate (6 - i) 0).set i x = l.take (i + 1) ++ List.replicate (6 - (i + 1)) 0 := by
  have hl : (l.take i).length = i := by
    have := (List.getElem?_eq_some_iff.1 hx).1
    rw [List.length_take]; omega
  rw [take_get hx, List.set_append_right _ _ (by omega), hl, Nat.sub_self, List.append_assoc]
  obtain ⟨k, hk⟩ : ∃ k, 6 - i = k + 1 := ⟨5 - i, by omega⟩
  rw [hk, List.replicate_succ, List.set_cons_zero, show 6 - (i + 1) = k by omega]; rfl
theorem b_sub {w : World} {b o : Nat} {xs : List UInt8} (hl : b < w.heap.size) (h : ∀ j u, (xs.flatMap bcells)[j]? = some u → w.cell? ⟨b, o + j, none⟩ = some u) (f n : Nat) : Rg bcells w (some ⟨b, o + f, none⟩) ((xs.drop f).take n) := fun _ =>
  ⟨b, o + f, rfl, hl, fun j u hu => by
    rw [bflat_get, List.getElem?_take] at hu
    split at hu
    · rw [List.getElem?_drop] at hu
      rw [Nat.add_assoc]
      exact h (f + j) u (by rw [bflat_get]; exact hu)
    · cases hu⟩

/-- What a chunk's bytes are read as: a row of one's own. -/
def GetNew (b : List UInt8) (w : World) (e : Ending) (w' : World) : Prop :=
  ∃ (A : Option Addr) (k n : Nat), e = .returned (.tuple #[.int .i64 (getP b), .slice A n k, .bool (okGet b)]) ∧ n = (getL b).length ∧ Rg ucells w' A (getL b) ∧ Below w.heap.size w w' ∧ n ≤ k ∧ k ≤ maxLen ∧ ∀ a, A = some a → w.heap.size ≤ a.block

set_option maxHeartbeats 4000000 in
set_option maxRecDepth 100000 in
theorem get14n (A : Option Addr) (cA n : Nat) (b : List UInt8) (w : World) (hx : Rg bcells w A b) (lx : n = b.length) (hn : n ≤ 1000000) (hc : n ≤ cA := by first | assumption | omega | (refine Hid.out ?_; assumption)) :
    Calls Try.prog 12 #[.slice A n cA] w (GetNew b w) := by
  have HX := Lib.hid hx; have LX := Lib.hid lx; have HC := Lib.hid hc
  have NO : Hid (okGet b = false → getP b = 0 ∧ getL b = []) := get_no
  clear hx lx hc
  by_cases h2 : n < 2
  · have OK : Hid (okGet b = false) := ok_get_no (by rw [← LX.out]; omega)
    have E := Lib.hid (NO.out OK.out)
    have CU : Hid (∀ w, Calls Try.prog 22 #[.int .i64 0] w fun e w' => e = .returned (.int .i64 2) ∧ w' = w) := fun w => upto14 0 w (by decide)
    have q1 : ((n : Int) - 2).tdiv 8 = 0 := by
      obtain rfl | rfl : n = 0 ∨ n = 1 := by omega
      · rfl
      · rfl
    have ne : ((n : Int) != 2) = true := by simp; omega
    clear NO
    go_enter Try.func12, Try.ntmps12
    go_wp2_with fail
    refine (CU.out _).mono ?_
    rintro e w1 ⟨rfl, rfl⟩
    go_wp2_with fail
    go_ret3
    exact ⟨none, 0, 0, by rw [E.out.1, OK.out]; rfl, by rw [E.out.2]; rfl, by rw [E.out.2]; exact Rg.nil _ _ _, Below.refl _ _, Nat.le_refl _, Nat.zero_le _, fun a ha => by cases ha⟩
  obtain ⟨m, hm⟩ : ∃ m, m = (n - 2) / 8 := ⟨_, rfl⟩
  have q1 : ((n : Int) - 2).tdiv 8 = (m : Int) := by
    rw [Int.tdiv_eq_ediv_of_nonneg (by omega)]; omega
  have q2 : ((n : Int) - 2) / 8 = (m : Int) := by omega
  obtain ⟨u, hu⟩ : ∃ u, u = 2 + 8 * m := ⟨_, rfl⟩
  have CU : Hid (∀ w, Calls Try.prog 22 #[.int .i64 (m : Int)] w fun e w' => e = .returned (.int .i64 (u : Int)) ∧ w' = w) := fun w => by rw [hu]; exact upto14 m w (by omega)
  by_cases h3 : ¬ n = u
  · have OK : Hid (okGet b = false) := ok_get_no (by rw [← LX.out]; omega)
    have E := Lib.hid (NO.out OK.out)
    have ne : ((n : Int) != (u : Int)) = true := by simp; omega
    have n2 : 2 ≤ n := by omega
    clear NO hm hu h3 h2
    go_enter Try.func12, Try.ntmps12
    go_wp2_with fail
    refine (CU.out _).mono ?_
    rintro e w1 ⟨rfl, rfl⟩
    go_wp2_with fail
    go_ret3
    exact ⟨none, 0, 0, by rw [E.out.1, OK.out]; rfl, by rw [E.out.2]; rfl, by rw [E.out.2]; exact Rg.nil _ _ _, Below.refl _ _, Nat.le_refl _, Nat.zero_le _, fun a ha => by cases ha⟩
  have h3 : u = n := by omega
  subst h3
  have ne : ((u : Int) != (u : Int)) = false := by simp
  have n2 : 2 ≤ u := by omega
  have nc : 2 ≤ cA := by have := HC.out; omega
  obtain ⟨b1, o1, rfl, l1, c1⟩ := HX.out (by rw [← LX.out]; omega)
  obtain ⟨p, hp⟩ : ∃ p, p = posC b := ⟨_, rfl⟩
  have p6 : p < 65536 := by
    rw [hp]
    have : posC b < 256 ^ (b.take 2).length := rd_lt _
    rw [List.length_take, Nat.min_eq_left (by rw [← LX.out]; omega)] at this
    exact this
  have PU : uz (rdU (b.take 2)) = (p : Int) := by
    unfold uz rdU
    rw [UInt64.toNat_ofNat', hp]
    unfold posC at hp ⊢
    omega
  have R2 : Hid (Rg bcells w (some ⟨b1, o1, none⟩) (b.take 2)) := by
    have := b_sub l1 c1 0 2
    rwa [List.drop_zero, Nat.add_zero] at this
  have CR : Hid (∀ cA, Calls Try.prog 23 #[.slice (some ⟨b1, o1, none⟩) 2 cA] w fun e w' => e = .returned (.int .u64 (p : Int)) ∧ w' = w) := fun cA => by
    rw [← PU]; exact read14 _ cA 2 (b.take 2) w R2.out (by rw [List.length_take, Nat.min_eq_left (by rw [← LX.out]; omega)]) (by decide)
  have CP := Lib.hid (right14 (p : Int) m w (by omega) (by omega) (by omega))
  have MN : Hid (manyC b = m) := by show manyC b = m; unfold manyC; rw [← LX.out, hm]
  have LL : Hid ((b.drop 2).length = 8 * m) := by show (b.drop 2).length = 8 * m; rw [List.length_drop, ← LX.out]; omega
  have HM := Lib.hid hu
  have HP := Lib.hid hp
  clear hm hu hp PU h2
  by_cases ok : okPut (p : Int) m = true
  · obtain ⟨k1, k2, k3, k4, k5⟩ := ok_put.1 ok
    have OK : Hid (okGet b = true) := ok_get.2 ⟨by rw [← LX.out]; have := HM.out; omega, by rw [← LX.out]; have := HM.out; omega, by rw [← LX.out]; have := HM.out; omega, by rw [MN.out, ← HP.out]; omega⟩
    have E := Lib.hid (get_yes OK.out)
    rw [ok] at CP
    clear ok k1 k2 k5 NO
    go_enter Try.func12, Try.ntmps12
    go_wp2_with fail
    refine (CU.out _).mono ?_
    rintro e w1 ⟨rfl, rfl⟩
    go_wp2_with fail
    refine (CR.out _).mono ?_
    rintro e w2 ⟨rfl, rfl⟩
    go_wp2_with fail
    refine CP.out.mono ?_
    rintro e w3 ⟨rfl, rfl⟩
    go_wp2_with fail
    obtain ⟨g, hg⟩ : ∃ g, g = w3.heap.size := ⟨_, rfl⟩
    obtain ⟨W, hW⟩ : ∃ W, W = w3.alloc (.cells ((List.replicate 6 (0 : UInt64)).flatMap ucells).toArray 47) := ⟨_, rfl⟩
    have A0 : Hid (UA W g 47 ((listC b).take 0 ++ List.replicate (6 - 0) 0)) := by rw [hW, hg]; exact numbers_new w3 _ rfl
    have B0 : Hid (Below w3.heap.size w3 W) := by rw [hW]; exact chain_alloc (Below.refl _ _) _
    have hWx : w3.alloc (.cells #[.int .u64 0, .int .u64 0, .int .u64 0, .int .u64 0, .int .u64 0, .int .u64 0] 47) = W := by rw [hW]; rfl
    rw [hWx, ← hg]
    have HG0 := Lib.hid hg
    clear hW hWx hg
    have LQ : Hid ((listC b).length = m) := by show _ = _; rw [list_len, MN.out]
    go_loopg [28] m (fun gh s28 wr => ∃ i : Nat, i ≤ m ∧ Hid (gh = m - i) ∧ s28 = .int .i64 (i : Int) ∧ Hid (UA wr g 47 ((listC b).take i ++ List.replicate (6 - i) 0)) ∧ Hid (Below w3.heap.size w3 wr))
    case atStart => exact ⟨0, by omega, by show _ = _; omega, rfl, A0, B0⟩
    case round =>
      obtain ⟨i, hi, HG, rfl, AK, BK⟩ := hrel
      by_cases kn : i < m
      · have ki : (i : Int) < (m : Int) := by omega
        have ka : (0 : Int) ≤ (i : Int) := by omega
        have k6 : (i : Int) < 6 := by omega
        obtain ⟨t, ht⟩ : ∃ t, t = 2 + 8 * i := ⟨_, rfl⟩
        obtain ⟨v, hv⟩ : ∃ v, v = 2 + 8 * (i + 1) := ⟨_, rfl⟩
        obtain ⟨x, hx⟩ : ∃ x, x = rdU ((b.drop t).take 8) := ⟨_, rfl⟩
        have GX : Hid ((listC b)[i]? = some x) := by
          show _ = _
          unfold listC
          rw [nums_get (by rw [LL.out]; omega), List.drop_drop, hx, ht]; rfl
        have CT : Hid (∀ w, Calls Try.prog 22 #[.int .i64 (i : Int)] w fun e w' => e = .returned (.int .i64 (t : Int)) ∧ w' = w) := fun w => by rw [ht]; exact upto14 i w (by omega)
        have CV : Hid (∀ w, Calls Try.prog 22 #[.int .i64 ((i : Int) + 1)] w fun e w' => e = .returned (.int .i64 (v : Int)) ∧ w' = w) := fun w => by rw [hv]; exact upto14 (i + 1) w (by omega)
        have CX : Hid (∀ c w', Below w3.heap.size w3 w' → Calls Try.prog 23 #[.slice (some ⟨b1, o1 + t, none⟩) (v - t) c] w' fun e w2 => e = .returned (.int .u64 (uz x)) ∧ w2 = w') := fun c w' h => by
          rw [hx, show v - t = 8 by omega]
          exact read14 _ c 8 _ w' ((b_sub l1 c1 t 8).below h) (by rw [List.length_take, List.length_drop, ← LX.out]; have := HM.out; omega) (by decide)
        have t1 : t ≤ 42 := by omega
        have t2 : v ≤ u := by have := HM.out; omega
        have t3 : t ≤ v := by omega
        have t4 : v ≤ cA := by have := HC.out; omega
        have A2 := Lib.hid (AK.out.set i x)
        rw [numbers_step GX.out (by omega)] at A2
        have f1 := AK.out.frozen i
        have gv : ((listC b).take i ++ List.replicate (6 - i) 0)[i]? = some 0 := by
          rw [List.getElem?_append_right (by rw [List.length_take]; have := LQ.out; omega), List.getElem?_replicate, if_pos (by rw [List.length_take]; have := LQ.out; omega)]
        have c0 := AK.out.cell gv
        have B2 : Hid (Below w3.heap.size w3 (wr.setCell ⟨g, i, none⟩ (.int .u64 (uz x)))) := BK.out.setCell (by rw [HG0.out]; exact Nat.le_refl _) _
        have KN := Lib.hid kn
        have x0 := uz_lo x; have x1 := uz_hi x
        have tc : ¬ t = cA := by omega
        clear kn ht hv hx gv AK GX
        go_wp2_with fail
        refine (CT.out _).mono ?_
        rintro e w4 ⟨rfl, rfl⟩
        go_wp2_with fail
        refine (CV.out _).mono ?_
        rintro e w5 ⟨rfl, rfl⟩
        go_wp2_with fail
        refine (CX.out _ _ BK.out).mono ?_
        rintro e w6 ⟨rfl, rfl⟩
        go_wp2_with fail
        go_roundg (m - (i + 1))
        case measure => have := HG.out; have := KN.out; omega
        case rel => exact ⟨i + 1, by have := KN.out; omega, rfl, by go_num, A2, B2⟩
      · obtain rfl : i = m := by omega
        obtain ⟨i0, hi, hz0, hz1, hz2⟩ := info_parts Try.info40
        have hmk : ∀ w : World, (Instr.makeSlice 22 (.int .i64 (i : Int)) (.int .i64 (i : Int))).run Try.prog w = .ok (.slice (some ⟨w.heap.size, 0, none⟩) i i) (w.alloc (.cells (madeCells #[.int .u64 0] i) 40)) := fun w => by
          have := run_make (P := Try.prog) w 22 40 i0 _ Try.underlying22 hi hz0 .i64 .i64 (i : Int) (i : Int) (by omega) (Int.le_refl _) (by rw [hz2]; omega) (by omega)
          rw [hz1, Nat.mul_one] at this
          exact this
        obtain ⟨g4, hg4⟩ : ∃ g4, g4 = wr.heap.size := ⟨_, rfl⟩
        obtain ⟨W3, hW3⟩ : ∃ W3, W3 = wr.alloc (.cells (madeCells #[.int .u64 0] i) 40) := ⟨_, rfl⟩
        have A3 : Hid (UA W3 g 47 ((listC b).take i ++ List.replicate (6 - i) 0)) := by rw [hW3]; exact AK.out.below (chain_alloc (Below.refl _ _) _)
        have N3 : W3.heap[g4]? = some (.cells (madeCells #[.int .u64 0] i) 40 (0, 0)) := by rw [hW3, hg4]; exact heap_alloc_new _ _
        have B3 : Hid (Below w3.heap.size w3 W3) := by rw [hW3]; exact chain_alloc BK.out _
        have LA : (listC b).length = i := LQ.out
        have LE : (listC b).take i = listC b := List.take_of_length_le (Nat.le_of_eq LA)
        have SRC : ∀ j v, ((listC b).flatMap ucells)[j]? = some v → W3.cell? ((⟨g, 0, none⟩ : Addr).add j) = some v := fun j v hv => by
          rw [plain_add, Nat.zero_add]
          rw [uflat_get] at hv
          obtain ⟨y, hy, rfl⟩ := Option.map_eq_some_iff.1 hv
          have hj := (List.getElem?_eq_some_iff.1 hy).1
          have := A3.out
          rw [LE] at this
          exact this.cell (by rw [List.getElem?_append_left hj]; exact hy)
        have FL : ((listC b).flatMap ucells).length = i := by rw [flat_len ucells_len, LA, Nat.mul_one]
        have hcp := run_copy_row (P := Try.prog) W3 22 22 3 40 g4 0 i i ⟨g, 0, none⟩ 6 6 (madeCells #[.int .u64 0] i) 40 ((listC b).flatMap ucells) Try.underlying22 (by rw [hi]; exact congrArg some hz1) N3 (by rw [FL]; exact (Nat.min_eq_right k4).symm) SRC (by rw [FL, size_madeCells]; omega) (fun v hv => by
          obtain ⟨y, _, hy⟩ := List.mem_flatMap.1 hv
          exact ucells_one y v hy)
        have e4 : ((madeCells #[Value.int .u64 0] i).toList.take 0 ++ (listC b).flatMap ucells ++ (madeCells #[Value.int .u64 0] i).toList.drop (0 + ((listC b).flatMap ucells).length)).toArray = ((listC b).flatMap ucells).toArray := by
          rw [FL, List.drop_eq_nil_of_le (by rw [Array.length_toList, size_madeCells]; omega)]; simp
        rw [e4, FL] at hcp
        obtain ⟨W4, hW4⟩ : ∃ W4, W4 = W3.setRow g4 ((listC b).flatMap ucells).toArray := ⟨_, rfl⟩
        have gl : w3.heap.size ≤ g4 := by rw [hg4]; exact BK.out.size
        have N4 : W4.heap[g4]? = some (.cells ((listC b).flatMap ucells).toArray 40 (0, 0)) := by rw [hW4]; exact setRow_heap W3 g4 _ _ _ _ N3
        have R4 : Hid (Rg ucells W4 (some ⟨g4, 0, none⟩) (listC b)) := rg_block N4 (by simp)
        have B4 : Hid (Below w3.heap.size w3 W4) := by rw [hW4]; exact below_setRow B3.out gl _
        rw [← hW4] at hcp
        rw [hW3, hg4] at hcp
        have G4 := Lib.hid hg4
        have LA2 := Lib.hid LA
        have GL := Lib.hid gl
        clear hW4 hW3 N3 B3 A3 SRC FL e4 LA LE hg4 gl N4
        have hgo : goInt i = Value.int .i64 (i : Int) := rfl
        rw [hgo] at hcp
        go_wp2_with fail
        go_ret3
        refine ⟨some ⟨g4, 0, none⟩, i, i, by rw [E.out.1, OK.out, ← HP.out, G4.out]; rfl, by rw [E.out.2]; exact LA2.out.symm, by rw [E.out.2]; exact R4.out, B4.out, Nat.le_refl _, by unfold maxLen; omega, fun a ha => by rw [← Option.some.inj ha]; exact GL.out⟩
  · have ok : okPut (p : Int) m = false := by simpa using ok
    have OK : Hid (okGet b = false) := by
      refine ok_get_no (fun z => ?_)
      rw [MN.out, ← HP.out, ← LX.out] at z
      have := HM.out
      have : okPut (p : Int) m = true := ok_put.2 ⟨by omega, by omega, by omega, by omega, by omega⟩
      rw [ok] at this; cases this
    have E := Lib.hid (NO.out OK.out)
    rw [ok] at CP
    clear ok NO
    go_enter Try.func12, Try.ntmps12
    go_wp2_with fail
    refine (CU.out _).mono ?_
    rintro e w1 ⟨rfl, rfl⟩
    go_wp2_with fail
    refine (CR.out _).mono ?_
    rintro e w2 ⟨rfl, rfl⟩
    go_wp2_with fail
    refine CP.out.mono ?_
    rintro e w3 ⟨rfl, rfl⟩
    go_wp2_with fail
    go_ret3
    exact ⟨none, 0, 0, by rw [E.out.1, OK.out]; rfl, by rw [E.out.2]; rfl, by rw [E.out.2]; exact Rg.nil _ _ _, Below.refl _ _, Nat.le_refl _, Nat.zero_le _, fun a ha => by cases ha⟩

theorem get14 (A : Option Addr) (cA n : Nat) (b : List UInt8) (w : World) (hx : Rg bcells w A b) (lx : n = b.length) (hn : n ≤ 1000000) (hc : n ≤ cA := by first | assumption | omega | (refine Hid.out ?_; assumption)) :
    Calls Try.prog 12 #[.slice A n cA] w (GetTo b w) := (get14n A cA n b w hx lx hn hc).mono fun _ _ h => by
  obtain ⟨A, k, n, h1, h2, h3, h4, h5, h6, _⟩ := h
  exact ⟨A, k, n, h1, h2, h3, h4, h5, h6⟩

end Go.Proofs.Ytlllinpaclodaaa
