/-
  What the document's own functions of layer 14 answer: Gather, Same.
-/
import Derived.Test.YtlllinpaclodaaaCRef3
namespace Go.Proofs.Ytlllinpaclodaaa
open Go.RowKit

theorem num_take {q : Int} {bss : List (List UInt8)} {k : Nat} {b : List UInt8} (hb : bss[k]? = some b) (h0 : numC q (bss.take k) = none) (v : Option UInt64) (h : hasC q b = v) : (v = none → numC q (bss.take (k + 1)) = none) ∧ (∀ x, v = some x → numC q bss = some x) := by
  unfold numC at h0 ⊢
  have e : bss = bss.take k ++ b :: bss.drop (k + 1) := by
    obtain ⟨hk, hv⟩ := List.getElem?_eq_some_iff.1 hb
    rw [← hv, List.getElem_cons_drop, List.take_append_drop]
  refine ⟨fun hv => ?_, fun x hx => ?_⟩
  · rw [take_get hb, List.findSome?_append, h0, Option.none_or, List.findSome?_cons, h, hv]; rfl
  · rw [e, List.findSome?_append, h0, Option.none_or, List.findSome?_cons, h, hx]
theorem has_no {q : Int} {b : List UInt8} (h : okGet b = true → (posC b : Int) ≤ q → ¬ q < posC b + manyC b) : hasC q b = none := if_neg (fun z => h z.1 z.2.1 z.2.2)
def NumTo (r : Option UInt64) (w : World) (e : Ending) (w' : World) : Prop := e = .returned (.tuple #[.int .u64 (uz (r.getD 0)), .bool r.isSome]) ∧ Below w.heap.size w w'

set_option maxHeartbeats 4000000 in
set_option maxRecDepth 100000 in
theorem rnumber14 (q : Int) (A : Option Addr) (cA n : Nat) (bss : List (List UInt8)) (w : World) (hx : BR w A bss) (lx : n = bss.length) (hn : n ≤ 1000000) (hl : ∀ b ∈ bss, b.length ≤ 1000000) (q0 : 0 ≤ q) (q1 : q ≤ 70000) :
    Calls Try.prog 25 #[.int .i64 q, .slice A n cA] w (NumTo (numC q bss) w) := by
  have HX := Lib.hid hx; have LX := Lib.hid lx; have HL := Lib.hid hl
  clear hx lx hl
  go_enter Try.func25, Try.ntmps25
  go_wp2_with fail
  go_loopg [6] n (fun gh s6 wr => ∃ k : Nat, k ≤ n ∧ Hid (gh = n - k) ∧ s6 = .int .i64 (k : Int) ∧ Hid (numC q (bss.take k) = none) ∧ Hid (Below w.heap.size w wr))
  case atStart => exact ⟨0, Nat.zero_le _, by show _ = _; omega, rfl, rfl, Below.refl _ _⟩
  case round =>
    obtain ⟨k, hk, HG, rfl, HN, BK⟩ := hrel
    by_cases kn : k < n
    · obtain ⟨b, gb⟩ : ∃ b, bss[k]? = some b := ⟨_, List.getElem?_eq_getElem (by rw [← LX.out]; exact kn)⟩
      obtain ⟨b1, o1, h, rfl, l1, hc, HB1⟩ := HX.out.get gb
      have c1 := (BK.out.cell (p := ⟨b1, o1 + k, none⟩) l1).trans hc
      obtain ⟨hA, hn0, hc0⟩ := h
      dsimp only at c1
      have HBB := Lib.hid HB1
      have BL : b.length ≤ 1000000 := HL.out b (List.mem_of_getElem? gb)
      have CG : Hid (∀ w', Rg bcells w' hA b → Calls Try.prog 13 #[.slice hA hn0 hc0] w' (GetTo b w')) := fun w' h => rget14 hA hc0 hn0 b w' h HB1.1 (by have := HB1.1; simp only at this; omega)
      have NT := Lib.hid (num_take (q := q) gb HN.out)
      have KN := Lib.hid kn
      have ki : (k : Int) < (n : Int) := by omega
      have ka : (0 : Int) ≤ (k : Int) := by omega
      clear hc HB1 gb BL kn
      go_wp2_with fail
      refine (CG.out _ (HBB.out.2.2.below BK.out)).mono ?_
      rintro e w2 ⟨A2, k2, n2, rfl, h1, h2, hb, h4, h5⟩
      have M2 := Lib.hid h1; have R2 := Lib.hid h2
      have B2 := Lib.hid (chain BK.out hb)
      clear h1 h2 h4 h5 hb c1 l1 BK
      by_cases ok : okGet b = true
      · obtain ⟨e1, e2⟩ := get_yes ok
        have P6 := pos_lt ok
        have M3 : manyC b ≤ 8000 := by have := (ok_get.1 ok).2.1; unfold manyC; omega
        rw [e1, ok]
        have ML : Hid (n2 = manyC b) := by show n2 = manyC b; rw [M2.out, e2, list_len]
        rw [e2] at R2 M2
        obtain ⟨p, hp⟩ : ∃ p, p = posC b := ⟨_, rfl⟩
        rw [← hp] at P6 ⊢
        by_cases pq : (p : Int) ≤ q
        · have d1 : decide ((p : Int) ≤ q) = true := decide_eq_true pq
          by_cases qn : q < (p : Int) + n2
          · have d2 : decide (q < (p : Int) + (n2 : Int)) = true := decide_eq_true qn
            obtain ⟨i, hi⟩ : ∃ i : Nat, q - p = i := ⟨(q - p).toNat, by omega⟩
            obtain ⟨x, gx⟩ : ∃ x, (listC b)[i]? = some x := ⟨_, List.getElem?_eq_getElem (by rw [← M2.out]; omega)⟩
            have HS : hasC q b = some x := by
              unfold hasC
              rw [if_pos ⟨ok, by omega, by have := ML.out; omega⟩, ← hp, show (q - (p : Int)).toNat = i by omega]; exact gx
            have RES := Lib.hid ((NT.out (some x) HS).2 x rfl)
            obtain ⟨b2, o2, rfl, l2, c2⟩ := R2.out (by rw [← M2.out]; omega)
            have c3 := su_cell c2 gx
            have i2 : (i : Int) < (n2 : Int) := by omega
            have n28 : n2 ≤ 8000 := by have := ML.out; omega
            clear HS gx c2 e1 e2 ok hp qn
            go_wp2_with fail
            go_ret2
            exact ⟨by rw [RES.out]; rfl, B2.out⟩
          · have d2 : decide (q < (p : Int) + (n2 : Int)) = false := decide_eq_false qn
            have HS : hasC q b = none := has_no (fun _ _ => by rw [← hp]; have := ML.out; omega)
            have RES := Lib.hid ((NT.out none HS).1 rfl)
            have n28 : n2 ≤ 8000 := by have := ML.out; omega
            clear HS e1 e2 ok hp qn
            go_wp2_with fail
            go_roundg (n - (k + 1))
            case measure => have := HG.out; have := KN.out; omega
            case rel => exact ⟨k + 1, by have := KN.out; omega, rfl, by go_num, RES, B2⟩
        · have d1 : decide ((p : Int) ≤ q) = false := decide_eq_false pq
          have HS : hasC q b = none := has_no (fun _ z => by rw [← hp] at z; omega)
          have RES := Lib.hid ((NT.out none HS).1 rfl)
          clear HS e1 e2 ok hp pq
          go_wp2_with fail
          go_roundg (n - (k + 1))
          case measure => have := HG.out; have := KN.out; omega
          case rel => exact ⟨k + 1, by have := KN.out; omega, rfl, by go_num, RES, B2⟩
      · have ok : okGet b = false := by simpa using ok
        obtain ⟨e1, e2⟩ := get_no ok
        have HS : hasC q b = none := has_no (fun z => by rw [ok] at z; cases z)
        have RES := Lib.hid ((NT.out none HS).1 rfl)
        rw [e1, ok]
        clear HS e1 e2 ok
        go_wp2_with fail
        go_roundg (n - (k + 1))
        case measure => have := HG.out; have := KN.out; omega
        case rel => exact ⟨k + 1, by have := KN.out; omega, rfl, by go_num, RES, B2⟩
    · obtain rfl : k = n := by omega
      have E : Hid (numC q bss = none) := by
        have := HN.out
        rwa [List.take_of_length_le (Nat.le_of_eq LX.out.symm)] at this
      go_wp2_with fail
      go_ret2
      exact ⟨by rw [E.out]; rfl, BK.out⟩

theorem all_next (a : Int) (bss : List (List UInt8)) (i : Nat) : ((List.range (i + 1)).map fun (j : Nat) => (numC (a + (j : Int)) bss).getD 0) = ((List.range i).map fun (j : Nat) => (numC (a + (j : Int)) bss).getD 0) ++ [(numC (a + (i : Int)) bss).getD 0] := by
  rw [List.range_succ, List.map_append]; rfl
def GaTo (a m : Int) (bss : List (List UInt8)) (w : World) (e : Ending) (w' : World) : Prop :=
  ∃ (A : Option Addr) (k n : Nat), e = .returned (.tuple #[.slice A n k, .bool (okGa a m bss)]) ∧ n = (gaL a m bss).length ∧ Rg ucells w' A (gaL a m bss) ∧ Below w.heap.size w w' ∧ n ≤ k ∧ k ≤ maxLen
theorem ga_no {a m : Int} {bss : List (List UInt8)} (h : ¬ (0 ≤ m ∧ m ≤ 4096 ∧ (m ≤ 0 ∨ 0 ≤ a ∧ a ≤ 65535) ∧ ∀ i : Nat, i < m.toNat → numC (a + (i : Int)) bss ≠ none)) : okGa a m bss = false ∧ gaL a m bss = [] := by
  have e : okGa a m bss = false := by rw [Bool.eq_false_iff]; exact fun e => h (ok_ga.1 e)
  exact ⟨e, if_neg (by rw [e]; decide)⟩

set_option maxHeartbeats 4000000 in
set_option maxRecDepth 100000 in
theorem rgather14 (a m : Int) (A : Option Addr) (cA n : Nat) (bss : List (List UInt8)) (w : World) (hx : BR w A bss) (lx : n = bss.length) (hn : n ≤ 1000000) (hl : ∀ b ∈ bss, b.length ≤ 1000000) :
    Calls Try.prog 15 #[.int .i64 a, .int .i64 m, .slice A n cA] w (GaTo a m bss w) := by
  obtain ⟨i0, hi, hz0, hz1, hz2⟩ := info_parts Try.info40
  have HX := Lib.hid hx; have LX := Lib.hid lx; have HL := Lib.hid hl
  have NO : Hid (¬ (0 ≤ m ∧ m ≤ 4096 ∧ (m ≤ 0 ∨ 0 ≤ a ∧ a ≤ 65535) ∧ ∀ i : Nat, i < m.toNat → numC (a + (i : Int)) bss ≠ none) → okGa a m bss = false ∧ gaL a m bss = []) := ga_no
  clear hx lx hl
  by_cases h0 : m < 0
  · have d0 : decide (m < 0) = true := decide_eq_true h0
    have E := Lib.hid (NO.out (fun z => by omega))
    clear h0 NO
    go_enter Try.func15, Try.ntmps15
    go_wp2_with fail
    go_ret2
    exact ⟨none, 0, 0, by rw [E.out.1]; rfl, by rw [E.out.2]; rfl, by rw [E.out.2]; exact Rg.nil _ _ _, Below.refl _ _, Nat.le_refl _, Nat.zero_le _⟩
  have d0 : decide (m < 0) = false := decide_eq_false h0
  by_cases h1 : 4096 < m
  · have d1 : decide (4096 < m) = true := decide_eq_true h1
    have E := Lib.hid (NO.out (fun z => by omega))
    clear h0 h1 NO
    go_enter Try.func15, Try.ntmps15
    go_wp2_with fail
    go_ret2
    exact ⟨none, 0, 0, by rw [E.out.1]; rfl, by rw [E.out.2]; rfl, by rw [E.out.2]; exact Rg.nil _ _ _, Below.refl _ _, Nat.le_refl _, Nat.zero_le _⟩
  have d1 : decide (4096 < m) = false := decide_eq_false h1
  obtain ⟨M, rfl⟩ : ∃ M : Nat, m = M := ⟨m.toNat, by omega⟩
  have d0' : decide ((M : Int) < 0) = false := decide_eq_false (by omega)
  have d1' : decide (4096 < M) = false := decide_eq_false (by omega)
  have M4 : M ≤ 4096 := by omega
  clear h0 h1
  go_enter Try.func15, Try.ntmps15
  go_wp2_with fail
  go_loopg [8, 9] M (fun gh v s9 wr => ∃ i : Nat, i ≤ M ∧ Hid (gh = M - i) ∧ s9 = .int .i64 (i : Int) ∧ Hid (0 < i → 0 ≤ a ∧ a ≤ 65535) ∧ Hid (∀ j : Nat, j < i → numC (a + (j : Int)) bss ≠ none) ∧ Hid (wr.ownsRow w.heap.size 40 1 v i (((List.range i).map fun (j : Nat) => (numC (a + (j : Int)) bss).getD 0).flatMap ucells)) ∧ Hid (Below w.heap.size w wr))
  case atStart => exact ⟨0, Nat.zero_le _, by show _ = _; omega, rfl, fun z => absurd z (by decide), fun j z => absurd z (by omega), World.ownsRow_nil _ _ _ _, Below.refl _ _⟩
  case round =>
    obtain ⟨i, hiM, HG, rfl, RA, NN, OW, BK⟩ := hrel
    by_cases kn : i < M
    · have ki : (i : Int) < (M : Int) := by omega
      by_cases h2 : a < 0
      · have d2 : decide (a < 0) = true := decide_eq_true h2
        have E := Lib.hid (NO.out (fun z => by omega))
        clear h2 NO kn
        go_wp2_with fail
        go_ret2
        exact ⟨none, 0, 0, by rw [E.out.1]; rfl, by rw [E.out.2]; rfl, by rw [E.out.2]; exact Rg.nil _ _ _, BK.out, Nat.le_refl _, Nat.zero_le _⟩
      have d2 : decide (a < 0) = false := decide_eq_false h2
      by_cases h3 : 65535 < a
      · have d3 : decide (65535 < a) = true := decide_eq_true h3
        have E := Lib.hid (NO.out (fun z => by omega))
        clear h2 h3 NO kn
        go_wp2_with fail
        go_ret2
        exact ⟨none, 0, 0, by rw [E.out.1]; rfl, by rw [E.out.2]; rfl, by rw [E.out.2]; exact Rg.nil _ _ _, BK.out, Nat.le_refl _, Nat.zero_le _⟩
      have d3 : decide (65535 < a) = false := decide_eq_false h3
      have a0 : 0 ≤ a := by omega
      have a1 : a ≤ 65535 := by omega
      obtain ⟨r, hr⟩ : ∃ r, r = numC (a + (i : Int)) bss := ⟨_, rfl⟩
      have CN : Hid (∀ w', BR w' A bss → Calls Try.prog 25 #[.int .i64 (a + (i : Int)), .slice A n cA] w' (NumTo r w')) := fun w' h => by rw [hr]; exact rnumber14 _ A cA n bss w' h LX.out hn HL.out (by omega) (by omega)
      have HR := Lib.hid hr
      have KN := Lib.hid kn
      clear hr kn h2 h3
      go_wp2_with fail
      refine (CN.out _ (HX.out.below BK.out)).mono ?_
      rintro e w2 ⟨rfl, hb⟩
      have B2 := Lib.hid (chain BK.out hb)
      have O2 := Lib.hid (own_belowE OW.out hb)
      clear hb OW BK
      rcases r with _ | x
      · have E := Lib.hid (NO.out (fun z => z.2.2.2 i (by have := KN.out; omega) HR.out.symm))
        simp only [Option.isSome_none, Option.getD_none]
        clear NO
        go_wp2_with fail
        go_ret2
        exact ⟨none, 0, 0, by rw [E.out.1]; rfl, by rw [E.out.2]; rfl, by rw [E.out.2]; exact Rg.nil _ _ _, B2.out, Nat.le_refl _, Nat.zero_le _⟩
      · simp only [Option.isSome_some, Option.getD_some]
        have N2 : Hid (∀ j : Nat, j < i + 1 → numC (a + (j : Int)) bss ≠ none) := fun j hj => by
          by_cases q : j < i
          · exact NN.out j q
          · obtain rfl : j = i := by omega
            rw [← HR.out]; exact Option.some_ne_none _
        have E1 : Hid (((List.range (i + 1)).map fun (j : Nat) => (numC (a + (j : Int)) bss).getD 0) = ((List.range i).map fun (j : Nat) => (numC (a + (j : Int)) bss).getD 0) ++ [x]) := by
          show _ = _
          rw [all_next, ← HR.out]; rfl
        have hs2 := B2.out.size
        have i4 : i ≤ 4096 := by omega
        obtain ⟨us, hus⟩ : ∃ us, us = ((List.range i).map fun (j : Nat) => (numC (a + (j : Int)) bss).getD 0).flatMap ucells := ⟨_, rfl⟩
        have HUS := Lib.hid hus
        rw [← hus] at O2
        clear hus
        go_wp2_with (at_builtin; refine wpList_append_own _ rfl _ _ 22 rfl w.heap.size 40 i0 (.int .u64 0) 1 8 Try.underlying22 hi hz0 hz1 hz2 rfl (by decide) _ _ _ rfl (O2.out.alloc _) ⟨w2.heap.size, 0, none⟩ 1 1 (ucells x) rfl rfl ?c1 (ucells_one _) ?c3 ?c4 ?c5 ?_)
        case c1 => first | exact fun _ _ h => h | exact new_cells
        case c3 => unfold maxLen; omega
        case c4 => omega
        case c5 => first | omega | (simp; omega)
        intro v' w4 hown2 hgrow hcp
        clear hcp
        have O4 : Hid (w4.ownsRow w.heap.size 40 1 v' (i + 1) (((List.range (i + 1)).map fun (j : Nat) => (numC (a + (j : Int)) bss).getD 0).flatMap ucells)) := by
          show World.ownsRow _ _ _ _ _ _ _
          rw [E1.out, List.flatMap_append, ← HUS.out, show [x].flatMap ucells = ucells x by simp]
          exact hown2
        have B4 : Hid (Below w.heap.size w w4) := (B2.out.alloc hs2 _).grown hgrow (by simp; omega) (fun q hqq => (O2.out.lt _ hqq).1)
        clear hown2 hgrow O2 hs2
        go_wp2_with fail
        go_roundg (M - (i + 1))
        case measure => have := HG.out; have := KN.out; omega
        case rel => exact ⟨i + 1, by have := KN.out; omega, rfl, by go_num, fun _ => ⟨a0, a1⟩, N2, O4, B4⟩
    · obtain rfl : i = M := by omega
      have OK : Hid (okGa a (i : Int) bss = true) := ok_ga.2 ⟨by omega, by omega, by have := RA.out; omega, fun j hj => NN.out j (by omega)⟩
      have E : Hid (gaL a (i : Int) bss = (List.range i).map fun (j : Nat) => (numC (a + (j : Int)) bss).getD 0) := by
        show _ = _
        unfold gaL; rw [if_pos OK.out]; unfold allGa; rw [Int.toNat_natCast]
      obtain ⟨A', c', rfl, z1, hr, e3, e4⟩ := own_cap ucells_len (by decide) OW.out
      have HR := Lib.hid hr; have E3 := Lib.hid e3; have E4 := Lib.hid e4; have Z1 := Lib.hid z1
      clear hr z1 e3 e4 kn
      go_wp2_with fail
      go_ret2
      exact ⟨A', c', _, by rw [OK.out]; rfl, by rw [E.out]; exact Z1.out, by rw [E.out]; exact HR.out, BK.out, E3.out, E4.out⟩

set_option maxHeartbeats 1000000 in
set_option maxRecDepth 100000 in
theorem rsame14 (A B : Option Addr) (cA cB na nb : Nat) (bss : List (List UInt8)) (w : World) (hx : BR w A bss) (hy : BR w B bss) (lx : na = bss.length) (ly : nb = bss.length) (hn : na ≤ 1000000) :
    Calls Try.prog 19 #[.slice A na cA, .slice B nb cB] w fun e w' => e = .returned (.bool true) ∧ Below w.heap.size w w' := by
  obtain rfl : nb = na := by omega
  have HX := Lib.hid hx; have HY := Lib.hid hy; have LX := Lib.hid lx
  have hne : ((nb : Int) != (nb : Int)) = false := by simp
  clear hx hy lx ly
  go_enter Try.func19, Try.ntmps19
  go_wp2_with fail
  go_loopg [5] nb (fun gh s5 wr => ∃ k : Nat, k ≤ nb ∧ Hid (gh = nb - k) ∧ s5 = .int .i64 (k : Int) ∧ Hid (Below w.heap.size w wr))
  case atStart => exact ⟨0, Nat.zero_le _, by show _ = _; omega, rfl, Below.refl _ _⟩
  case round =>
    obtain ⟨k, hk, HG, rfl, BK⟩ := hrel
    by_cases kn : k < nb
    · obtain ⟨b, gb⟩ : ∃ b, bss[k]? = some b := ⟨_, List.getElem?_eq_getElem (by rw [← LX.out]; exact kn)⟩
      obtain ⟨b1, o1, h, rfl, l1, hc, HB1⟩ := HX.out.get gb
      obtain ⟨b2, o2, j, rfl, l2, jc, HB2⟩ := HY.out.get gb
      have c1 := (BK.out.cell (p := ⟨b1, o1 + k, none⟩) l1).trans hc
      have c2 := (BK.out.cell (p := ⟨b2, o2 + k, none⟩) l2).trans jc
      have t1 : ∀ w', Below w.heap.size w w' → (convert 23 9 (.slice h.a h.n h.c)).run Try.prog w' = .ok (.string (tx b)) w' := fun w' hb => text_of (HB1.2.2.below hb) HB1.1
      have t2 : ∀ w', Below w.heap.size w w' → (convert 23 9 (.slice j.a j.n j.c)).run Try.prog w' = .ok (.string (tx b)) w' := fun w' hb => text_of (HB2.2.2.below hb) HB2.1
      have ki : (k : Int) < (nb : Int) := by omega
      have ka : (0 : Int) ≤ (k : Int) := by omega
      have y1 := fun m => t1 (wr.drewN m) (chain_drewN BK.out m)
      have y2 := fun m => t2 (wr.drewN m) (chain_drewN BK.out m)
      have ne : ((tx b).toList == (tx b).toList) = true := by simp
      have KN := Lib.hid kn
      clear hc jc t1 t2 l1 l2 gb HB1 HB2 kn
      go_wp2_with fail
      go_quiet (fail)
      go_wp2_with fail
      go_roundg (nb - (k + 1))
      case measure => have := HG.out; have := KN.out; omega
      case rel => exact ⟨k + 1, by have := KN.out; omega, rfl, by go_num, chain_drewN BK.out _⟩
    · obtain rfl : k = nb := by omega
      go_wp2_with fail
      go_ret
      exact ⟨rfl, BK.out⟩

end Go.Proofs.Ytlllinpaclodaaa
