/-
  What package sector answers: lay.
-/
import Derived.Test.YtjokaaekliapmaaDoorQPub1
namespace Go.Proofs.YtjokaaekliapmaaDoor
open Go.RowKit

/-- Bytes of which those in a set are laid. -/
def FB (w : World) (g m : Nat) (S : Nat → Prop) (bs : List UInt8) : Prop :=
  ∃ cs : Array Value, w.heap[g]? = some (.cells cs 5 (0, 0)) ∧ cs.size = m ∧ (∀ j, j < m → ∃ v : Int, cs[j]? = some (.int .u8 v)) ∧ ∀ j x, S j → bs[j]? = some x → cs[j]? = some (.int .u8 (bz x))
theorem FB.made (w : World) (m : Nat) (S : Nat → Prop) (bs : List UInt8) (hl : bs.length = m) (hz : ∀ j x, S j → bs[j]? = some x → x = 0) : FB (w.alloc (.cells (madeCells #[.int .u8 0] m) 5)) w.heap.size m S bs := by
  have hc : ∀ j, j < m → (madeCells #[Value.int .u8 0] m)[j]? = some (.int .u8 0) := fun j hj => by simp [madeCells, hj, Nat.mod_one]
  refine ⟨_, heap_alloc_new w _, by rw [size_madeCells], fun j hj => ⟨0, hc j hj⟩, fun j x hj hx => ?_⟩
  have hl := (List.getElem?_eq_some_iff.1 hx).1
  rw [hc j (by omega), hz j x hj hx]; rfl
theorem FB.facts {w : World} {g m : Nat} {S : Nat → Prop} {bs : List UInt8} (h : FB w g m S bs) {j : Nat} (hj : j < m) : (∃ v, w.cell? ⟨g, j, none⟩ = some (.int .u8 v)) ∧ w.frozen? ⟨g, j, none⟩ = false := by
  obtain ⟨cs, h1, h2, h3, _⟩ := h
  exact ⟨by rw [Lib.cell_of_heap h1]; exact h3 j hj, Lib.frozen_of_heap h1 j⟩
theorem FB.step {w : World} {g m : Nat} {S S' : Nat → Prop} {bs : List UInt8} {k : Nat} {x : UInt8} (h : FB w g m S bs) (hk : k < m) (hx : bs[k]? = some x) (hS : ∀ j, S' j → S j ∨ j = k) : FB (w.setCell ⟨g, k, none⟩ (.int .u8 (bz x))) g m S' bs := by
  obtain ⟨cs, h1, h2, h3, h4⟩ := h
  refine ⟨_, Lib.heap_setCell_same h1 _, by simp [h2], fun j hj => ?_, fun j y hj hy => ?_⟩
  · by_cases e : j = k
    · subst e; exact ⟨_, by rw [Array.getElem?_setIfInBounds_self_of_lt (by omega)]⟩
    · obtain ⟨v, hv⟩ := h3 j hj
      exact ⟨v, by rw [Array.getElem?_setIfInBounds_ne (by omega)]; exact hv⟩
  · by_cases e : j = k
    · subst e
      rw [hx] at hy
      obtain rfl := Option.some.inj hy
      rw [Array.getElem?_setIfInBounds_self_of_lt (by omega)]
    · rw [Array.getElem?_setIfInBounds_ne (by omega)]
      exact h4 j y ((hS j hj).resolve_right e) hy
theorem FB.mono {w : World} {g m : Nat} {S S' : Nat → Prop} {bs : List UInt8} (h : FB w g m S bs) (hS : ∀ j, S' j → S j) : FB w g m S' bs := by
  obtain ⟨cs, h1, h2, h3, h4⟩ := h
  exact ⟨cs, h1, h2, h3, fun j x hj => h4 j x (hS j hj)⟩
theorem FB.lt {w : World} {g m : Nat} {S : Nat → Prop} {bs : List UInt8} (h : FB w g m S bs) : g < w.heap.size := by
  obtain ⟨cs, h1, _⟩ := h
  exact (Array.getElem?_eq_some_iff.1 h1).1
theorem FB.keep {w w' : World} {g m : Nat} {S : Nat → Prop} {bs : List UInt8} (h : FB w g m S bs) (hb : Below w.heap.size w w') : FB w' g m S bs := by
  have lt := h.lt
  obtain ⟨cs, h1, h2, h3, h4⟩ := h
  exact ⟨cs, (hb.block g lt).trans h1, h2, h3, h4⟩
theorem FB.done {w : World} {g m B : Nat} {S : Nat → Prop} {bs : List UInt8} (h : FB w g m S bs) (hS : ∀ j, j < m → S j) (hl : bs.length = m) (hB : B ≤ g) (hm : m ≤ maxLen) : w.ownsRow B 5 1 (.slice (some ⟨g, 0, none⟩) m m) m (bs.flatMap bcells) := by
  obtain ⟨cs, h1, h2, h3, h4⟩ := h
  refine ⟨by rw [flat_len bcells_len, hl], .inr ⟨g, m, cs, rfl, hB, h1, Nat.le_refl _, hm, by omega, ?_⟩⟩
  rw [Nat.mul_one, List.take_of_length_le (by simp; omega)]
  apply List.ext_getElem?
  intro j
  rw [Array.getElem?_toList]
  by_cases hj : j < m
  · have hb : bs[j]? = some (bs[j]'(by omega)) := List.getElem?_eq_getElem _
    rw [h4 j _ (hS j hj) hb]
    have := flat_get bcells_len bs j 0 _ hb (by decide)
    rw [Nat.mul_one, Nat.add_zero] at this
    rw [this]; rfl
  · rw [Array.getElem?_eq_none (by omega), List.getElem?_eq_none (by rw [flat_len bcells_len, hl]; omega)]

def ofN (i : Nat) : Nat := [0, 8, 10, 11, 13, 14].getD i 0
theorem of_next {i : Nat} (h : i < 5) : ofN (i + 1) = ofN i + wdN i ∧ 1 ≤ wdN i ∧ wdN i ≤ 8 ∧ ofN (i + 1) ≤ 14 := by
  match i, h with
  | 0, _ => decide
  | 1, _ => decide
  | 2, _ => decide
  | 3, _ => decide
  | 4, _ => decide
/-- What stands in bytes where numbers are laid. -/
def Stand (ns : List Nat) (bs : List UInt8) : Prop := ∀ i x, ns[i]? = some x → ∀ k, k < wdN i → bs[ofN i + k]? = some (UInt8.ofNat (x / 256 ^ (wdN i - 1 - k)))
theorem cut_up (g o r m q s : Nat) (h1 : o + m = q) (h2 : s + m = r) (h3 : 0 < s) (w : World) : (Instr.slice 22 (.slice (some ⟨g, o, none⟩) r r) (some (.int .i64 (m : Int))) none none).run Tryd.prog w = .ok (.slice (some ⟨g, q, none⟩) s s) w := by
  subst h1 h2
  have e1 : ¬ s + m = m := by omega
  have e2 : (m : Int) ≤ (s : Int) + (m : Int) := by omega
  have e4 : ¬ s = 0 := by omega
  go_simp
theorem shr_byte (x j : Nat) (hj : j ≤ 8) (v : World) : (Op.shift .shr .i64 (x : Int) .i64 (IntKind.i64.wrap (8 * (j : Int)))).run Tryd.prog v = .ok (.int .i64 ((x / 256 ^ j : Nat) : Int)) v := by
  have h0 : (0 : Int) ≤ 8 * (j : Int) := by omega
  have h1 : 8 * (j : Int) ≤ 64 := by omega
  have e : (x : Int) / 2 ^ (8 * (j : Int)).toNat = ((x / 256 ^ j : Nat) : Int) := by
    rw [show (8 * (j : Int)).toNat = 8 * j by omega, Int.natCast_ediv, show ((256 ^ j : Nat) : Int) = ((2 ^ (8 * j) : Nat) : Int) by rw [Nat.pow_mul], Int.natCast_pow]
    rfl
  have s := shift_shr_i64 .i64 (x : Int) (8 * (j : Int)) h0 h1
  rw [e] at s
  rw [IntWalk.i64_in _ (by omega), s]
  rfl
theorem arr5 : Tryd.prog.arrayLen 34 = 5 := by kernel_rfl

set_option maxHeartbeats 4000000 in
set_option maxRecDepth 100000 in
theorem lay16 (g h : Nat) (ns : List Nat) (bs : List UInt8) (S : Nat → Prop) (C : Array Value) (w0 w : World) (hT : Wd w0) (hB : Below w0.heap.size w0 w) (hg : w0.heap.size ≤ g) (hgh : ¬ g = h) (hC : w.heap[h]? = some (.cells C 3 (0, 0))) (hN : ∀ (i x : Nat), ns[i]? = some x → C[i]? = some (Value.int .i64 (x : Int)) ∧ x < 9223372036854775808) (hL : ns.length = 5) (hS : Stand ns bs) (hF : FB w g 64 S bs) :
    Calls Tryd.prog 23 #[.slice (some ⟨g, 0, none⟩) 64 64, .slice (some ⟨h, 0, none⟩) 5 5] w fun e w' => e = .returned (.slice (some ⟨g, 14, none⟩) 50 50) ∧ FB w' g 64 (fun j => S j ∨ j < 14) bs ∧ Below w0.heap.size w0 w' := by
  have HT := Lib.hid hT; have HN := Lib.hid hN; have HL := Lib.hid hL; have HS := Lib.hid hS; have HGH := Lib.hid hgh; have HG0 := Lib.hid hg
  have HB := Lib.hid hB; have HC := Lib.hid hC; have HF := Lib.hid hF
  have al := arr5
  clear hT hB hg hgh hC hN hL hS hF
  go_enter Tryd.func23, Tryd.ntmps23
  go_wp2_with fail
  go_loopg [0, 10] 5 (fun gh s0 s10 wr => ∃ i o r : Nat, i ≤ 5 ∧ Hid (gh = 5 - i) ∧ Hid (o = ofN i) ∧ Hid (r + o = 64) ∧ s10 = .int .i64 (i : Int) ∧ s0 = .slice (some ⟨g, o, none⟩) r r ∧ Hid (FB wr g 64 (fun j => S j ∨ j < o) bs) ∧ Hid (wr.heap[h]? = some (.cells C 3 (0, 0))) ∧ Hid (Below w0.heap.size w0 wr))
  case atStart => exact ⟨0, 0, 64, by omega, rfl, rfl, rfl, rfl, rfl, by show FB _ _ _ _ _; exact HF.out.mono (fun j hj => hj.resolve_right (by omega)), HC, HB⟩
  case round =>
    clear HF HC HB
    obtain ⟨i, o, r, hi5, HG, HO, HR, rfl, rfl, FK, CK, BK⟩ := hrel
    by_cases i5 : i < 5
    · have ii : (i : Int) < 5 := by omega
      have ia : (0 : Int) ≤ (i : Int) := by omega
      obtain ⟨x, gx⟩ : ∃ x, ns[i]? = some x := ⟨_, List.getElem?_eq_getElem (by rw [HL.out]; exact i5)⟩
      have GX := Lib.hid gx
      have c1 : wr.cell? ⟨h, i, none⟩ = some (.int .i64 (x : Int)) := by rw [Lib.cell_of_heap CK.out]; exact (HN.out i x gx).1
      have X63 : Hid (x < 9223372036854775808) := (HN.out i x gx).2
      obtain ⟨z1, z2, z3, z4⟩ := of_next i5
      obtain ⟨m, hm⟩ : ∃ m, m = wdN i := ⟨_, rfl⟩
      have w0c := Lib.hid ((HT.out.below BK.out).cell i5)
      rw [← hm] at z1 z2 z3 w0c
      have Z1 := Lib.hid z1; have Z4 := Lib.hid z4; have HM := Lib.hid hm; have I5 := Lib.hid i5
      have M1 := Lib.hid z2; have M8 := Lib.hid z3
      have c0 := w0c.out
      clear gx z1 z4 hm i5 z2 z3
      go_wp2_with fail
      clear c0 c1
      go_loopg [18] m (fun gh s18 wx => ∃ j : Nat, j ≤ m ∧ Hid (gh = m - j) ∧ s18 = .int .i64 (j : Int) ∧ Hid (FB wx g 64 (fun q => S q ∨ q < o ∨ (o + m - j ≤ q ∧ q < o + m)) bs) ∧ Hid (wx.heap[h]? = some (.cells C 3 (0, 0))) ∧ Hid (Below w0.heap.size w0 wx))
      case atStart => exact ⟨0, by omega, by show _ = _; omega, rfl, by
        show FB _ _ _ _ _
        exact FK.out.mono (fun q hq => by rcases hq with a | a | a <;> first | exact .inl a | exact .inr a | omega), CK, BK⟩
      case round =>
        clear FK CK BK
        obtain ⟨j, hjm, HG2, rfl, FK, CK, BK⟩ := hrel
        by_cases jn : j < m
        · have ji : (j : Int) < (m : Int) := by omega
          have ja : (0 : Int) ≤ (j : Int) := by omega
          have m8 := M8.out
          obtain ⟨k, hk⟩ : ∃ k, k = m - 1 - j := ⟨_, rfl⟩
          have ek : (m : Int) - 1 - (j : Int) = (k : Int) := by omega
          have KW : Hid (IntKind.i64.wrap (IntKind.i64.wrap ((m : Int) - 1) - (j : Int)) = (k : Int)) := by
            show _ = _
            rw [IntWalk.i64_in ((m : Int) - 1) (by omega), ek, IntWalk.i64_in _ (by omega)]
          have km : k < m := by omega
          have kr : (k : Int) < (r : Int) := by have := HR.out; have := HO.out; have := Z1.out; have := Z4.out; omega
          have ka : (0 : Int) ≤ (k : Int) := by omega
          have ok64 : o + k < 64 := by have := HO.out; have := Z1.out; have := Z4.out; omega
          have BX : Hid (bs[o + k]? = some (UInt8.ofNat (x / 256 ^ j))) := by
            have := HS.out i x GX.out k (by rw [← HM.out]; exact km)
            rw [← HO.out, ← HM.out, show m - 1 - k = j by omega] at this
            exact this
          obtain ⟨⟨v, cv⟩, pv⟩ := FK.out.facts ok64
          have c0 := ((HT.out.below BK.out).cell I5.out)
          rw [← HM.out] at c0
          have JN := Lib.hid jn; have HK := Lib.hid hk; have OK := Lib.hid ok64
          have sh : ∀ v, (Op.shift .shr .i64 (x : Int) .i64 (IntKind.i64.wrap (8 * (j : Int)))).run Tryd.prog v = .ok (.int .i64 ((x / 256 ^ j : Nat) : Int)) v := fun v => shr_byte x j (by omega) v
          obtain ⟨y, hy⟩ : ∃ y, y = x / 256 ^ j := ⟨_, rfl⟩
          rw [← hy] at sh
          have y63 : y < 9223372036854775808 := by rw [hy]; exact Nat.lt_of_le_of_lt (Nat.div_le_self _ _) X63.out
          have uy : IntKind.u8.wrap (y : Int) = bz (UInt8.ofNat y) := bz_wrap y
          rw [← hy] at BX
          clear jn hk ok64 hy
          go_wp2_with fail
          refine wp_region_noPanic ?_
          refine wp_region_held_drew (S := fun w' => w'.cell? ⟨0, i, none⟩ = some (.int .i64 (m : Int))) (by kernel_rfl) c0 (fun hHeld => ?_)
          have hd := below_drew wr
          have F1 := Lib.hid (FK.out.keep hd)
          have C1 := Lib.hid ((hd.block h (Array.getElem?_eq_some_iff.1 CK.out).1).trans CK.out)
          have B1 := Lib.hid (BK.out.trans (hd.mono BK.out.size))
          replace cv := (hd.cell (p := ⟨g, o + k, none⟩) FK.out.lt).trans cv
          obtain ⟨_, pv⟩ := F1.out.facts OK.out
          generalize wr.drew = wd at hHeld F1 C1 B1 cv pv ⊢
          clear hd c0
          refine wpAnyH_take (i := 0) (v := ?vv0) (by simp only [List.getElem?_toArray, List.getElem?_cons_zero]; rfl) (by kernel_rfl) (by kernel_rfl) (by kernel_rfl) (fun _ _ _ h => h) (Or.inl ⟨by rfl, ?yy0⟩) (by assumption) ?rr0
          case yy0 => (intro w hSw; (try dsimp only at hSw); go_simp; first | done | with_reducible rfl)
          simp only [Act.put, List.setIfInBounds_toArray, List.set_cons_zero, List.set_cons_succ]
          refine wpAnyH_take (i := 1) (v := ?vv1) (by simp only [List.getElem?_toArray, List.getElem?_cons_zero, List.getElem?_cons_succ]; rfl) (by kernel_rfl) (by kernel_rfl) (by kernel_rfl) (fun _ _ _ h => h) (Or.inl ⟨by rfl, ?yy1⟩) (by assumption) ?rr1
          case yy1 => (intro w hSw; (try dsimp only at hSw); go_simp; first | done | with_reducible rfl)
          simp only [Act.put, List.setIfInBounds_toArray, List.set_cons_zero, List.set_cons_succ]
          refine wpAnyH_take (i := 2) (v := ?vv2) (by simp only [List.getElem?_toArray, List.getElem?_cons_zero, List.getElem?_cons_succ]; rfl) (by kernel_rfl) (by kernel_rfl) (by kernel_rfl) (fun _ _ _ h => h) (Or.inl ⟨by rfl, ?yy2⟩) (by assumption) ?rr2
          case yy2 => (intro w hSw; (try dsimp only at hSw); go_simp; first | done | with_reducible rfl)
          simp only [Act.put, List.setIfInBounds_toArray, List.set_cons_zero, List.set_cons_succ]
          refine wpAnyH_take (i := 3) (v := ?vv3) (by simp only [List.getElem?_toArray, List.getElem?_cons_zero, List.getElem?_cons_succ]; rfl) (by kernel_rfl) (by kernel_rfl) (by kernel_rfl) (fun _ _ _ h => h) (Or.inl ⟨by rfl, ?yy3⟩) (by assumption) ?rr3
          case yy3 => (intro w hSw; (try dsimp only at hSw); go_simp; first | done | with_reducible rfl)
          simp only [Act.put, List.setIfInBounds_toArray, List.set_cons_zero, List.set_cons_succ]
          refine wpAnyH_take (i := 4) (v := ?vv4) (by simp only [List.getElem?_toArray, List.getElem?_cons_zero, List.getElem?_cons_succ]; rfl) (by kernel_rfl) (by kernel_rfl) (by kernel_rfl) (fun _ _ _ h => h) (Or.inl ⟨by rfl, ?yy4⟩) (by assumption) ?rr4
          case yy4 => (intro w hSw; (try dsimp only at hSw); go_simp; first | done | with_reducible rfl)
          simp only [Act.put, List.setIfInBounds_toArray, List.set_cons_zero, List.set_cons_succ]
          refine wpAnyH_take (i := 5) (v := ?vv5) (by simp only [List.getElem?_toArray, List.getElem?_cons_zero, List.getElem?_cons_succ]; rfl) (by kernel_rfl) (by kernel_rfl) (by kernel_rfl) (fun _ _ _ h => h) (Or.inl ⟨by rfl, ?yy5⟩) (by assumption) ?rr5
          case yy5 => (intro w hSw; (try dsimp only at hSw); go_simp; first | done | with_reducible rfl)
          simp only [Act.put, List.setIfInBounds_toArray, List.set_cons_zero, List.set_cons_succ]
          refine wpAnyH_take (i := 6) (v := ?vv6) (by simp only [List.getElem?_toArray, List.getElem?_cons_zero, List.getElem?_cons_succ]; rfl) (by kernel_rfl) (by kernel_rfl) (by kernel_rfl) (fun _ _ _ h => h) (Or.inl ⟨by rfl, ?yy6⟩) (by assumption) ?rr6
          case yy6 => (intro w hSw; have kw := KW.out; (try dsimp only at hSw); go_simp; first | done | with_reducible rfl)
          simp only [Act.put, List.setIfInBounds_toArray, List.set_cons_zero, List.set_cons_succ]
          refine wpAnyH_take (i := 7) (v := ?vv7) (by simp only [List.getElem?_toArray, List.getElem?_cons_zero, List.getElem?_cons_succ]; rfl) (by kernel_rfl) (by kernel_rfl) (by kernel_rfl) (fun _ _ _ h => h) (Or.inl ⟨by rfl, ?yy7⟩) (by assumption) ?rr7
          case yy7 => (intro w hSw; (try dsimp only at hSw); go_simp; first | done | with_reducible rfl)
          simp only [Act.put, List.setIfInBounds_toArray, List.set_cons_zero, List.set_cons_succ]
          refine wpAnyH_take (i := 8) (v := ?vv8) (by simp only [List.getElem?_toArray, List.getElem?_cons_zero, List.getElem?_cons_succ]; rfl) (by kernel_rfl) (by kernel_rfl) (by kernel_rfl) (fun _ _ _ h => h) (Or.inl ⟨by rfl, ?yy8⟩) (by assumption) ?rr8
          case yy8 => (intro w hSw; (try dsimp only at hSw); go_simp; first | done | with_reducible rfl)
          simp only [Act.put, List.setIfInBounds_toArray, List.set_cons_zero, List.set_cons_succ]
          refine wpAnyH_take (i := 9) (v := ?vv9) (by simp only [List.getElem?_toArray, List.getElem?_cons_zero, List.getElem?_cons_succ]; rfl) (by kernel_rfl) (by kernel_rfl) (by kernel_rfl) (fun _ _ _ h => h) (Or.inl ⟨by rfl, ?yy9⟩) (by assumption) ?rr9
          case yy9 => (intro w hSw; (try dsimp only at hSw); go_simp; first | done | with_reducible rfl)
          simp only [Act.put, List.setIfInBounds_toArray, List.set_cons_zero, List.set_cons_succ]
          refine wpAnyH_take (i := 10) (v := ?vv10) (by simp only [List.getElem?_toArray, List.getElem?_cons_zero, List.getElem?_cons_succ]; rfl) (by kernel_rfl) (by kernel_rfl) (by kernel_rfl) (fun _ _ _ h => h) (Or.inl ⟨by rfl, ?yy10⟩) (by assumption) ?rr10
          case yy10 => (intro w hSw; (try dsimp only at hSw); go_simp; first | done | with_reducible rfl)
          simp only [Act.put, List.setIfInBounds_toArray, List.set_cons_zero, List.set_cons_succ]
          refine wpAnyH_take (i := 11) (v := ?vv11) (by simp only [List.getElem?_toArray, List.getElem?_cons_zero, List.getElem?_cons_succ]; rfl) (by kernel_rfl) (by kernel_rfl) (by kernel_rfl) (fun _ _ _ h => h) (Or.inl ⟨by rfl, ?yy11⟩) (by assumption) ?rr11
          case yy11 => (intro w hSw; (try dsimp only at hSw); go_simp; first | done | with_reducible rfl)
          simp only [Act.put, List.setIfInBounds_toArray, List.set_cons_zero, List.set_cons_succ]
          refine wpAnyH_take (i := 12) (v := ?vv12) (by simp only [List.getElem?_toArray, List.getElem?_cons_zero, List.getElem?_cons_succ]; rfl) (by kernel_rfl) (by kernel_rfl) (by kernel_rfl) (fun _ _ _ h => h) (Or.inl ⟨by rfl, ?yy12⟩) (by assumption) ?rr12
          case yy12 => (intro w hSw; (try dsimp only at hSw); go_simp; first | done | with_reducible rfl)
          simp only [Act.put, List.setIfInBounds_toArray, List.set_cons_zero, List.set_cons_succ]
          refine wpAnyH_ready (rs := [13]) (by kernel_rfl) (by simp) ?_
          refine AllReadyH.cons (by simp only [List.getElem?_toArray, List.getElem?_cons_zero, List.getElem?_cons_succ]; rfl) (fun K hK => ?_) AllReadyH.nil
          go_simp
          have F2 := Lib.hid (F1.out.step (S' := fun q => S q ∨ q < o ∨ (o + m - (j + 1) ≤ q ∧ q < o + m)) OK.out BX.out (fun q hq => by
            have := HK.out; have := JN.out; have := M1.out
            rcases hq with a | a | a
            · exact .inl (.inl a)
            · exact .inl (.inr (.inl a))
            · by_cases z : q = o + k
              · exact .inr z
              · exact .inl (.inr (.inr ⟨by omega, a.2⟩))))
          have B2 : Hid (Below w0.heap.size w0 (wd.setCell ⟨g, o + k, none⟩ (.int .u8 (bz (UInt8.ofNat y))))) := B1.out.setCell (p := ⟨g, o + k, none⟩) HG0.out _
          have C2 : Hid ((wd.setCell ⟨g, o + k, none⟩ (.int .u8 (bz (UInt8.ofNat y)))).heap[h]? = some (.cells C 3 (0, 0))) := (Below.heap_setCell _ ⟨g, o + k, none⟩ _ h (fun z => HGH.out z.symm)).trans C1.out
          refine hK.out _ _ (by have := ((HT.out.below B2.out).cell I5.out); rw [← HM.out] at this; exact this) (fun hHeld => ?_)
          clear hK K hHeld cv pv
          try simp only [Act.put, List.setIfInBounds_toArray, List.set_cons_zero, List.set_cons_succ]
          generalize wd.setCell ⟨g, o + k, none⟩ (.int .u8 (bz (UInt8.ofNat y))) = wz at F2 B2 C2 ⊢
          refine wpAnyH_done (by kernel_rfl) ?_ _
          refine NoPanic.normal ?_
          clear F1 B1 C1 FK CK BK
          go_wp2_with fail
          go_roundg (m - (j + 1))
          case measure => have := HG2.out; have := JN.out; omega
          case rel => exact ⟨j + 1, by have := JN.out; omega, rfl, by go_num, F2, C2, B2⟩
        · obtain rfl : j = m := by omega
          have q1 := HO.out; have q2 := Z1.out; have q3 := Z4.out; have q4 := HR.out; have q5 := M1.out
          obtain ⟨o2, ho2⟩ : ∃ o2, o2 = o + j := ⟨_, rfl⟩
          obtain ⟨r2, hr2⟩ : ∃ r2, r2 = r - j := ⟨_, rfl⟩
          have cu := cut_up g o r j o2 r2 ho2.symm (by omega) (by omega)
          have F2 : Hid (FB wr g 64 (fun q => S q ∨ q < o2) bs) := FK.out.mono (fun q hq => by
            rcases hq with a | a
            · exact .inl a
            · by_cases z : q < o
              · exact .inr (.inl z)
              · exact .inr (.inr ⟨by omega, by omega⟩))
          have O2 : Hid (o2 = ofN (i + 1)) := by show _ = _; omega
          have R2 : Hid (r2 + o2 = 64) := by show _ = _; omega
          have c0 := ((HT.out.below BK.out).cell I5.out)
          rw [← HM.out] at c0
          clear ho2 hr2 q1 q2 q3 q4 q5 FK hjm
          go_wp2_with fail
          go_roundg (5 - (i + 1))
          case measure => have := HG.out; have := I5.out; omega
          case rel => exact ⟨i + 1, o2, r2, by have := I5.out; omega, rfl, O2, R2, by go_num, rfl, F2, CK, BK⟩
    · obtain rfl : i = 5 := by omega
      obtain rfl : o = 14 := HO.out
      obtain rfl : r = 50 := by have := HR.out; omega
      clear HG HO HR
      go_wp2_with fail
      go_ret
      exact ⟨rfl, FK.out, BK.out⟩

end Go.Proofs.YtjokaaekliapmaaDoor
