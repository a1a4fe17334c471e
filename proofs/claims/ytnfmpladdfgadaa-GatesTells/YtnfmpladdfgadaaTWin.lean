/-
  What window of package terms does: it tells the places of a window, one by one.
-/
import Derived.Test.YtnfmpladdfgadaaTMath
import Derived.Test.YtnfmpladdfgadaaOf
import Derived.Deep.LoopGhost
namespace Go.Proofs.Ytnfmpladdfgadaa
open Go.RowKit

/-- Sources that lie in memory stay. -/
def KeepX (w w' : World) : Prop := ∀ (b : Nat) (cs : Array Value), w.heap[b]? = some (Obj.cells cs 87 (0, 0)) → w'.heap[b]? = some (Obj.cells cs 87 (0, 0))
theorem KeepX.refl (w : World) : KeepX w w := fun _ _ h => h
theorem KeepX.trans {a b c : World} (h : KeepX a b) (g : KeepX b c) : KeepX a c := fun x cs q => g x cs (h x cs q)
theorem KeepX.below {w w' : World} (h : Below w.heap.size w w') : KeepX w w' := fun b _ q => (h.block b (Array.getElem?_eq_some_iff.1 q).1).trans q
/-- A source in a variable. -/
def XB (w : World) (b : Nat) (lk lo lt ch : Int) (s : Sh) (m cx cy : Nat) : Prop := w.heap[b]? = some (.cells #[.int .i64 lk, .int .i64 lo, .int .i64 (m : Int), .int .i64 lt, .int .i64 s.c, .int .i64 s.h, .int .i64 s.x, .int .i64 ch, .complex .f64 (fl cx) (fl cy)] 87 (0, 0))
theorem XB.lt {w : World} {b : Nat} {lk lo lt ch : Int} {s : Sh} {m cx cy : Nat} (H : XB w b lk lo lt ch s m cx cy) : b < w.heap.size := (Array.getElem?_eq_some_iff.1 H).1
theorem XB.keep {w w' : World} {b : Nat} {lk lo lt ch : Int} {s : Sh} {m cx cy : Nat} (H : XB w b lk lo lt ch s m cx cy) (h : KeepX w w') : XB w' b lk lo lt ch s m cx cy := h b _ H
theorem XB.new (w : World) (lk lo lt ch : Int) (s : Sh) (m cx cy : Nat) : XB (w.alloc (.cells #[.int .i64 lk, .int .i64 lo, .int .i64 (m : Int), .int .i64 lt, .int .i64 s.c, .int .i64 s.h, .int .i64 s.x, .int .i64 ch, .complex .f64 (fl cx) (fl cy)] 87)) w.heap.size lk lo lt ch s m cx cy := heap_alloc_new w _
theorem XB.cells {w : World} {b : Nat} {lk lo lt ch : Int} {s : Sh} {m cx cy : Nat} (H : XB w b lk lo lt ch s m cx cy) :
    w.cell? ⟨b, 0, none⟩ = some (.int .i64 lk) ∧ w.cell? ⟨b, 1, none⟩ = some (.int .i64 lo) ∧ w.cell? ⟨b, 2, none⟩ = some (.int .i64 (m : Int)) ∧ w.cell? ⟨b, 3, none⟩ = some (.int .i64 lt) ∧ w.cell? ⟨b, 4, none⟩ = some (.int .i64 s.c) ∧ w.cell? ⟨b, 5, none⟩ = some (.int .i64 s.h) ∧ w.cell? ⟨b, 6, none⟩ = some (.int .i64 s.x) ∧ w.cell? ⟨b, 7, none⟩ = some (.int .i64 ch) ∧ w.cell? ⟨b, 8, none⟩ = some (.complex .f64 (fl cx) (fl cy)) := by
  refine ⟨?_, ?_, ?_, ?_, ?_, ?_, ?_, ?_, ?_⟩ <;> (rw [Lib.cell_of_heap H]; rfl)

theorem fl_right (a b : Nat) (ha : a < 200) (hb : b < 200) (w : World) : (binOp .add 85 (.complex .f64 (fl a) (fl b)) (.complex .f64 4607182418800017408 0)).run Try.prog w = .ok (.complex .f64 (fl (a + 1)) (fl b)) w := by
  refine run_complex_sum w .add (.inl rfl) _ _ _ _ _ _ _ _ ?_
  unfold cSumBits
  rw [fl_add ⟨a, ha⟩, fl_none ⟨b, hb⟩]; rfl
theorem fl_down (a b : Nat) (ha : a < 200) (hb : b < 200) (w : World) : (binOp .add 85 (.complex .f64 (fl a) (fl b)) (.complex .f64 0 4607182418800017408)).run Try.prog w = .ok (.complex .f64 (fl a) (fl (b + 1))) w := by
  refine run_complex_sum w .add (.inl rfl) _ _ _ _ _ _ _ _ ?_
  unfold cSumBits
  rw [fl_none ⟨a, ha⟩, fl_add ⟨b, hb⟩]; rfl
theorem fl_back (a : Nat) (ha : a < 200) (w : World) : (convert 119 3 (.float .f64 (fl a))).run Try.prog w = .ok (.int .i64 (a : Int)) w :=
  run_convert_float_int w 119 3 .f64 .i64 (fl a) a (by kernel_rfl) Try.underlying3 (fl_int ⟨a, ha⟩)

set_option maxHeartbeats 4000000 in
set_option maxRecDepth 100000 in
theorem window_any (F : Nat) (caps : Array Value) (J : List Int → World → Prop)
    (hE : ∀ args w, Sem.run Try.prog (callFunc F args) w = .ok (.enter F args) w)
    (hJ : ∀ (xs : List Int) (x : Int) (w : World), xs.length < 2000 → J xs w → Calls Try.prog F (#[.int .i64 x] ++ caps) w fun e w' => e = .returned (.tuple #[]) ∧ J (xs ++ [x]) w' ∧ KeepX w w')
    (hS : ∀ (xs : List Int) (w w' : World), J xs w → Below w.heap.size w w' → J xs w')
    (lk lo lt ch : Int) (s : Sh) (m cx cy : Nat) (c : Int) (xs : List Int) (w : World) (h0 : J xs w) (hm : m ≤ 12) (hcx : cx ≤ 150) (hcy : cy ≤ 150) (hx : xs.length ≤ 1800) :
    Calls Try.prog 68 #[.agg #[.int .i64 lk, .int .i64 lo, .int .i64 (m : Int), .int .i64 lt, .int .i64 s.c, .int .i64 s.h, .int .i64 s.x, .int .i64 ch, .complex .f64 (fl cx) (fl cy)], .int .i64 c, .func (.func F) #[] caps] w fun e w' => e = .returned (.tuple #[]) ∧ J (xs ++ winL s c cy cx m) w' ∧ KeepX w w' := by
  have HJ := Lib.hid hJ; have HS := Lib.hid hS
  have X0 := Lib.hid (XB.new w lk lo lt ch s m cx cy)
  have J0 := Lib.hid (hS xs w (w.alloc (.cells #[.int .i64 lk, .int .i64 lo, .int .i64 (m : Int), .int .i64 lt, .int .i64 s.c, .int .i64 s.h, .int .i64 s.x, .int .i64 ch, .complex .f64 (fl cx) (fl cy)] 87)) h0 ((Below.refl _ w).alloc (Nat.le_refl _) _))
  have K0 : Hid (KeepX w (w.alloc (.cells #[.int .i64 lk, .int .i64 lo, .int .i64 (m : Int), .int .i64 lt, .int .i64 s.c, .int .i64 s.h, .int .i64 s.x, .int .i64 ch, .complex .f64 (fl cx) (fl cy)] 87))) := KeepX.below ((Below.refl _ w).alloc (Nat.le_refl _) _)
  clear hJ hS h0
  go_enter Try.func68, Try.ntmps68
  go_wp2_with fail
  generalize w.alloc (.cells #[.int .i64 lk, .int .i64 lo, .int .i64 (m : Int), .int .i64 lt, .int .i64 s.c, .int .i64 s.h, .int .i64 s.x, .int .i64 ch, .complex .f64 (fl cx) (fl cy)] 87) = W at X0 J0 K0 ⊢
  go_loopg [6, 7, 13] m (fun g s6 _ s13 wx => ∃ r : Nat, r ≤ m ∧ Hid (g = m - r) ∧ s6 = .complex .f64 (fl cx) (fl (cy + r)) ∧ s13 = .int .i64 (r : Int) ∧ Hid (J (xs ++ winR s c cy cx m r) wx) ∧ Hid (KeepX W wx))
  case atStart => exact ⟨0, by omega, by show _ = _; omega, rfl, rfl, by show J _ _; simpa [winR] using J0.out, KeepX.refl _⟩
  case round =>
    obtain ⟨r, hr, HG, rfl, rfl, JR, KR⟩ := hrel
    have XR := Lib.hid (X0.out.keep KR.out)
    obtain ⟨x0, x1, x2, x3, x4, x5, x6, x7, x8⟩ := XR.out.cells
    by_cases rm : r < m
    · have ri : (r : Int) < (m : Int) := by omega
      go_wp2_with fail
      go_loopg [7, 19] m (fun g s7 s19 wx => ∃ q : Nat, q ≤ m ∧ Hid (g = m - q) ∧ s7 = .complex .f64 (fl (cx + q)) (fl (cy + r)) ∧ s19 = .int .i64 (q : Int) ∧ Hid (J ((xs ++ winR s c cy cx m r) ++ rowL s c (cy + (r : Nat)) cx q) wx) ∧ Hid (KeepX W wx))
      case atStart => exact ⟨0, by omega, by show _ = _; omega, rfl, rfl, by show J _ _; simpa [rowL] using JR.out, KR⟩
      case round =>
        obtain ⟨q, hq, HG2, rfl, rfl, JQ, KQ⟩ := hrel
        have XQ := Lib.hid (X0.out.keep KQ.out)
        clear x0 x1 x2 x3 x4 x5 x6 x7 x8
        obtain ⟨x0, x1, x2, x3, x4, x5, x6, x7, x8⟩ := XQ.out.cells
        by_cases qm : q < m
        · have qi : (q : Int) < (m : Int) := by omega
          have b1 := fl_back (cy + r) (by omega)
          have b2 := fl_back (cx + q) (by omega)
          have b3 := fl_right (cx + q) (cy + r) (by omega) (by omega)
          obtain ⟨a, ha⟩ : ∃ a : Int, ((cy + r : Nat) : Int) = a := ⟨_, rfl⟩
          obtain ⟨b, hb⟩ : ∃ b : Int, ((cx + q : Nat) : Int) = b := ⟨_, rfl⟩
          rw [ha] at b1
          rw [hb] at b2
          have HA := Lib.hid ha; have HB := Lib.hid hb
          clear ha hb
          go_wp2_with fail
          refine (at_any s.c s.h s.x c a b _).mono ?_
          rintro e w2 ⟨rfl, hb2⟩
          have J2 := Lib.hid (HS.out _ _ _ JQ.out hb2)
          have K2 := Lib.hid (KQ.out.trans (KeepX.below hb2))
          have hlen : ((xs ++ winR s c cy cx m r) ++ rowL s c (cy + (r : Nat)) cx q).length < 2000 := by
            rw [List.length_append, List.length_append, win_len, row_len]
            have : r * m ≤ 11 * 12 := Nat.mul_le_mul (by omega) hm
            omega
          have HLEN := Lib.hid hlen
          obtain ⟨z, hz⟩ : ∃ z, atI s.c s.h s.x c a b = z := ⟨_, rfl⟩
          rw [hz]
          have HZ := Lib.hid hz
          clear hb2 hlen hz
          go_wp2_with fail
          refine (HJ.out _ z _ HLEN.out J2.out).mono ?_
          rintro e w3 ⟨rfl, hj3, hk3⟩
          have J3 : Hid (J ((xs ++ winR s c cy cx m r) ++ rowL s c (cy + (r : Nat)) cx (q + 1)) w3) := by
            show J _ _
            rw [row_next, ← List.append_assoc, show ((cy : Int) + (r : Nat)) = a by rw [← HA.out]; omega, show ((cx : Int) + (q : Nat)) = b by rw [← HB.out]; omega, HZ.out, show a = ((cy : Int) + (r : Nat)) by rw [← HA.out]; omega]
            exact hj3
          have K3 := Lib.hid (K2.out.trans hk3)
          clear hj3 hk3
          go_wp2_with fail
          go_roundg (m - (q + 1))
          case measure => have := HG2.out; omega
          case rel => exact ⟨q + 1, by omega, rfl, rfl, by go_num, J3, K3⟩
        · obtain rfl : q = m := by omega
          have b4 := fl_down cx (cy + r) (by omega) (by omega)
          have hJ4 := JQ.out
          rw [List.append_assoc, ← win_next] at hJ4
          have J4 := Lib.hid hJ4
          clear hJ4
          go_wp2_with fail
          go_roundg (q - (r + 1))
          case measure => have := HG.out; omega
          case rel => exact ⟨r + 1, by omega, rfl, rfl, by go_num, J4, KQ⟩
    · obtain rfl : r = m := by omega
      go_wp2_with fail
      go_end0
      exact ⟨rfl, JR.out, K0.out.trans KR.out⟩

end Go.Proofs.Ytnfmpladdfgadaa
