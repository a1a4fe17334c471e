/-
  What the functions of package ring answer, function by function.
-/
import Derived.Test.YtbhmjmfappfjkaaRows
import Derived.Test.YtbhmjmfappfjkaaMem
import Derived.Deep.QuietTactic
import Derived.BigQuiet
import Derived.StillTailTactics
import Derived.Lib.Hide
namespace Go.Proofs.Ytbhmjmfappfjkaa
open Go.RowKit

theorem Try.info23 : (Try.prog.info? 23).map (fun i => (i.zero, i.size, i.bytes)) = some (some (.int .u64 0), 1, 8) := by kernel_rfl

set_option maxHeartbeats 400000 in
theorem add1_any (x y : UInt64) (w : World) :
    Calls Try.prog 28 #[.int .u64 (uz x), .int .u64 (uz y)] w fun e w' => e = .returned (.int .u64 (uz (x + y))) ∧ w = w' := by
  have H := Lib.hid (uz_add x y)
  go_enter Try.func28, Try.ntmps28
  go_wp2
  go_ret
  exact ⟨congrArg (fun n => Ending.returned (.int .u64 n)) H.out, rfl⟩

set_option maxHeartbeats 400000 in
theorem sub1_any (x y : UInt64) (w : World) :
    Calls Try.prog 29 #[.int .u64 (uz x), .int .u64 (uz y)] w fun e w' => e = .returned (.int .u64 (uz (x - y))) ∧ w = w' := by
  have H := Lib.hid (uz_sub x y)
  go_enter Try.func29, Try.ntmps29
  go_wp2
  go_ret
  exact ⟨congrArg (fun n => Ending.returned (.int .u64 n)) H.out, rfl⟩

set_option maxHeartbeats 400000 in
theorem mul1_any (x y : UInt64) (w : World) :
    Calls Try.prog 30 #[.int .u64 (uz x), .int .u64 (uz y)] w fun e w' => e = .returned (.int .u64 (uz (x * y))) ∧ w = w' := by
  have H := Lib.hid (uz_mul x y)
  go_enter Try.func30, Try.ntmps30
  go_wp2
  go_ret
  exact ⟨congrArg (fun n => Ending.returned (.int .u64 n)) H.out, rfl⟩

set_option maxHeartbeats 400000 in
theorem scale1_any (k x y : UInt64) (b : Nat) (w : World) (hb : w.cell? ⟨b, 0, none⟩ = some (.int .u64 (uz k))) :
    Calls Try.prog 31 #[.int .u64 (uz x), .int .u64 (uz y), .pointer (some ⟨b, 0, none⟩)] w fun e w' => e = .returned (.int .u64 (uz (k * x))) ∧ w = w' := by
  have H := Lib.hid (uz_mul k x)
  go_enter Try.func31, Try.ntmps31
  go_wp2
  go_ret
  exact ⟨congrArg (fun n => Ending.returned (.int .u64 n)) H.out, rfl⟩

/-- What a row that is made place by place holds behind k places. -/
def part (n : Nat) (us : List UInt64) (k : Nat) : List Value := (us.take k).map (fun u => Value.int .u64 (uz u)) ++ List.replicate (n - k) (Value.int .u64 0)

theorem part_zero (n : Nat) (us : List UInt64) : part n us 0 = (madeCells #[Value.int .u64 0] n).toList := by
  rw [toList_madeCells_one]; simp [part]
theorem part_len (n : Nat) (us : List UInt64) (k : Nat) (hu : us.length = n) (hk : k ≤ n) : (part n us k).length = n := by
  simp [part]; omega
theorem part_all (n : Nat) (us : List UInt64) (hu : us.length = n) : part n us n = us.map fun u => Value.int .u64 (uz u) := by
  simp [part, ← hu]
theorem part_set (n : Nat) (us : List UInt64) (k : Nat) (u : UInt64) (hu : us[k]? = some u) (hn : us.length = n) : (part n us k).set k (Value.int .u64 (uz u)) = part n us (k + 1) := by
  obtain ⟨hk, rfl⟩ := List.getElem?_eq_some_iff.1 hu
  unfold part
  rw [List.set_append, if_neg (by simp; omega), List.take_succ_eq_append_getElem hk, List.map_append]
  have e1 : n - k = (n - (k + 1)) + 1 := by omega
  have e2 : k - (List.map (fun u => Value.int IntKind.u64 (uz u)) (List.take k us)).length = 0 := by simp; omega
  rw [e1, e2, List.replicate_succ, List.set_cons_zero]
  simp

set_option maxHeartbeats 400000 in
theorem pair_core (F : Nat) (caps : Array Value) (g : UInt64 → UInt64 → UInt64) (A B : Option Addr) (cA cB na nb n : Nat) (xs ys : List UInt64) (w : World) (hx : Rd w A xs) (hy : Rd w B ys)
    (lx : xs.length = n) (ly : ys.length = n) (hn : n ≤ 1000000) (hc : (n = na ∧ n ≤ nb ∧ n ≤ nb) ∨ (n = nb ∧ n < na ∧ n ≤ na))
    (hE : ∀ args w, Sem.run Try.prog (callFunc F args) w = .ok (.enter F args) w)
    (hF : ∀ (x y : UInt64) (w1 : World), Below w.heap.size w w1 → Calls Try.prog F (#[.int .u64 (uz x), .int .u64 (uz y)] ++ caps) w1 fun e w' => e = .returned (.int .u64 (uz (g x y))) ∧ w1 = w') :
    Calls Try.prog 27 #[.slice A na cA, .slice B nb cB, .func (.func F) #[] caps] w fun e w' => ∃ (A' : Option Addr) (c' : Nat), e = .returned (.slice A' n c') ∧ Rd w' A' (List.zipWith g xs ys) ∧ Below w.heap.size w w' := by
  obtain ⟨i0, hi, hz0, hz1, hz2⟩ := info_parts Try.info23
  have HF := Lib.hid hF; clear hF
  have HX := Lib.hid hx; clear hx
  have HY := Lib.hid hy; clear hy
  obtain ⟨zs, hzs⟩ : ∃ zs, zs = List.zipWith g xs ys := ⟨_, rfl⟩
  rw [← hzs]
  have lz : zs.length = n := by rw [hzs]; simp [lx, ly]
  have HZ := Lib.hid hzs; clear hzs
  have LX := Lib.hid lx; clear lx
  have LY := Lib.hid ly; clear ly
  have LZ := Lib.hid lz; clear lz
  rcases hc with ⟨h1, h2, h3⟩ | ⟨h1, h2, h3⟩
  all_goals
    subst h1
    go_enter Try.func27, Try.ntmps27
    go_wp2_with (at_make; refine wpList_make_full _ rfl (.tmp 13) (.tmp 13) 22 rfl w.heap.size 23 i0 (.int .u64 0) 1 Try.underlying22 hi hz0 hz1 .i64 .i64 n n n rfl rfl rfl rfl ?_ ?_ (Nat.le_refl _) ?_)
    · rw [hz2]; omega
    · unfold maxLen; omega
    intro w1 hown hgrow
    rw [← part_zero n zs] at hown
    have hsz : w.heap.size < w1.heap.size := (hown.lt _ rfl).2
    have HB : Hid (Below w.heap.size w w1) := (Below.refl _ _).grown hgrow (Nat.le_refl _) (fun k h => by cases h)
    have HO := Lib.hid hown
    clear hgrow hown hi hz0 hz1 hz2
    go_wp2_with fail
    go_loopw [17] (fun i wr => ∃ k : Nat, k ≤ n ∧ i = .int .i64 k ∧ Hid (wr.ownsRow w.heap.size 23 1 (.slice (some ⟨w.heap.size, 0, none⟩) n n) n (part n zs k)) ∧ Hid (Below w.heap.size w wr)) (fun i _ => n - (intOf i).toNat)
    case atStart => exact ⟨0, Nat.zero_le _, rfl, HO, HB⟩
    case round =>
      obtain ⟨k, hk, rfl, HOk, HBk⟩ := hrel
      by_cases hlt : k < n
      · obtain ⟨b1, o1, rfl, l1, c1⟩ := HX.out (by rw [LX.out]; omega)
        obtain ⟨b2, o2, rfl, l2, c2⟩ := HY.out (by rw [LY.out]; omega)
        obtain ⟨x, HXk⟩ : ∃ x : UInt64, Hid (x = xs.getD k 0) := ⟨_, rfl⟩
        obtain ⟨y, HYk⟩ : ∃ y : UInt64, Hid (y = ys.getD k 0) := ⟨_, rfl⟩
        have d1 : wr.cell? ⟨b1, o1 + k, none⟩ = some (.int .u64 (uz x)) := by
          rw [HBk.out.cell (p := ⟨b1, o1 + k, none⟩) l1, c1 k (by rw [LX.out]; exact hlt), HXk.out]; rfl
        have d2 : wr.cell? ⟨b2, o2 + k, none⟩ = some (.int .u64 (uz y)) := by
          rw [HBk.out.cell (p := ⟨b2, o2 + k, none⟩) l2, c2 k (by rw [LY.out]; exact hlt), HYk.out]; rfl
        have d3 : wr.frozen? ⟨w.heap.size, k, none⟩ = false := HOk.out.frozenAt k
        have d4 : ∃ v, wr.cell? ⟨w.heap.size, k, none⟩ = some v := by
          rw [HOk.out.cellAt k (by omega)]
          exact ⟨_, List.getElem?_eq_getElem (by rw [part_len n zs k LZ.out hk]; exact hlt)⟩
        obtain ⟨v0, d4⟩ := d4
        have hq := Nat.lt_of_lt_of_le hlt h3
        clear c1 c2
        go_wp2_with fail
        go_still_tail 13, (by kernel_rfl)
        still_call ((HF.out x y _ HBk.out.drew).mono fun _ _ h => ⟨h.1, h.2.symm⟩)
        repeat still_step
        refine wpStill_nil ?_
        have hzk : zs[k]? = some (g x y) := by
          rw [HZ.out, HXk.out, HYk.out, List.getElem?_zipWith, List.getElem?_eq_getElem (by rw [LX.out]; exact hlt), List.getElem?_eq_getElem (by rw [LY.out]; exact hlt)]
          simp [List.getD_eq_getElem?_getD, LX.out, LY.out, hlt]
        have HS : Hid ((wr.setCell ⟨w.heap.size, k, none⟩ (.int .u64 (uz (g x y)))).ownsRow w.heap.size 23 1 (.slice (some ⟨w.heap.size, 0, none⟩) n n) n (part n zs (k + 1))) := by
          have := HOk.out.stored k (.int .u64 (uz (g x y)))
          rw [part_set n zs k _ hzk LZ.out] at this
          exact this.1
        have HT : Hid (Below w.heap.size w (wr.setCell ⟨w.heap.size, k, none⟩ (.int .u64 (uz (g x y))))) := HBk.out.setCell (Nat.le_refl _) _
        clear hzk HOk HBk HO HB HX HY d1 d2 hsz
        go_wp2_with fail
        go_roundw
        case rel => exact ⟨k + 1, by omega, by go_num, HS, HT.out.drew⟩
        case measure => simp [intOf]; omega
      · obtain rfl : k = n := by omega
        go_wp2_with fail
        go_ret
        have hf := HOk.out
        rw [part_all _ zs LZ.out] at hf
        exact ⟨_, _, rfl, Rd.own hf, HBk.out⟩

/-- A row is handed out: its numbers, and nothing that was there has changed. -/
def Row (us : List UInt64) (w : World) (e : Ending) (w' : World) : Prop :=
  ∃ (A : Option Addr) (c n : Nat), n = us.length ∧ e = .returned (.slice A n c) ∧ Rd w' A us ∧ Below w.heap.size w w'

theorem Rd.zip_take {g : UInt64 → UInt64 → UInt64} (xs ys : List UInt64) : List.zipWith g (xs.take (min xs.length ys.length)) (ys.take (min xs.length ys.length)) = List.zipWith g xs ys := by
  apply List.ext_getElem
  · simp
  · intro i h1 h2
    simp

theorem pair_any (F : Nat) (caps : Array Value) (g : UInt64 → UInt64 → UInt64) (A B : Option Addr) (cA cB na nb : Nat) (xs ys : List UInt64) (w : World) (hx : Rd w A xs) (hy : Rd w B ys)
    (lx : na = xs.length) (ly : nb = ys.length) (hn : na ≤ 1000000)
    (hE : ∀ args w, Sem.run Try.prog (callFunc F args) w = .ok (.enter F args) w)
    (hF : ∀ (x y : UInt64) (w1 : World), Below w.heap.size w w1 → Calls Try.prog F (#[.int .u64 (uz x), .int .u64 (uz y)] ++ caps) w1 fun e w' => e = .returned (.int .u64 (uz (g x y))) ∧ w1 = w') :
    Calls Try.prog 27 #[.slice A na cA, .slice B nb cB, .func (.func F) #[] caps] w (Row (List.zipWith g xs ys) w) := by
  subst lx ly
  refine (pair_core F caps g A B cA cB xs.length ys.length (min xs.length ys.length) (xs.take (min xs.length ys.length)) (ys.take (min xs.length ys.length)) w (hx.take _) (hy.take _) (by simp) (by simp) (by omega) (by omega) hE hF).mono ?_
  rintro e w' ⟨A', c', he, hr, hb⟩
  rw [Rd.zip_take] at hr
  exact ⟨A', c', min xs.length ys.length, by simp, he, hr, hb⟩

end Go.Proofs.Ytbhmjmfappfjkaa
