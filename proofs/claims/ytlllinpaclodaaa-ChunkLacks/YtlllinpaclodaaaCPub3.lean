/-
  What package chunk answers: Put.
-/
import Derived.Test.YtlllinpaclodaaaCPub2
namespace Go.Proofs.Ytlllinpaclodaaa
open Go.RowKit

/-- A number of a machine. -/
def I64 (a : Int) : Prop := Hid (-9223372036854775808 ≤ a ∧ a ≤ 9223372036854775807)
theorem I64.small {a : Int} (h0 : -1000000 ≤ a) (h1 : a ≤ 1000000) : I64 a := by
  show _ ∧ _; omega
theorem I64.pos (b : List UInt8) : I64 (posC b : Int) := by
  have : posC b < 256 ^ (b.take 2).length := rd_lt _
  have h2 : (b.take 2).length ≤ 2 := by rw [List.length_take]; omega
  have h3 : 256 ^ (b.take 2).length ≤ 256 ^ 2 := Nat.pow_le_pow_right (by decide) h2
  exact I64.small (by omega) (by omega)

theorem room_new (w : World) (T : Nat) {cs : Array Value} (h : cs = ((List.replicate 50 (0 : UInt8)).flatMap bcells).toArray) : AB (w.alloc (.cells cs T)) w.heap.size T (List.replicate 50 0) := by
  subst h; exact heap_alloc_new w _
theorem room_step {p i : Nat} {xs : List UInt64} {x : UInt64} (hx : xs[i]? = some x) (h : i < 6) :
    (laidC p (xs.take i) ++ List.replicate (48 - 8 * i) 0).take (2 + 8 * i) ++ (beN 8 x.toNat ++ (laidC p (xs.take i) ++ List.replicate (48 - 8 * i) 0).drop (2 + 8 * i + 8)) = laidC p (xs.take (i + 1)) ++ List.replicate (48 - 8 * (i + 1)) 0 := by
  have hl : (laidC p (xs.take i)).length = 2 + 8 * i := by
    have := (List.getElem?_eq_some_iff.1 hx).1
    rw [laid_len, List.length_take]; omega
  rw [take_get hx, laid_snoc, List.take_append_of_le_length (by omega), List.take_of_length_le (by omega), List.drop_append, List.drop_eq_nil_of_le (by omega), hl, List.nil_append, List.drop_replicate, List.append_assoc]
  congr 2
  congr 1; omega
theorem room_slice (g t u : Nat) (h1 : t ≤ u) (h2 : u ≤ 50) (h3 : t < 50) (w : World) : (Instr.sliceAt 52 (.pointer (some ⟨g, 0, none⟩)) (some (.int .i64 (t : Int))) (some (.int .i64 (u : Int))) none).run Try.prog w = .ok (.slice (some ⟨g, t, none⟩) (u - t) (50 - t)) w := by
  have e : Try.prog.arrayLen 52 = 50 := by kernel_rfl
  have es : (sizeOf (Try.prog.elem 52)).run Try.prog w = .ok 1 w := by kernel_rfl
  rw [run_sliceAt_array_lh (P := Try.prog) w 52 ⟨g, 0, none⟩ (by kernel_rfl) .i64 .i64 (t : Int) (u : Int) (by omega) (by omega) (by rw [e]; omega), es, e]
  simp only [Result.andThen_ok, slicedAt, Int.toNat_natCast, Nat.mul_one]
  rw [if_neg (by omega), plain_add, Nat.zero_add]
/-- What is handed out: copied from the room. -/
theorem own_copied {w : World} {B g n c : Nat} {cs : Array Value} {l : List UInt8} (hB : B ≤ g) (hg : w.heap[g]? = some (.cells cs 5 (0, 0))) (hn : n = l.length) (he : cs.toList = l.flatMap bcells) (hc : n = c) (hm : n ≤ maxLen) :
    w.ownsRow B 5 1 (.slice (some ⟨g, 0, none⟩) n c) l.length (l.flatMap bcells) := by
  subst hc
  have hl := congrArg List.length he
  rw [Array.length_toList, flat_len bcells_len, Nat.mul_one] at hl
  refine ⟨by rw [flat_len bcells_len], .inr ⟨g, n, cs, by rw [hn], hB, hg, by omega, hm, by omega, ?_⟩⟩
  rw [he, List.take_of_length_le (by rw [flat_len bcells_len]; omega)]

set_option maxHeartbeats 4000000 in
set_option maxRecDepth 100000 in
theorem put14o (a : Int) (A : Option Addr) (cA n : Nat) (xs : List UInt64) (w : World) (hx : Rg ucells w A xs) (lx : n = xs.length) (hn : n ≤ 1000000) (ia : I64 a := by first | assumption | exact I64.pos _ | exact I64.small (by omega) (by omega)) :
    Calls Try.prog 16 #[.int .i64 a, .slice A n cA] w (BOwn (putC a xs) w) := by
  have HX := Lib.hid hx; have LX := Lib.hid lx
  have CR := Lib.hid (right14 a n w hn ia.out.1 ia.out.2)
  clear hx lx ia
  by_cases ok : okPut a n = true
  · obtain ⟨h1, h2, h3, h4, h5⟩ := ok_put.1 ok
    obtain ⟨p, rfl⟩ : ∃ p : Nat, a = p := ⟨a.toNat, by omega⟩
    have E : Hid (putC p xs = laidC p xs) := by
      show _ = _
      have := put_yes (a := p) (l := xs) (by rw [← LX.out]; exact ok)
      rwa [Int.toNat_natCast] at this
    rw [ok] at CR
    have p6 : p ≤ 65535 := by omega
    clear ok h1 h2 h5
    go_enter Try.func16, Try.ntmps16
    go_wp2_with fail
    refine CR.out.mono ?_
    rintro e w1 ⟨rfl, rfl⟩
    have CL0 : Hid (∀ g w', AB w' g 52 (List.replicate 50 0) → Calls Try.prog 26 #[.slice (some ⟨g, 0, none⟩) 2 50, .int .u64 (p : Int)] w' fun e w2 => e = .returned (.tuple #[]) ∧ AB w2 g 52 (laidC p (xs.take 0) ++ List.replicate (48 - 8 * 0) 0) ∧ Below g w' w2 ∧ w2.heap.size = w'.heap.size) := fun g w' h => by
      have := lay14 g 0 2 50 _ _ (UInt64.ofNat p) w' h (by simp) (by decide)
      have e : (UInt64.ofNat p).toNat = p := by rw [UInt64.toNat_ofNat']; omega
      unfold uz at this
      rw [e] at this
      exact this
    have CL : Hid (∀ (g i c t u : Nat) (x : UInt64) w', xs[i]? = some x → i < 6 → t = 2 + 8 * i → u = 2 + 8 * (i + 1) → AB w' g 52 (laidC p (xs.take i) ++ List.replicate (48 - 8 * i) 0) → Calls Try.prog 26 #[.slice (some ⟨g, t, none⟩) (u - t) c, .int .u64 (uz x)] w' fun e w2 => e = .returned (.tuple #[]) ∧ AB w2 g 52 (laidC p (xs.take (i + 1)) ++ List.replicate (48 - 8 * (i + 1)) 0) ∧ Below g w' w2 ∧ w2.heap.size = w'.heap.size) := fun g i c t u x w' hx hi ht hu h => by
      have hl : (laidC p (xs.take i)).length = 2 + 8 * i := by
        have := (List.getElem?_eq_some_iff.1 hx).1
        rw [laid_len, List.length_take]; omega
      rw [show u - t = 8 by omega, ht, ← room_step hx hi]
      exact lay14 g (2 + 8 * i) 8 c _ _ x w' h (by rw [List.length_append, hl, List.length_replicate]; omega) (by decide)
    go_wp2_with fail
    obtain ⟨g, hg⟩ : ∃ g, g = w1.heap.size := ⟨_, rfl⟩
    have G0 := room_new w1 52 (cs := ((List.replicate 50 (0 : UInt8)).flatMap bcells).toArray) rfl
    have GB := chain_alloc (Below.refl _ w1) (.cells ((List.replicate 50 (0 : UInt8)).flatMap bcells).toArray 52)
    rw [← hg] at G0 ⊢
    refine (CL0.out g _ G0).mono ?_
    rintro e w2 ⟨rfl, h1, h2, h3⟩
    have A2 := Lib.hid h1
    have B2 : Hid (Below w1.heap.size w1 w2) := GB.trans (by rw [← hg]; exact h2)
    have Z2 : Hid (w2.heap.size = g + 1) := by show _ = _; rw [h3, World.size_alloc, hg]
    have HG0 := Lib.hid hg
    clear h1 h2 h3 G0 GB hg
    go_wp2_with fail
    go_loopg [20] n (fun gh s20 wr => ∃ i : Nat, i ≤ n ∧ Hid (gh = n - i) ∧ s20 = .int .i64 (i : Int) ∧ Hid (AB wr g 52 (laidC p (xs.take i) ++ List.replicate (48 - 8 * i) 0)) ∧ Hid (Below w1.heap.size w1 wr) ∧ Hid (wr.heap.size = g + 1))
    case atStart => exact ⟨0, by omega, by show _ = _; omega, rfl, A2, B2, Z2⟩
    case round =>
      obtain ⟨i, hi, HG, rfl, AK, BK, ZK⟩ := hrel
      by_cases kn : i < n
      · have ki : (i : Int) < (n : Int) := by omega
        have ka : (0 : Int) ≤ (i : Int) := by omega
        obtain ⟨x, gx⟩ : ∃ x, xs[i]? = some x := ⟨_, List.getElem?_eq_getElem (by rw [← LX.out]; exact kn)⟩
        obtain ⟨b1, o1, rfl, l1, c1⟩ := HX.out (by rw [← LX.out]; omega)
        obtain ⟨t, ht⟩ : ∃ t, t = 2 + 8 * i := ⟨_, rfl⟩
        obtain ⟨u, hu⟩ : ∃ u, u = 2 + 8 * (i + 1) := ⟨_, rfl⟩
        have C1 := (BK.out.cell (p := ⟨b1, o1 + i, none⟩) l1).trans (su_cell c1 gx)
        have CT : Hid (∀ w, Calls Try.prog 22 #[.int .i64 (i : Int)] w fun e w' => e = .returned (.int .i64 (t : Int)) ∧ w' = w) := fun w => by rw [ht]; exact upto14 i w (by omega)
        have CU : Hid (∀ w, Calls Try.prog 22 #[.int .i64 ((i : Int) + 1)] w fun e w' => e = .returned (.int .i64 (u : Int)) ∧ w' = w) := fun w => by rw [hu]; exact upto14 (i + 1) w (by omega)
        have CX : Hid (∀ c w', AB w' g 52 (laidC p (xs.take i) ++ List.replicate (48 - 8 * i) 0) → Calls Try.prog 26 #[.slice (some ⟨g, t, none⟩) (u - t) c, .int .u64 (uz x)] w' fun e w2 => e = .returned (.tuple #[]) ∧ AB w2 g 52 (laidC p (xs.take (i + 1)) ++ List.replicate (48 - 8 * (i + 1)) 0) ∧ Below g w' w2 ∧ w2.heap.size = w'.heap.size) := fun c w' h => CL.out g i c t u x w' gx (by omega) ht hu h
        have t1 : t ≤ 42 := by omega
        have t2 : u ≤ 50 := by omega
        have t3 : t ≤ u := by omega
        have KN := Lib.hid kn
        have hsl := room_slice g t u t3 t2 (by omega)
        clear gx c1 l1 kn ht hu
        go_wp2_with fail
        refine (CT.out _).mono ?_
        rintro e w3 ⟨rfl, rfl⟩
        go_wp2_with fail
        refine (CU.out _).mono ?_
        rintro e w4 ⟨rfl, rfl⟩
        go_wp2_with fail
        refine (CX.out _ _ AK.out).mono ?_
        rintro e w5 ⟨rfl, h1, h2, h3⟩
        have A5 := Lib.hid h1
        have B5 : Hid (Below w1.heap.size w1 w5) := BK.out.trans (h2.mono (by rw [HG0.out]; exact Nat.le_refl _))
        have Z5 : Hid (w5.heap.size = g + 1) := h3.trans ZK.out
        clear h1 h2 h3 AK BK ZK C1
        go_wp2_with fail
        go_roundg (n - (i + 1))
        case measure => have := HG.out; have := KN.out; omega
        case rel => exact ⟨i + 1, by have := KN.out; omega, rfl, by go_num, A5, B5, Z5⟩
      · obtain rfl : i = n := by omega
        obtain ⟨u, hu⟩ : ∃ u, u = 2 + 8 * i := ⟨_, rfl⟩
        have CT : Hid (∀ w, Calls Try.prog 22 #[.int .i64 (i : Int)] w fun e w' => e = .returned (.int .i64 (u : Int)) ∧ w' = w) := fun w => by rw [hu]; exact upto14 i w (by omega)
        have u5 : u ≤ 50 := by omega
        have HU := Lib.hid hu
        clear hu
        go_wp2_with fail
        refine (CT.out _).mono ?_
        rintro e w3 ⟨rfl, rfl⟩
        obtain ⟨i0, hi, hz0, hz1, hz2⟩ := info_parts Try.infoB
        have hmk : ∀ w : World, (Instr.makeSlice 23 (.int .i64 (u : Int)) (.int .i64 (u : Int))).run Try.prog w = .ok (.slice (some ⟨w.heap.size, 0, none⟩) u u) (w.alloc (.cells (madeCells #[.int .u8 0] u) 5)) := fun w => by
          have := run_make (P := Try.prog) w 23 5 i0 _ Try.underlying23 hi hz0 .i64 .i64 (u : Int) (u : Int) (by omega) (Int.le_refl _) (by rw [hz2]; omega) (by omega)
          rw [hz1, Nat.mul_one] at this
          exact this
        obtain ⟨g4, hg4⟩ : ∃ g4, g4 = w3.heap.size := ⟨_, rfl⟩
        obtain ⟨W3, hW3⟩ : ∃ W3, W3 = w3.alloc (.cells (madeCells #[.int .u8 0] u) 5) := ⟨_, rfl⟩
        have A3 : Hid (AB W3 g 52 (laidC p (xs.take i) ++ List.replicate (48 - 8 * i) 0)) := by rw [hW3]; exact AK.out.below (chain_alloc (Below.refl _ _) _)
        have N3 : W3.heap[g4]? = some (.cells (madeCells #[.int .u8 0] u) 5 (0, 0)) := by rw [hW3, hg4]; exact heap_alloc_new _ _
        have B3 : Hid (Below w1.heap.size w1 W3) := by rw [hW3]; exact chain_alloc BK.out _
        have LA : (laidC p xs).length = u := by rw [laid_len, ← LX.out, HU.out]
        have LE : xs.take i = xs := List.take_of_length_le (Nat.le_of_eq LX.out.symm)
        have SRC : ∀ j v, ((laidC p xs).flatMap bcells)[j]? = some v → W3.cell? ((⟨g, 0, none⟩ : Addr).add j) = some v := fun j v hv => by
          rw [plain_add, Nat.zero_add]
          rw [bflat_get] at hv
          obtain ⟨y, hy, rfl⟩ := Option.map_eq_some_iff.1 hv
          have hj := (List.getElem?_eq_some_iff.1 hy).1
          have := A3.out
          rw [LE] at this
          exact this.cell (by rw [List.getElem?_append_left hj]; exact hy)
        have FL : ((laidC p xs).flatMap bcells).length = u := by rw [flat_len bcells_len, LA, Nat.mul_one]
        have hcp := run_copy_row (P := Try.prog) W3 23 23 3 5 g4 0 u u ⟨g, 0, none⟩ 50 50 (madeCells #[.int .u8 0] u) 5 ((laidC p xs).flatMap bcells) Try.underlying23 (by rw [hi]; exact congrArg some hz1) N3 (by rw [FL]; exact (Nat.min_eq_right u5).symm) SRC (by rw [FL, size_madeCells]; omega) (fun v hv => by
          obtain ⟨y, _, hy⟩ := List.mem_flatMap.1 hv
          exact bcells_one y v hy)
        have e4 : ((madeCells #[Value.int .u8 0] u).toList.take 0 ++ (laidC p xs).flatMap bcells ++ (madeCells #[Value.int .u8 0] u).toList.drop (0 + ((laidC p xs).flatMap bcells).length)).toArray = ((laidC p xs).flatMap bcells).toArray := by
          rw [FL, List.drop_eq_nil_of_le (by rw [Array.length_toList, size_madeCells]; omega)]; simp
        rw [e4, FL] at hcp
        obtain ⟨W4, hW4⟩ : ∃ W4, W4 = W3.setRow g4 ((laidC p xs).flatMap bcells).toArray := ⟨_, rfl⟩
        have gl : w1.heap.size ≤ g4 := by rw [hg4]; exact BK.out.size
        have N4 : Hid (W4.heap[g4]? = some (.cells ((laidC p xs).flatMap bcells).toArray 5 (0, 0))) := by show _ = _; rw [hW4]; exact setRow_heap W3 g4 _ _ _ _ N3
        have B4 : Hid (Below w1.heap.size w1 W4) := by rw [hW4]; exact below_setRow B3.out gl _
        rw [← hW4] at hcp
        rw [hW3, hg4] at hcp
        have G4 := Lib.hid hg4
        have GL := Lib.hid gl
        have LA2 := Lib.hid LA
        clear hW4 hW3 N3 B3 A3 SRC FL e4 LA LE hg4 gl
        have hgo : goInt u = Value.int .i64 (u : Int) := rfl
        rw [hgo] at hcp
        go_wp2_with fail
        go_ret
        refine ⟨_, rfl, ?_, B4.out⟩
        rw [E.out, ← G4.out]
        exact own_copied GL.out N4.out LA2.out.symm (by simp) rfl (by unfold maxLen; omega)
  · have ok : okPut a n = false := by simpa using ok
    have E : Hid (putC a xs = []) := put_no (by rw [← LX.out]; exact ok)
    rw [ok] at CR
    clear ok
    go_enter Try.func16, Try.ntmps16
    go_wp2_with fail
    refine CR.out.mono ?_
    rintro e w1 ⟨rfl, rfl⟩
    go_wp2_with fail
    go_ret
    exact ⟨_, rfl, by rw [E.out]; exact World.ownsRow_nil _ _ _ _, Below.refl _ _⟩

theorem put14 (a : Int) (A : Option Addr) (cA n : Nat) (xs : List UInt64) (w : World) (hx : Rg ucells w A xs) (lx : n = xs.length) (hn : n ≤ 1000000) (ia : I64 a := by first | assumption | exact I64.pos _ | exact I64.small (by omega) (by omega)) :
    Calls Try.prog 16 #[.int .i64 a, .slice A n cA] w (RowNew bcells (putC a xs) w) := (put14o a A cA n xs w hx lx hn ia).mono fun _ _ h => h.new

end Go.Proofs.Ytlllinpaclodaaa
