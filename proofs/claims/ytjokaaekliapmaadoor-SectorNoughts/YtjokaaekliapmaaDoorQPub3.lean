/-
  What package sector answers: Put.
-/
import Derived.Test.YtjokaaekliapmaaDoorQPub2
import Derived.Test.YtjokaaekliapmaaDoorRHeld
namespace Go.Proofs.YtjokaaekliapmaaDoor
open Go.RowKit

theorem fb_copy {w : World} {g n bA oA c : Nat} {l bs : List UInt8} {S : Nat → Prop} (F : FB w g 64 S bs) (hr : Rg bcells w (some ⟨bA, oA, none⟩) l) (hn : n = l.length) (hn5 : n ≤ 50) (hb : ∀ (j : Nat) (x : UInt8), l[j]? = some x → bs[14 + j]? = some x) :
    ∃ v w', (Builtin.copy_ #[22, 22] 3 #[.slice (some ⟨g, 14, none⟩) 50 50, .slice (some ⟨bA, oA, none⟩) n c]).run Tryd.prog w = .ok v w' ∧ FB w' g 64 (fun j => S j ∨ (14 ≤ j ∧ j < 14 + n)) bs ∧ ∀ w0 : World, w0.heap.size ≤ g → Below w0.heap.size w0 w → Below w0.heap.size w0 w' := by
  obtain ⟨cs, h1, h2, h3, h4⟩ := F
  obtain ⟨i0, hi, hz0, hz1, hz2⟩ := info_parts Tryd.infoB
  have FL : (l.flatMap bcells).length = n := by rw [flat_len bcells_len, Nat.mul_one, hn]
  have hcp := run_copy_row (P := Tryd.prog) w 22 22 3 5 g 14 50 50 ⟨bA, oA, none⟩ n c cs 5 (l.flatMap bcells) Tryd.underlying22 (by rw [hi]; exact congrArg some hz1) h1 (by rw [FL]; exact (Nat.min_eq_left hn5).symm) (rg_src hr) (by rw [FL, h2]; omega) (fun v hv => by
    obtain ⟨y, _, hy⟩ := List.mem_flatMap.1 hv
    exact bcells_one y v hy)
  refine ⟨_, _, hcp, ⟨_, setRow_heap _ g cs _ 5 _ h1, ?_, ?_, ?_⟩, fun w0 hg hbel => below_setRow16 hbel hg _⟩
  · simp only [List.size_toArray, List.length_append, List.length_take, List.length_drop, Array.length_toList, FL, h2]; omega
  · intro j hj
    rw [List.getElem?_toArray, FL]
    by_cases j1 : j < 14
    · obtain ⟨v, hv⟩ := h3 j hj
      refine ⟨v, ?_⟩
      rw [List.append_assoc, List.getElem?_append_left (by simp; omega), List.getElem?_take_of_lt j1, Array.getElem?_toList, hv]
    · by_cases j2 : j < 14 + n
      · obtain ⟨x, hx⟩ : ∃ x, l[j - 14]? = some x := ⟨_, List.getElem?_eq_getElem (by omega)⟩
        refine ⟨bz x, ?_⟩
        rw [List.append_assoc, List.getElem?_append_right (by simp; omega), List.getElem?_append_left (by rw [FL]; simp; omega), show j - (cs.toList.take 14).length = j - 14 by simp; omega]
        have := flat_get bcells_len l (j - 14) 0 x hx (by decide)
        rw [Nat.mul_one, Nat.add_zero] at this
        rw [this]; rfl
      · obtain ⟨v, hv⟩ := h3 j hj
        refine ⟨v, ?_⟩
        rw [List.append_assoc, List.getElem?_append_right (by simp; omega), List.getElem?_append_right (by rw [FL]; simp; omega), FL, List.getElem?_drop, show 14 + n + (j - (cs.toList.take 14).length - n) = j by simp; omega, Array.getElem?_toList, hv]
  · intro j x hj hx
    rw [List.getElem?_toArray, FL]
    have hjl : j < 14 ∨ (14 ≤ j ∧ j < 14 + n) ∨ 14 + n ≤ j := by omega
    rcases hjl with j1 | j2 | j3
    · have hs : S j := hj.resolve_right (by omega)
      rw [List.append_assoc, List.getElem?_append_left (by simp; have := h4 j x hs hx; have := (Array.getElem?_eq_some_iff.1 this).1; omega), List.getElem?_take_of_lt j1, Array.getElem?_toList, h4 j x hs hx]
    · obtain ⟨y, hy⟩ : ∃ y, l[j - 14]? = some y := ⟨_, List.getElem?_eq_getElem (by omega)⟩
      have e := hb (j - 14) y hy
      rw [show 14 + (j - 14) = j by omega, hx] at e
      obtain rfl := Option.some.inj e
      rw [List.append_assoc, List.getElem?_append_right (by simp; omega), List.getElem?_append_left (by rw [FL]; simp; omega), show j - (cs.toList.take 14).length = j - 14 by simp; omega]
      have := flat_get bcells_len l (j - 14) 0 x hy (by decide)
      rw [Nat.mul_one, Nat.add_zero] at this
      rw [this]; rfl
    · have hs : S j := hj.resolve_right (by omega)
      have := h4 j x hs hx
      have hl := (Array.getElem?_eq_some_iff.1 this).1
      rw [List.append_assoc, List.getElem?_append_right (by simp; omega), List.getElem?_append_right (by rw [FL]; simp; omega), FL, List.getElem?_drop, show 14 + n + (j - (cs.toList.take 14).length - n) = j by simp; omega, Array.getElem?_toList, this]

theorem cut_get {L B : List UInt8} {o m k : Nat} (h : (L.drop o).take m = B) (hk : k < m) : L[o + k]? = B[k]? := by
  rw [← h, List.getElem?_take_of_lt hk, List.getElem?_drop]
theorem stand16 {s : Sec} {G P T K n : Nat} (e1 : s.g = (G : Int)) (e2 : s.p = (P : Int)) (e3 : s.t = (T : Int)) (e4 : s.k = (K : Int)) (e5 : n = s.b.length) : Stand [G, P, T, K, n] (laidQ s) := by
  obtain ⟨p1, p2, p3, p4, p5, _⟩ := laidq_parts s
  rw [e1, Int.toNat_natCast] at p1
  rw [e2, Int.toNat_natCast] at p2
  rw [e3, Int.toNat_natCast] at p3
  rw [e4, Int.toNat_natCast] at p4
  rw [← e5] at p5
  have p0 : ((laidQ s).drop 0).take 8 = beN 8 G := by rw [List.drop_zero]; exact p1
  intro i x hx k hk
  match i, hx, hk with
  | 0, hx, hk => obtain rfl : G = x := by simpa using hx
                 have hk : k < 8 := hk
                 exact (cut_get p0 hk).trans (be_get hk)
  | 1, hx, hk => obtain rfl : P = x := by simpa using hx
                 have hk : k < 2 := hk
                 exact (cut_get p2 hk).trans (be_get hk)
  | 2, hx, hk => obtain rfl : T = x := by simpa using hx
                 have hk : k < 1 := hk
                 exact (cut_get p3 hk).trans (be_get hk)
  | 3, hx, hk => obtain rfl : K = x := by simpa using hx
                 have hk : k < 2 := hk
                 exact (cut_get p4 hk).trans (be_get hk)
  | 4, hx, hk => obtain rfl : n = x := by simpa using hx
                 have hk : k < 1 := hk
                 exact (cut_get p5 hk).trans (be_get hk)
  | i + 5, hx, hk => simp at hx
theorem body16 {s : Sec} (j : Nat) (x : UInt8) (h : s.b[j]? = some x) : (laidQ s)[14 + j]? = some x := by
  have := (laidq_parts s).2.2.2.2.2
  rw [← List.getElem?_drop, this, List.getElem?_append_left (List.getElem?_eq_some_iff.1 h).1, h]

set_option maxHeartbeats 8000000 in
set_option maxRecDepth 100000 in
theorem put16 (s : Sec) (A : Option Addr) (n c : Nat) (w : World) (hn : n = s.b.length) (hR : Rg bcells w A s.b) (hT : Wd w := by first | assumption | exact Hid.out (by assumption) | exact Wd.below (Hid.out (by assumption)) (Hid.out (by assumption)) | exact Wd.below (by assumption) (Hid.out (by assumption))) :
    Calls Tryd.prog 14 #[secv s A n c] w (BOwn (putQ s) w) := by
  have RA := Lib.hid hR; have LN := Lib.hid hn; have HT := Lib.hid hT
  have CR : Hid (∀ w, Calls Tryd.prog 12 #[secv s A n c] w fun e w' => e = .returned (.bool (rightQ s)) ∧ Below w.heap.size w w') := fun w => right16 s A n c w hn
  clear hR hn hT
  rcases ok : rightQ s with _ | _
  · have E := Lib.hid (putq_no ok)
    rw [ok] at CR
    clear ok
    obtain ⟨g, p, t, k, b⟩ := s
    unfold secv at CR ⊢
    dsimp only at CR ⊢
    go_enter Tryd.func14, Tryd.ntmps14
    go_wp2_with fail
    refine (CR.out _).mono ?_
    rintro e w1 ⟨rfl, hb⟩
    have B1 := Lib.hid (chain (chain_alloc (Below.refl _ w) _) hb)
    clear hb
    go_wp2_with fail
    go_ret
    exact ⟨_, rfl, by rw [E.out]; exact World.ownsRow_nil _ _ _ _, B1.out⟩
  have E := Lib.hid (putq_yes ok)
  obtain ⟨z1, z2, z3, z4, z5, z6, z7, z8, z9, z10⟩ := right_q.1 ok
  rw [ok] at CR
  clear ok
  obtain ⟨g, p, t, k, b⟩ := s
  dsimp only at z1 z2 z3 z4 z5 z6 z7 z8 z9 z10 RA LN
  obtain ⟨G, rfl⟩ : ∃ G : Nat, g = G := ⟨g.toNat, by omega⟩
  obtain ⟨P, rfl⟩ : ∃ P : Nat, p = P := ⟨p.toNat, by omega⟩
  obtain ⟨T, rfl⟩ : ∃ T : Nat, t = T := ⟨t.toNat, by omega⟩
  obtain ⟨K, rfl⟩ : ∃ K : Nat, k = K := ⟨k.toNat, by omega⟩
  have n50 : n ≤ 50 := by rw [LN.out]; exact z10
  have ST : Hid (Stand [G, P, T, K, n] (laidQ ⟨G, P, T, K, b⟩)) := stand16 rfl rfl rfl rfl LN.out
  have BD : Hid (∀ (j : Nat) (x : UInt8), b[j]? = some x → (laidQ ⟨G, P, T, K, b⟩)[14 + j]? = some x) := fun j x h => body16 (s := ⟨G, P, T, K, b⟩) j x h
  have ZR : Hid (∀ (j : Nat) (x : UInt8), 14 + n ≤ j → (laidQ ⟨G, P, T, K, b⟩)[j]? = some x → x = 0) := fun j x hj hx => by
    have hl := (List.getElem?_eq_some_iff.1 hx).1
    rw [laidq_len (s := ⟨G, P, T, K, b⟩) z10] at hl
    rw [laidq_zero (s := ⟨G, P, T, K, b⟩) z10 (by rw [← LN.out]; exact hj) hl] at hx
    exact (Option.some.inj hx).symm
  have LL : Hid ((laidQ ⟨G, P, T, K, b⟩).length = 64) := laidq_len (s := ⟨G, P, T, K, b⟩) z10
  rw [E.out]
  generalize laidQ ⟨G, P, T, K, b⟩ = bs at ST BD ZR LL ⊢
  have NS : Hid (∀ (i x : Nat), [G, P, T, K, n][i]? = some x → (#[.int .i64 (G : Int), .int .i64 (P : Int), .int .i64 (T : Int), .int .i64 (K : Int), .int .i64 (n : Int)] : Array Value)[i]? = some (Value.int .i64 (x : Int)) ∧ x < 9223372036854775808) := by
    intro i x hx
    match i, hx with
    | 0, hx => obtain rfl : G = x := by simpa using hx
               exact ⟨rfl, by omega⟩
    | 1, hx => obtain rfl : P = x := by simpa using hx
               exact ⟨rfl, by omega⟩
    | 2, hx => obtain rfl : T = x := by simpa using hx
               exact ⟨rfl, by omega⟩
    | 3, hx => obtain rfl : K = x := by simpa using hx
               exact ⟨rfl, by omega⟩
    | 4, hx => obtain rfl : n = x := by simpa using hx
               exact ⟨rfl, by omega⟩
    | i + 5, hx => simp at hx
  obtain ⟨bA, oA, rfl, lA, _⟩ := RA.out (by omega)
  have LA := Lib.hid lA; have N50 := Lib.hid n50
  obtain ⟨i0, hi, hz0, hz1, hz2⟩ := info_parts Tryd.infoB
  have hmk : ∀ w : World, (Instr.makeSlice 22 (.int .i64 64) (.int .i64 64)).run Tryd.prog w = .ok (.slice (some ⟨w.heap.size, 0, none⟩) 64 64) (w.alloc (.cells (madeCells #[.int .u8 0] 64) 5)) := fun w => by
    have := run_make (P := Tryd.prog) w 22 5 i0 _ Tryd.underlying22 hi hz0 .i64 .i64 64 64 (by omega) (Int.le_refl _) (by rw [hz2]; omega) (by omega)
    rw [hz1, Nat.mul_one] at this
    exact this
  unfold secv at CR ⊢
  dsimp only at CR ⊢
  clear z1 z2 z3 z4 z5 z6 z7 z8 z9 z10 lA n50 hi hz0 hz1 hz2 E
  go_enter Tryd.func14, Tryd.ntmps14
  go_wp2_with fail
  have Q0 := QB.new w ⟨(G : Int), (P : Int), (T : Int), (K : Int), b⟩ (some ⟨bA, oA, none⟩) n c
  have hb := chain_alloc (Below.refl _ w) (.cells #[.int .i64 (G : Int), .int .i64 (P : Int), .int .i64 (T : Int), .int .i64 (K : Int), .slice (some ⟨bA, oA, none⟩) n c] 24)
  obtain ⟨z, hz⟩ : ∃ z, z = w.heap.size := ⟨_, rfl⟩
  dsimp only at Q0
  rw [← hz] at Q0 ⊢
  generalize w.alloc (.cells #[.int .i64 (G : Int), .int .i64 (P : Int), .int .i64 (T : Int), .int .i64 (K : Int), .slice (some ⟨bA, oA, none⟩) n c] 24) = w1 at hb Q0 ⊢
  have BW := Lib.hid hb
  have QX := Lib.hid Q0
  clear hb Q0 hz
  refine (CR.out _).mono ?_
  rintro e w2 ⟨rfl, hb⟩
  have B2 := Lib.hid (chain BW.out hb)
  replace QX := Lib.hid (QX.out.below hb)
  have QX2 := QX
  replace RA := Lib.hid (RA.out.below B2.out)
  have LA2 : Hid (bA < w2.heap.size) := Nat.lt_of_lt_of_le LA.out B2.out.size
  have HT2 := Lib.hid (HT.out.below B2.out)
  clear hb BW CR LA HT
  go_wp2_with fail
  have F3 := FB.made w2 64 (fun j => 14 + n ≤ j) bs LL.out (fun j x h1 h2 => ZR.out j x h1 h2)
  have hb := chain_alloc (Below.refl _ w2) (.cells (madeCells #[.int .u8 0] 64) 5)
  obtain ⟨g, hg⟩ : ∃ g, g = w2.heap.size := ⟨_, rfl⟩
  rw [← hg] at F3 ⊢
  generalize w2.alloc (.cells (madeCells #[.int .u8 0] 64) 5) = w3 at hb F3 ⊢
  have HG := Lib.hid hg
  replace QX := Lib.hid (QX.out.below hb)
  obtain ⟨c0, c1, c2, c3, c4⟩ := QX.out.cells
  have zl := QX.out.lt
  dsimp only at c0 c1 c2 c3 c4
  have B3 := Lib.hid hb
  clear hb hg hmk
  refine wp_region_noPanic ?_
  refine wp_region_held_drew (S := fun w' => w'.cell? ⟨z, 0, none⟩ = some (.int .i64 (G : Int)) ∧ w'.cell? ⟨z, 1, none⟩ = some (.int .i64 (P : Int)) ∧ w'.cell? ⟨z, 2, none⟩ = some (.int .i64 (T : Int)) ∧ w'.cell? ⟨z, 3, none⟩ = some (.int .i64 (K : Int)) ∧ w'.cell? ⟨z, 4, none⟩ = some (.slice (some ⟨bA, oA, none⟩) n c)) (by kernel_rfl) ⟨c0, c1, c2, c3, c4⟩ (fun hHeld => ?_)
  have hd := below_drew w3
  have F4 := Lib.hid (F3.keep hd)
  replace QX := Lib.hid (QX.out.below hd)
  replace B3 := Lib.hid (B3.out.trans (hd.mono B3.out.size))
  generalize w3.drew = w4 at hHeld hd F4 QX B3 ⊢
  clear hd F3 c0 c1 c2 c3 c4 zl
  refine wpAnyH_take (i := 0) (v := ?vv1) (by simp only [List.getElem?_toArray, List.getElem?_cons_zero]; rfl) (by kernel_rfl) (by kernel_rfl) (by kernel_rfl) (fun _ _ _ h => h) (Or.inl ⟨by rfl, ?yy1⟩) (by assumption) ?rr1
  case yy1 => (intro w hSw; obtain ⟨c0, c1, c2, c3, c4⟩ := hSw; go_simp; first | done | with_reducible rfl)
  simp only [Act.put, List.setIfInBounds_toArray, List.set_cons_zero, List.set_cons_succ]
  refine wpAnyH_take (i := 1) (v := ?vv2) (by simp only [List.getElem?_toArray, List.getElem?_cons_zero, List.getElem?_cons_succ]; rfl) (by kernel_rfl) (by kernel_rfl) (by kernel_rfl) (fun _ _ _ h => h) (Or.inl ⟨by rfl, ?yy2⟩) (by assumption) ?rr2
  case yy2 => (intro w hSw; obtain ⟨c0, c1, c2, c3, c4⟩ := hSw; go_simp; first | done | with_reducible rfl)
  simp only [Act.put, List.setIfInBounds_toArray, List.set_cons_zero, List.set_cons_succ]
  refine wpAnyH_take (i := 2) (v := ?vv3) (by simp only [List.getElem?_toArray, List.getElem?_cons_zero, List.getElem?_cons_succ]; rfl) (by kernel_rfl) (by kernel_rfl) (by kernel_rfl) (fun _ _ _ h => h) (Or.inl ⟨by rfl, ?yy3⟩) (by assumption) ?rr3
  case yy3 => (intro w hSw; obtain ⟨c0, c1, c2, c3, c4⟩ := hSw; go_simp; first | done | with_reducible rfl)
  simp only [Act.put, List.setIfInBounds_toArray, List.set_cons_zero, List.set_cons_succ]
  refine wpAnyH_take (i := 3) (v := ?vv4) (by simp only [List.getElem?_toArray, List.getElem?_cons_zero, List.getElem?_cons_succ]; rfl) (by kernel_rfl) (by kernel_rfl) (by kernel_rfl) (fun _ _ _ h => h) (Or.inl ⟨by rfl, ?yy4⟩) (by assumption) ?rr4
  case yy4 => (intro w hSw; obtain ⟨c0, c1, c2, c3, c4⟩ := hSw; go_simp; first | done | with_reducible rfl)
  simp only [Act.put, List.setIfInBounds_toArray, List.set_cons_zero, List.set_cons_succ]
  refine wpAnyH_take (i := 4) (v := ?vv5) (by simp only [List.getElem?_toArray, List.getElem?_cons_zero, List.getElem?_cons_succ]; rfl) (by kernel_rfl) (by kernel_rfl) (by kernel_rfl) (fun _ _ _ h => h) (Or.inl ⟨by rfl, ?yy5⟩) (by assumption) ?rr5
  case yy5 => (intro w hSw; obtain ⟨c0, c1, c2, c3, c4⟩ := hSw; go_simp; first | done | with_reducible rfl)
  simp only [Act.put, List.setIfInBounds_toArray, List.set_cons_zero, List.set_cons_succ]
  refine wpAnyH_take (i := 5) (v := ?vv6) (by simp only [List.getElem?_toArray, List.getElem?_cons_zero, List.getElem?_cons_succ]; rfl) (by kernel_rfl) (by kernel_rfl) (by kernel_rfl) (fun _ _ _ h => h) (Or.inl ⟨by rfl, ?yy6⟩) (by assumption) ?rr6
  case yy6 => (intro w hSw; obtain ⟨c0, c1, c2, c3, c4⟩ := hSw; go_simp; first | done | with_reducible rfl)
  simp only [Act.put, List.setIfInBounds_toArray, List.set_cons_zero, List.set_cons_succ]
  refine wpAnyH_take (i := 6) (v := ?vv7) (by simp only [List.getElem?_toArray, List.getElem?_cons_zero, List.getElem?_cons_succ]; rfl) (by kernel_rfl) (by kernel_rfl) (by kernel_rfl) (fun _ _ _ h => h) (Or.inl ⟨by rfl, ?yy7⟩) (by assumption) ?rr7
  case yy7 => (intro w hSw; obtain ⟨c0, c1, c2, c3, c4⟩ := hSw; go_simp; first | done | with_reducible rfl)
  simp only [Act.put, List.setIfInBounds_toArray, List.set_cons_zero, List.set_cons_succ]
  refine wpAnyH_take (i := 7) (v := ?vv8) (by simp only [List.getElem?_toArray, List.getElem?_cons_zero, List.getElem?_cons_succ]; rfl) (by kernel_rfl) (by kernel_rfl) (by kernel_rfl) (fun _ _ _ h => h) (Or.inl ⟨by rfl, ?yy8⟩) (by assumption) ?rr8
  case yy8 => (intro w hSw; obtain ⟨c0, c1, c2, c3, c4⟩ := hSw; go_simp; first | done | with_reducible rfl)
  simp only [Act.put, List.setIfInBounds_toArray, List.set_cons_zero, List.set_cons_succ]
  refine wpAnyH_take (i := 8) (v := ?vv9) (by simp only [List.getElem?_toArray, List.getElem?_cons_zero, List.getElem?_cons_succ]; rfl) (by kernel_rfl) (by kernel_rfl) (by kernel_rfl) (fun _ _ _ h => h) (Or.inl ⟨by rfl, ?yy9⟩) (by assumption) ?rr9
  case yy9 => (intro w hSw; obtain ⟨c0, c1, c2, c3, c4⟩ := hSw; go_simp; first | done | with_reducible rfl)
  simp only [Act.put, List.setIfInBounds_toArray, List.set_cons_zero, List.set_cons_succ]
  refine wpAnyH_take (i := 9) (v := ?vv10) (by simp only [List.getElem?_toArray, List.getElem?_cons_zero, List.getElem?_cons_succ]; rfl) (by kernel_rfl) (by kernel_rfl) (by kernel_rfl) (fun _ _ _ h => h) (Or.inl ⟨by rfl, ?yy10⟩) (by assumption) ?rr10
  case yy10 => (intro w hSw; obtain ⟨c0, c1, c2, c3, c4⟩ := hSw; go_simp; first | done | with_reducible rfl)
  simp only [Act.put, List.setIfInBounds_toArray, List.set_cons_zero, List.set_cons_succ]
  refine wpAnyH_take (i := 10) (v := ?vv11) (by simp only [List.getElem?_toArray, List.getElem?_cons_zero, List.getElem?_cons_succ]; rfl) (by kernel_rfl) (by kernel_rfl) (by kernel_rfl) (fun _ _ _ h => h) (Or.inl ⟨by rfl, ?yy11⟩) (by assumption) ?rr11
  case yy11 => (intro w hSw; obtain ⟨c0, c1, c2, c3, c4⟩ := hSw; go_simp; first | done | with_reducible rfl)
  simp only [Act.put, List.setIfInBounds_toArray, List.set_cons_zero, List.set_cons_succ]
  refine wpAnyH_take (i := 11) (v := ?vv12) (by simp only [List.getElem?_toArray, List.getElem?_cons_zero, List.getElem?_cons_succ]; rfl) (by kernel_rfl) (by kernel_rfl) (by kernel_rfl) (fun _ _ _ h => h) (Or.inl ⟨by rfl, ?yy12⟩) (by assumption) ?rr12
  case yy12 => (intro w hSw; obtain ⟨c0, c1, c2, c3, c4⟩ := hSw; go_simp; first | done | with_reducible rfl)
  simp only [Act.put, List.setIfInBounds_toArray, List.set_cons_zero, List.set_cons_succ]
  refine wpAnyH_take (i := 14) (v := ?vv13) (by simp only [List.getElem?_toArray, List.getElem?_cons_zero, List.getElem?_cons_succ]; rfl) (by kernel_rfl) (by kernel_rfl) (by kernel_rfl) (fun _ _ _ h => h) (Or.inl ⟨by rfl, ?yy13⟩) (by assumption) ?rr13
  case yy13 => (intro w hSw; obtain ⟨c0, c1, c2, c3, c4⟩ := hSw; go_simp; first | done | with_reducible rfl)
  simp only [Act.put, List.setIfInBounds_toArray, List.set_cons_zero, List.set_cons_succ]
  refine wpAnyH_take (i := 15) (v := ?vv14) (by simp only [List.getElem?_toArray, List.getElem?_cons_zero, List.getElem?_cons_succ]; rfl) (by kernel_rfl) (by kernel_rfl) (by kernel_rfl) (fun _ _ _ h => h) (Or.inl ⟨by rfl, ?yy14⟩) (by assumption) ?rr14
  case yy14 => (intro w hSw; obtain ⟨c0, c1, c2, c3, c4⟩ := hSw; go_simp; first | done | with_reducible rfl)
  simp only [Act.put, List.setIfInBounds_toArray, List.set_cons_zero, List.set_cons_succ]
  refine wpAnyH_ready (rs := [12]) (by kernel_rfl) (by simp) ?_
  refine AllReadyH.cons (by simp only [List.getElem?_toArray, List.getElem?_cons_zero, List.getElem?_cons_succ]; rfl) (fun K' hK => ?_) AllReadyH.nil
  go_simp
  have hb := chain_alloc (Below.refl _ w4) (.cells #[.int .i64 (G : Int), .int .i64 (P : Int), .int .i64 (T : Int), .int .i64 (K : Int), .int .i64 (n : Int)] 3)
  have HC := Lib.hid (heap_alloc_new w4 (.cells #[.int .i64 (G : Int), .int .i64 (P : Int), .int .i64 (T : Int), .int .i64 (K : Int), .int .i64 (n : Int)] 3))
  obtain ⟨h, hh⟩ : ∃ h, h = w4.heap.size := ⟨_, rfl⟩
  have NE : Hid (¬ g = h) := fun e => by have := F4.out.lt; omega
  rw [← hh] at HC ⊢
  replace F4 := Lib.hid (F4.out.keep hb)
  replace QX := Lib.hid (QX.out.below hb)
  replace B3 := Lib.hid (B3.out.trans (hb.mono B3.out.size))
  generalize w4.alloc (.cells #[.int .i64 (G : Int), .int .i64 (P : Int), .int .i64 (T : Int), .int .i64 (K : Int), .int .i64 (n : Int)] 3) = w5 at HC F4 QX B3 ⊢
  clear hb hh hHeld
  have hSS := QX.out.cells
  refine hK.out _ _ ⟨hSS.1, hSS.2.1, hSS.2.2.1, hSS.2.2.2.1, hSS.2.2.2.2⟩ (fun hHeld => ?_)
  clear hK K' hSS
  try simp only [Act.put, List.setIfInBounds_toArray, List.set_cons_zero, List.set_cons_succ]
  refine wpAnyH_ready (rs := [13]) (by kernel_rfl) (by simp) ?_
  refine AllReadyH.cons (by simp only [List.getElem?_toArray, List.getElem?_cons_zero, List.getElem?_cons_succ]; rfl) (fun K' hK => ?_) AllReadyH.nil
  go_simp
  go_at_call 23
  (with_reducible refine (lay16 g h [G, P, T, K, n] bs _ _ w2 w5 HT2.out B3.out (Nat.le_of_eq HG.out.symm) NE.out HC.out NS.out rfl ST.out F4.out).mono ?_)
  rintro e w6 ⟨rfl, hF, hb⟩
  clear hHeld
  have F6 := Lib.hid hF
  have QX6 : Hid (QB w6 z ⟨(G : Int), (P : Int), (T : Int), (K : Int), b⟩ (some ⟨bA, oA, none⟩) n c) := QX2.out.below hb
  have B6 := Lib.hid hb
  clear hF hb F4 B3 HC NE
  go_wp2_with fail
  have hSS := QX6.out.cells
  refine hK.out _ _ ⟨hSS.1, hSS.2.1, hSS.2.2.1, hSS.2.2.2.1, hSS.2.2.2.2⟩ (fun hHeld => ?_)
  clear hK K' hSS
  try simp only [Act.put, List.setIfInBounds_toArray, List.set_cons_zero, List.set_cons_succ]
  obtain ⟨v7, w7, run7, f7, b7⟩ := fb_copy (c := c) F6.out (RA.out.below B6.out) LN.out N50.out BD.out
  refine wpAnyH_ready (rs := [16]) (by kernel_rfl) (by simp) ?_
  refine AllReadyH.cons (by simp only [List.getElem?_toArray, List.getElem?_cons_zero, List.getElem?_cons_succ]; rfl) (fun K' hK => ?_) AllReadyH.nil
  go_simp
  have B7 := Lib.hid (b7 w2 (Nat.le_of_eq HG.out.symm) B6.out)
  have QX7 : Hid (QB w7 z ⟨(G : Int), (P : Int), (T : Int), (K : Int), b⟩ (some ⟨bA, oA, none⟩) n c) := QX2.out.below B7.out
  have hSS := QX7.out.cells
  refine hK.out _ _ ⟨hSS.1, hSS.2.1, hSS.2.2.1, hSS.2.2.2.1, hSS.2.2.2.2⟩ (fun hHeld => ?_)
  clear hK K' hSS hHeld
  try simp only [Act.put, List.setIfInBounds_toArray, List.set_cons_zero, List.set_cons_succ]
  refine wpAnyH_done (by kernel_rfl) ?_ _
  refine NoPanic.normal ?_
  have O9 := Lib.hid (f7.done (B := w.heap.size) (fun j hj => by
    by_cases j1 : j < 14
    · exact .inl (.inr j1)
    · by_cases j2 : j < 14 + n
      · exact .inr ⟨by omega, j2⟩
      · exact .inl (.inl (by omega))) LL.out (by rw [HG.out]; exact B2.out.size) (by unfold maxLen; omega))
  have B9 := Lib.hid (chain B2.out B7.out)
  clear f7 b7 run7 QX QX2 QX6 QX7 F6 B6 B7
  go_wp2_with fail
  go_ret
  exact ⟨_, rfl, by rw [LL.out]; exact O9.out, B9.out⟩

end Go.Proofs.YtjokaaekliapmaaDoor
