/-
  The fixed questions of layer 14.
-/
import Derived.Test.YtlllinpaclodaaaCPub
import Derived.Test.YtlllinpaclodaaaRHeld
namespace Go.Proofs.Ytlllinpaclodaaa
open Go.RowKit

theorem h14a : putC 258 [1] = [1, 2, 0, 0, 0, 0, 0, 0, 0, 1] := by kernel_rfl
theorem h14b : okGet [1, 2, 0, 0, 0, 0, 0, 0, 0, 1] = true ∧ getP [1, 2, 0, 0, 0, 0, 0, 0, 0, 1] = 258 ∧ getL [1, 2, 0, 0, 0, 0, 0, 0, 0, 1] = [1] := ⟨by kernel_rfl, by kernel_rfl, by kernel_rfl⟩
def c14 : List (List UInt8) := cutC 3 [1, 2, 3, 4, 5, 6, 7]
theorem h14c : c14.length = 2 := by kernel_rfl
theorem h14d : okGa 4 6 c14 = true ∧ gaL 4 6 c14 = [2, 3, 4, 5, 6, 7] := ⟨by kernel_rfl, by kernel_rfl⟩
theorem h14e : okGa 2 2 c14 = false := by kernel_rfl
theorem h14f : okGa 9 0 [] = true ∧ gaL 9 0 [] = [] := ⟨by kernel_rfl, by kernel_rfl⟩
theorem h14g : putC 65535 [1, 2] = [] := by kernel_rfl
theorem h14h : cutC (-1) [1] = [] := by kernel_rfl
theorem c14_len : ∀ b ∈ c14, b.length ≤ 1000000 := by
  have : (c14.all fun b => decide (b.length ≤ 1000000)) = true := by kernel_rfl
  exact fun b hb => by simpa using List.all_eq_true.1 this b hb
/-- Are bytes too many? -/
def GreatTo (bss : List (List UInt8)) (w : World) (e : Ending) (w' : World) : Prop := ∃ r, e = .returned (.bool r) ∧ (r = false → bss.length < 9000 ∧ ∀ b ∈ bss, b.length < 9000) ∧ Below w.heap.size w w'

set_option maxHeartbeats 4000000 in
set_option maxRecDepth 100000 in
theorem great14 (A : Option Addr) (cA n : Nat) (bss : List (List UInt8)) (w : World) (hx : BR w A bss) (lx : n = bss.length) :
    Calls Try.prog 11 #[.slice A n cA] w (GreatTo bss w) := by
  have HX := Lib.hid hx; have LX := Lib.hid lx
  clear hx lx
  go_enter Try.func11, Try.ntmps11
  go_wp2_with fail
  go_loopg [3, 4] n (fun gh s3 s4 wr => ∃ k m : Nat, k ≤ n ∧ Hid (gh = n - k) ∧ s4 = .int .i64 (k : Int) ∧ s3 = .int .i64 (m : Int) ∧ Hid (n ≤ m ∧ m ≤ n + 9000 * k) ∧ Hid (m < 9000 → ∀ j b, j < k → bss[j]? = some b → b.length < 9000) ∧ Hid (Below w.heap.size w wr))
  case atStart => exact ⟨0, n, Nat.zero_le _, by show _ = _; omega, rfl, rfl, ⟨Nat.le_refl _, by omega⟩, fun _ j b z => absurd z (by omega), Below.refl _ _⟩
  case round =>
    obtain ⟨k, m, hk, HG, rfl, rfl, MB, LL, BK⟩ := hrel
    by_cases mn : m < 9000
    · have mi : (m : Int) < 9000 := by omega
      have mi2 : decide (9000 ≤ (m : Int)) = false := decide_eq_false (by omega)
      by_cases kn : k < n
      · have ki : (k : Int) < (n : Int) := by omega
        have ka : (0 : Int) ≤ (k : Int) := by omega
        obtain ⟨b, gb⟩ : ∃ b, bss[k]? = some b := ⟨_, List.getElem?_eq_getElem (by rw [← LX.out]; exact kn)⟩
        obtain ⟨b1, o1, h, rfl, l1, hc, HB1⟩ := HX.out.get gb
        have c1 := (BK.out.cell (p := ⟨b1, o1 + k, none⟩) l1).trans hc
        obtain ⟨hA, hn0, hc0⟩ := h
        dsimp only at c1
        obtain ⟨u, hu⟩ : ∃ u : Nat, u = min hn0 9000 := ⟨_, rfl⟩
        have hmin : ∀ (ts : Array TypeId) (ty : TypeId) (w : World), (Builtin.min_ ts ty #[.int .i64 (hn0 : Int), .int .i64 9000]).run Try.prog w = .ok (.int .i64 (u : Int)) w := by
          intro ts t w
          simp [Builtin.min_, Builtin.min2]
          repeat' split
          all_goals omega
        have u9 : u ≤ 9000 := by omega
        have LB : Hid (hn0 = b.length) := HB1.1
        have HU := Lib.hid hu
        have GB := Lib.hid gb
        have KN := Lib.hid kn
        have MN := Lib.hid mn
        have m9 : m ≤ 9000 := by omega
        have n9 : n ≤ 9000 := by have : n ≤ m := MB.out.1; omega
        clear hc HB1 gb hu
        go_wp2_with fail
        go_roundg (n - (k + 1))
        case measure => have := HG.out; have := KN.out; omega
        case rel =>
          refine ⟨k + 1, m + u, by have := KN.out; omega, rfl, by go_num, by go_num, ?_, ?_, BK⟩
          · show n ≤ m + u ∧ m + u ≤ n + 9000 * (k + 1)
            have := MB.out; omega
          · intro hm j b' hj gj
            by_cases q : j < k
            · exact LL.out (by omega) j b' q gj
            · obtain rfl : j = k := by omega
              rw [GB.out] at gj
              obtain rfl := Option.some.inj gj
              rw [← LB.out]
              have := HU.out
              have : n ≤ m := MB.out.1
              have := KN.out
              omega
      · obtain rfl : k = n := by omega
        have RES : Hid (∀ b ∈ bss, b.length < 9000) := fun b hb => by
          obtain ⟨j, hj, e⟩ := List.mem_iff_getElem.1 hb
          exact LL.out mn j b (by rw [LX.out]; exact hj) (by rw [List.getElem?_eq_getElem hj, e])
        have L9 : Hid (bss.length < 9000) := by show bss.length < 9000; rw [← LX.out]; have := MB.out.1; omega
        clear mn kn
        go_wp2_with fail
        go_ret
        exact ⟨_, rfl, fun _ => ⟨L9.out, RES.out⟩, BK.out⟩
    · have mi : decide ((m : Int) < 9000) = false := decide_eq_false (by omega)
      have mi3 : decide (m < 9000) = false := decide_eq_false (by omega)
      have mi2 : decide (9000 ≤ (m : Int)) = true := decide_eq_true (by omega)
      have mi4 : decide (9000 ≤ m) = true := decide_eq_true (by omega)
      clear mn
      by_cases kn : k < n
      · have ki : (k : Int) < (n : Int) := by omega
        go_wp2_with fail
        go_ret
        exact ⟨true, rfl, (fun z => absurd z (by decide)), BK.out⟩
      · obtain rfl : k = n := by omega
        go_wp2_with fail
        go_ret
        exact ⟨true, rfl, (fun z => absurd z (by decide)), BK.out⟩

set_option maxHeartbeats 8000000 in
set_option maxRecDepth 100000 in
theorem head14_any (w : World) : Calls Try.prog 10 #[] w fun e w' => e = .returned (.bool true) ∧ Below w.heap.size w w' := by
  go_enter Try.func10, Try.ntmps10
  go_wp2_with fail
  refine (put14 258 (some ⟨w.heap.size, 0, none⟩) 1 1 [1] _ (rg_block (heap_alloc_new w _) rfl) rfl (by decide)).mono ?_
  rintro e w1 ⟨Ab, kb, nb, rfl, h1, h2, hb, h4, h5, h6⟩
  rw [h14a] at h1 h2
  obtain rfl : nb = 10 := h1
  have Mb : Hid (10 = [1, 2, 0, 0, 0, 0, 0, 0, 0, (1 : UInt8)].length) := rfl
  have Rb := Lib.hid h2
  have Kb := Lib.hid h4
  clear h2 h4 h5 h6
  replace hb := chain (chain_alloc (Below.refl _ w) _) hb
  have B1 := Lib.hid hb
  clear hb
  have tb := text_of (c := kb) Rb.out Mb.out
  go_wp2_with fail
  refine (get14 Ab kb 10 _ _ Rb.out Mb.out (by decide)).mono ?_
  rintro e w2 ⟨Al, kl, nl, rfl, h1, h2, hb, h4, h5⟩
  obtain ⟨z1, z2, z3⟩ := h14b
  rw [z3] at h1 h2
  rw [z1, z2]
  obtain rfl : nl = 1 := h1
  have Ml : Hid (1 = [(1 : UInt64)].length) := rfl
  have Rl := Lib.hid h2
  clear h2 h4 h5 z1 z2 z3
  have B2 := Lib.hid (chain B1.out hb)
  replace Rb := Lib.hid (Rb.out.below hb)
  clear tb
  clear hb B1
  have tb := text_of (c := kb) Rb.out Mb.out
  go_wp2_with fail
  refine (cut14 3 (some ⟨w2.heap.size, 0, none⟩) 7 7 [1, 2, 3, 4, 5, 6, 7] _ (rg_block (heap_alloc_new w2 _) rfl) rfl (by decide) (by decide)).mono ?_
  rintro e w3 ⟨Ac, kc, nc, rfl, h1, h2, hb, h4, h5⟩
  change nc = c14.length at h1
  rw [h14c] at h1
  obtain rfl := h1
  have Mc : Hid (2 = c14.length) := h14c.symm
  have Rc : Hid (BR w3 Ac c14) := h2
  clear h2 h4 h5
  replace hb := chain (chain_alloc (Below.refl _ w2) _) hb
  have B3 := Lib.hid (chain B2.out hb)
  replace Rb := Lib.hid (Rb.out.below hb)
  replace Rl := Lib.hid (Rl.out.below hb)
  clear tb
  clear hb B2
  have tb := text_of (c := kb) Rb.out Mb.out
  go_wp2_with fail
  refine (gather14 4 6 Ac kc 2 c14 _ Rc.out Mc.out (by decide) c14_len).mono ?_
  rintro e w4 ⟨Ax, kx, nx, rfl, h1, h2, hb, h4, h5⟩
  obtain ⟨z1, z2⟩ := h14d
  rw [z2] at h1 h2
  rw [z1]
  obtain rfl : nx = 6 := h1
  have Mx : Hid (6 = [(2 : UInt64), 3, 4, 5, 6, 7].length) := rfl
  have Rx := Lib.hid h2
  clear h2 h4 h5 z1 z2
  have B4 := Lib.hid (chain B3.out hb)
  replace Rb := Lib.hid (Rb.out.below hb)
  replace Rl := Lib.hid (Rl.out.below hb)
  replace Rc := Lib.hid (Rc.out.below hb)
  clear tb
  clear hb B3
  have tb := text_of (c := kb) Rb.out Mb.out
  go_wp2_with fail
  refine (gather14 2 2 Ac kc 2 c14 _ Rc.out Mc.out (by decide) c14_len).mono ?_
  rintro e w5 ⟨An, kn, nn, rfl, h1, h2, hb, h4, h5⟩
  rw [h14e]
  clear h1 h2 h4 h5
  have B5 := Lib.hid (chain B4.out hb)
  replace Rb := Lib.hid (Rb.out.below hb)
  replace Rl := Lib.hid (Rl.out.below hb)
  replace Rc := Lib.hid (Rc.out.below hb)
  replace Rx := Lib.hid (Rx.out.below hb)
  clear tb
  clear hb B4
  have tb := text_of (c := kb) Rb.out Mb.out
  go_wp2_with fail
  refine (gather14 9 0 none 0 0 [] _ (BR.nil _ _) rfl (by decide) (by simp)).mono ?_
  rintro e w6 ⟨Ay, ky, ny, rfl, h1, h2, hb, h4, h5⟩
  obtain ⟨z1, z2⟩ := h14f
  rw [z2] at h1
  rw [z1]
  obtain rfl : ny = 0 := h1
  clear h2 h4 h5 z1 z2
  have B6 := Lib.hid (chain B5.out hb)
  replace Rb := Lib.hid (Rb.out.below hb)
  replace Rl := Lib.hid (Rl.out.below hb)
  replace Rc := Lib.hid (Rc.out.below hb)
  replace Rx := Lib.hid (Rx.out.below hb)
  clear tb
  clear hb B5
  have tb := text_of (c := kb) Rb.out Mb.out
  have tq : ((tx [1, 2, 0, 0, 0, 0, 0, 0, 0, (1 : UInt8)]).toList == [1, 2, 0, 0, 0, 0, 0, 0, 0, (1 : UInt8)]) = true := by rw [tx_list]; decide
  go_wp2_with fail
  refine (ssame Al (some ⟨w6.heap.size, 0, none⟩) kl 1 1 1 [1] [1] _ (Rl.out.below (chain_alloc (Below.refl _ w6) _)) (rg_block (heap_alloc_new w6 _) rfl) Ml.out rfl (by decide) rfl).mono ?_
  rintro e w7 ⟨rfl, hb⟩
  replace hb := chain (chain_alloc (Below.refl _ w6) _) hb
  have B7 := Lib.hid (chain B6.out hb)
  replace Rb := Lib.hid (Rb.out.below hb)
  replace Rl := Lib.hid (Rl.out.below hb)
  replace Rc := Lib.hid (Rc.out.below hb)
  replace Rx := Lib.hid (Rx.out.below hb)
  clear tb
  clear hb B6
  have tb := text_of (c := kb) Rb.out Mb.out
  go_wp2_with fail
  refine (ssame Ax (some ⟨w7.heap.size, 0, none⟩) kx 6 6 6 [2, 3, 4, 5, 6, 7] [2, 3, 4, 5, 6, 7] _ (Rx.out.below (chain_alloc (Below.refl _ w7) _)) (rg_block (heap_alloc_new w7 _) rfl) Mx.out rfl (by decide) rfl).mono ?_
  rintro e w8 ⟨rfl, hb⟩
  replace hb := chain (chain_alloc (Below.refl _ w7) _) hb
  have B8 := Lib.hid (chain B7.out hb)
  replace Rb := Lib.hid (Rb.out.below hb)
  replace Rl := Lib.hid (Rl.out.below hb)
  replace Rc := Lib.hid (Rc.out.below hb)
  replace Rx := Lib.hid (Rx.out.below hb)
  clear tb
  clear hb B7
  have tb := text_of (c := kb) Rb.out Mb.out
  go_wp2_with fail
  refine (put14 65535 (some ⟨w8.heap.size, 0, none⟩) 2 2 [1, 2] _ (rg_block (heap_alloc_new w8 _) rfl) rfl (by decide)).mono ?_
  rintro e w9 ⟨Av, kv, nv, rfl, h1, h2, hb, h4, h5, h6⟩
  rw [h14g] at h1
  obtain rfl : nv = 0 := h1
  clear h2 h4 h5 h6
  replace hb := chain (chain_alloc (Below.refl _ w8) _) hb
  have B9 := Lib.hid (chain B8.out hb)
  replace Rb := Lib.hid (Rb.out.below hb)
  replace Rl := Lib.hid (Rl.out.below hb)
  replace Rc := Lib.hid (Rc.out.below hb)
  replace Rx := Lib.hid (Rx.out.below hb)
  clear tb
  clear hb B8
  have tb := text_of (c := kb) Rb.out Mb.out
  go_wp2_with fail
  refine (cut14 (-1) (some ⟨w9.heap.size, 0, none⟩) 1 1 [1] _ (rg_block (heap_alloc_new w9 _) rfl) rfl (by decide) (by decide)).mono ?_
  rintro e w10 ⟨Au, ku, nu, rfl, h1, h2, hb, h4, h5⟩
  rw [h14h] at h1
  obtain rfl : nu = 0 := h1
  clear h2 h4 h5
  replace hb := chain (chain_alloc (Below.refl _ w9) _) hb
  have B10 := Lib.hid (chain B9.out hb)
  replace Rb := Lib.hid (Rb.out.below hb)
  replace Rl := Lib.hid (Rl.out.below hb)
  replace Rc := Lib.hid (Rc.out.below hb)
  replace Rx := Lib.hid (Rx.out.below hb)
  clear tb
  clear hb B9
  go_wp2_with fail
  go_ret
  exact ⟨rfl, B10.out⟩

end Go.Proofs.Ytlllinpaclodaaa
