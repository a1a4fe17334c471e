/-
  What is known of layers, in memory; their weights and products, and those of all; must.
-/
import Derived.Test.YtnfmpladdfgadaaFit
import Derived.Test.YtnfmpladdfgadaaPool
import Derived.Test.YtnfmpladdfgadaaForm
import Derived.Deep.RegionHeld3
import Derived.Defers
import Derived.Recover
namespace Go.Proofs.Ytnfmpladdfgadaa
open Go.RowKit

def kcells (k : Kn) : List Value := [.int .i64 k.l.k, .int .i64 k.l.o, .int .i64 k.l.s, .int .i64 k.l.t, .int .i64 k.i.c, .int .i64 k.i.h, .int .i64 k.i.x, .int .i64 k.u.c, .int .i64 k.u.h, .int .i64 k.u.x, .int .i64 k.a]
def kv (k : Kn) : Value := .agg #[.int .i64 k.l.k, .int .i64 k.l.o, .int .i64 k.l.s, .int .i64 k.l.t, .int .i64 k.i.c, .int .i64 k.i.h, .int .i64 k.i.x, .int .i64 k.u.c, .int .i64 k.u.h, .int .i64 k.u.x, .int .i64 k.a]

theorem size_is (c h x n : Int) (e : sizeI c h x = n) (w : World) :
    Calls Try.prog 90 #[.agg #[.int .i64 c, .int .i64 h, .int .i64 x]] w fun e w' => e = .returned (.int .i64 n) ∧ Below w.heap.size w w' := by
  have := size_any c h x w
  rwa [e] at this

set_option maxHeartbeats 1000000 in
theorem weights_conv (o s t c h x a b d u : Int) (w : World) (o0 : 0 ≤ o) (o1 : o ≤ 8) (c0 : 0 ≤ c) (c1 : c ≤ 8) (s0 : 0 ≤ s) (s1 : s ≤ 12) :
    Calls Try.prog 61 #[.agg #[.int .i64 1, .int .i64 o, .int .i64 s, .int .i64 t, .int .i64 c, .int .i64 h, .int .i64 x, .int .i64 a, .int .i64 b, .int .i64 d, .int .i64 u]] w fun e w' => e = .returned (.int .i64 (o * c * s * s)) ∧ Below w.heap.size w w' := by
  obtain ⟨b1, b2, b3, b4, b5, b6⟩ := conv_small o0 o1 c0 c1 s0 s1
  go_enter Try.func61, Try.ntmps61
  go_wp2
  go_ret
  exact ⟨rfl, (Below.refl _ w).alloc (Nat.le_refl _) _⟩

set_option maxHeartbeats 1000000 in
theorem weights_dense (o s t c h x a b d u : Int) (w : World) (o0 : 0 ≤ o) (o1 : o ≤ 8) :
    Calls Try.prog 61 #[.agg #[.int .i64 4, .int .i64 o, .int .i64 s, .int .i64 t, .int .i64 c, .int .i64 h, .int .i64 x, .int .i64 a, .int .i64 b, .int .i64 d, .int .i64 u]] w fun e w' => e = .returned (.int .i64 (o * sizeI c h x)) ∧ Below w.heap.size w w' := by
  obtain ⟨n, hn⟩ : ∃ n, n = sizeI c h x := ⟨_, rfl⟩
  have hb : 0 ≤ n ∧ n ≤ 128 := by rw [hn]; exact sizeI_bd c h x
  obtain ⟨n0, n1⟩ := hb
  have HN := Lib.hid hn
  clear hn
  rw [← HN.out]
  obtain ⟨m0, m1⟩ := mul_bd o0 o1 n0 n1
  have m2 : o * n ≤ 1024 := by omega
  have V : Hid (IntKind.i64.wrap (o * n) = o * n) := IntWalk.i64_in _ (by omega)
  clear m1
  obtain ⟨W, hW⟩ : ∃ W, W = w.alloc (.cells #[.int .i64 4, .int .i64 o, .int .i64 s, .int .i64 t, .int .i64 c, .int .i64 h, .int .i64 x, .int .i64 a, .int .i64 b, .int .i64 d, .int .i64 u] 76) := ⟨_, rfl⟩
  have HBW : Hid (Below w.heap.size w W) := by rw [hW]; exact (Below.refl _ w).alloc (Nat.le_refl _) _
  have a1 : W.cell? ⟨w.heap.size, 1, none⟩ = some (.int .i64 o) := by rw [hW]; go_simp
  have a4 : W.cell? ⟨w.heap.size, 4, none⟩ = some (.int .i64 c) := by rw [hW]; go_simp
  have a5 : W.cell? ⟨w.heap.size, 5, none⟩ = some (.int .i64 h) := by rw [hW]; go_simp
  have a6 : W.cell? ⟨w.heap.size, 6, none⟩ = some (.int .i64 x) := by rw [hW]; go_simp
  have hWl : w.heap.size < W.heap.size := by rw [hW]; simp
  go_enter Try.func61, Try.ntmps61
  go_wp2_with fail
  rw [← hW]
  clear hW
  have HC0 : Hid (Below W.heap.size W W.drew) := below_drew W
  have tok1 : True := trivial
  go_region_held3 (fun w' => w'.cell? ⟨w.heap.size, 1, none⟩ = some (.int .i64 o) ∧ w'.cell? ⟨w.heap.size, 4, none⟩ = some (.int .i64 c) ∧ w'.cell? ⟨w.heap.size, 5, none⟩ = some (.int .i64 h) ∧ w'.cell? ⟨w.heap.size, 6, none⟩ = some (.int .i64 x))
    (first | exact ⟨q1, q4, q5, q6⟩ | go_keep)
    (first
      | ((have _t := tok1; clear tok1; go_at_call 90; (with_reducible refine (size_is c h x n HN.out.symm _).mono ?_); rintro e w1 ⟨rfl, hb1⟩
          have HC1 := Lib.hid (HC0.out.trans (hb1.mono HC0.out.size))
          have q1 := (HC1.out.cell (p := ⟨w.heap.size, 1, none⟩) hWl).trans a1
          have q4 := (HC1.out.cell (p := ⟨w.heap.size, 4, none⟩) hWl).trans a4
          have q5 := (HC1.out.cell (p := ⟨w.heap.size, 5, none⟩) hWl).trans a5
          have q6 := (HC1.out.cell (p := ⟨w.heap.size, 6, none⟩) hWl).trans a6
          clear hb1))
      | fail)
  go_wp2_with fail
  go_ret
  exact ⟨ret_int V.out, HBW.out.trans (HC1.out.mono HBW.out.size)⟩

set_option maxHeartbeats 1000000 in
theorem weights_none (k o s t c h x a b d u : Int) (w : World) (k1 : (k == 1) = false) (k4 : (k == 4) = false) :
    Calls Try.prog 61 #[.agg #[.int .i64 k, .int .i64 o, .int .i64 s, .int .i64 t, .int .i64 c, .int .i64 h, .int .i64 x, .int .i64 a, .int .i64 b, .int .i64 d, .int .i64 u]] w fun e w' => e = .returned (.int .i64 0) ∧ Below w.heap.size w w' := by
  go_enter Try.func61, Try.ntmps61
  go_wp2
  go_ret
  exact ⟨rfl, (Below.refl _ w).alloc (Nat.le_refl _) _⟩

theorem weights_any (k : Kn) (w : World) (hk : KnOk k) : Calls Try.prog 61 #[kv k] w fun e w' => e = .returned (.int .i64 k.w) ∧ Below w.heap.size w w' := by
  obtain ⟨⟨k, o, s, t⟩, ⟨c, h, x⟩, ⟨a, b, d⟩, u⟩ := k
  unfold kv Kn.w
  by_cases k1 : k = 1
  · subst k1
    obtain ⟨a1, a2, a3, a4, a5, a6, _⟩ := hk.1 rfl
    rw [w_conv _ rfl]
    exact weights_conv o s t c h x a b d u w a1 a2 a3 a4 a5 a6
  · by_cases k4 : k = 4
    · subst k4
      obtain ⟨a1, a2⟩ := hk.2 rfl
      rw [w_dense _ rfl]
      exact weights_dense o s t c h x a b d u w a1 a2
    · rw [w_none (l := ⟨k, o, s, t⟩) _ k1 k4]
      exact weights_none k o s t c h x a b d u w (ne_beq k1) (ne_beq k4)

theorem weights_is (k : Kn) (n : Int) (e : k.w = n) (w : World) (hk : KnOk k) : Calls Try.prog 61 #[kv k] w fun e w' => e = .returned (.int .i64 n) ∧ Below w.heap.size w w' := by
  have := weights_any k w hk
  rwa [e] at this

set_option maxHeartbeats 1000000 in
theorem products_conv (K : Kn) (o s t c h x a b d u : Int) (n : Int) (w : World) (hK : K = ⟨⟨1, o, s, t⟩, ⟨c, h, x⟩, ⟨a, b, d⟩, u⟩) (hn : K.w = n) (ok : KnOk K) :
    Calls Try.prog 63 #[.agg #[.int .i64 1, .int .i64 o, .int .i64 s, .int .i64 t, .int .i64 c, .int .i64 h, .int .i64 x, .int .i64 a, .int .i64 b, .int .i64 d, .int .i64 u]] w fun e w' => e = .returned (.int .i64 (n * b * d)) ∧ Below w.heap.size w w' := by
  have hw := ok.w
  rw [hn] at hw
  obtain ⟨n0, n1⟩ := hw
  have ok' := ok
  rw [hK] at ok'
  obtain ⟨_, _, _, _, _, _, z1, z2, z3, z4⟩ := ok'.1 rfl
  have z1 : 0 ≤ b := z1
  have z2 : b ≤ 12 := z2
  have z3 : 0 ≤ d := z3
  have z4 : d ≤ 12 := z4
  obtain ⟨b1, b2⟩ := mul_bd n0 n1 z1 z2
  obtain ⟨b3, b4⟩ := mul_bd b1 b2 z3 z4
  have b2 : n * b ≤ 110592 := by omega
  have b4 : n * b * d ≤ 1327104 := by omega
  have V : Hid (IntKind.i64.wrap (IntKind.i64.wrap (n * b) * d) = n * b * d) := by
    show _ = _
    rw [IntWalk.i64_in (n * b) (by omega), IntWalk.i64_in _ (by omega)]
  have HN := Lib.hid hn; have HO := Lib.hid ok
  have HCall : Hid (∀ w, Calls Try.prog 61 #[.agg #[.int .i64 1, .int .i64 o, .int .i64 s, .int .i64 t, .int .i64 c, .int .i64 h, .int .i64 x, .int .i64 a, .int .i64 b, .int .i64 d, .int .i64 u]] w fun e w' => e = .returned (.int .i64 n) ∧ Below w.heap.size w w') := fun w => by
    have := weights_is K n hn w ok
    rw [hK] at this
    exact this
  clear hn ok ok' hK HN HO
  obtain ⟨W, hW⟩ : ∃ W, W = w.alloc (.cells #[.int .i64 1, .int .i64 o, .int .i64 s, .int .i64 t, .int .i64 c, .int .i64 h, .int .i64 x, .int .i64 a, .int .i64 b, .int .i64 d, .int .i64 u] 76) := ⟨_, rfl⟩
  have HBW : Hid (Below w.heap.size w W) := by rw [hW]; exact (Below.refl _ w).alloc (Nat.le_refl _) _
  have a0 : W.cell? ⟨w.heap.size, 0, none⟩ = some (.int .i64 1) := by rw [hW]; go_simp
  have a1 : W.cell? ⟨w.heap.size, 1, none⟩ = some (.int .i64 o) := by rw [hW]; go_simp
  have a2 : W.cell? ⟨w.heap.size, 2, none⟩ = some (.int .i64 s) := by rw [hW]; go_simp
  have a3 : W.cell? ⟨w.heap.size, 3, none⟩ = some (.int .i64 t) := by rw [hW]; go_simp
  have a4 : W.cell? ⟨w.heap.size, 4, none⟩ = some (.int .i64 c) := by rw [hW]; go_simp
  have a5 : W.cell? ⟨w.heap.size, 5, none⟩ = some (.int .i64 h) := by rw [hW]; go_simp
  have a6 : W.cell? ⟨w.heap.size, 6, none⟩ = some (.int .i64 x) := by rw [hW]; go_simp
  have a7 : W.cell? ⟨w.heap.size, 7, none⟩ = some (.int .i64 a) := by rw [hW]; go_simp
  have a8 : W.cell? ⟨w.heap.size, 8, none⟩ = some (.int .i64 b) := by rw [hW]; go_simp
  have a9 : W.cell? ⟨w.heap.size, 9, none⟩ = some (.int .i64 d) := by rw [hW]; go_simp
  have a10 : W.cell? ⟨w.heap.size, 10, none⟩ = some (.int .i64 u) := by rw [hW]; go_simp
  have hWl : w.heap.size < W.heap.size := by rw [hW]; simp
  go_enter Try.func63, Try.ntmps63
  go_wp2_with fail
  rw [← hW]
  clear hW
  have HC0 : Hid (Below W.heap.size W W.drew) := below_drew W
  have tok1 : True := trivial
  go_region_held3 (fun w' => w'.cell? ⟨w.heap.size, 0, none⟩ = some (.int .i64 1) ∧ w'.cell? ⟨w.heap.size, 1, none⟩ = some (.int .i64 o) ∧ w'.cell? ⟨w.heap.size, 2, none⟩ = some (.int .i64 s) ∧ w'.cell? ⟨w.heap.size, 3, none⟩ = some (.int .i64 t) ∧ w'.cell? ⟨w.heap.size, 4, none⟩ = some (.int .i64 c) ∧ w'.cell? ⟨w.heap.size, 5, none⟩ = some (.int .i64 h) ∧ w'.cell? ⟨w.heap.size, 6, none⟩ = some (.int .i64 x) ∧ w'.cell? ⟨w.heap.size, 7, none⟩ = some (.int .i64 a) ∧ w'.cell? ⟨w.heap.size, 8, none⟩ = some (.int .i64 b) ∧ w'.cell? ⟨w.heap.size, 9, none⟩ = some (.int .i64 d) ∧ w'.cell? ⟨w.heap.size, 10, none⟩ = some (.int .i64 u))
    (first | exact ⟨q0, q1, q2, q3, q4, q5, q6, q7, q8, q9, q10⟩ | go_keep)
    (first
      | ((have _t := tok1; clear tok1; go_at_call 61; (with_reducible refine (HCall.out _).mono ?_); rintro e w1 ⟨rfl, hb1⟩
          have HC1 := Lib.hid (HC0.out.trans (hb1.mono HC0.out.size))
          have q0 := (HC1.out.cell (p := ⟨w.heap.size, 0, none⟩) hWl).trans a0
          have q1 := (HC1.out.cell (p := ⟨w.heap.size, 1, none⟩) hWl).trans a1
          have q2 := (HC1.out.cell (p := ⟨w.heap.size, 2, none⟩) hWl).trans a2
          have q3 := (HC1.out.cell (p := ⟨w.heap.size, 3, none⟩) hWl).trans a3
          have q4 := (HC1.out.cell (p := ⟨w.heap.size, 4, none⟩) hWl).trans a4
          have q5 := (HC1.out.cell (p := ⟨w.heap.size, 5, none⟩) hWl).trans a5
          have q6 := (HC1.out.cell (p := ⟨w.heap.size, 6, none⟩) hWl).trans a6
          have q7 := (HC1.out.cell (p := ⟨w.heap.size, 7, none⟩) hWl).trans a7
          have q8 := (HC1.out.cell (p := ⟨w.heap.size, 8, none⟩) hWl).trans a8
          have q9 := (HC1.out.cell (p := ⟨w.heap.size, 9, none⟩) hWl).trans a9
          have q10 := (HC1.out.cell (p := ⟨w.heap.size, 10, none⟩) hWl).trans a10
          clear hb1))
      | fail)
  go_wp2_with fail
  go_ret
  exact ⟨ret_int V.out, HBW.out.trans (HC1.out.mono HBW.out.size)⟩

set_option maxHeartbeats 1000000 in
theorem products_square (o s t c h x a b d u : Int) (w : World) :
    Calls Try.prog 63 #[.agg #[.int .i64 2, .int .i64 o, .int .i64 s, .int .i64 t, .int .i64 c, .int .i64 h, .int .i64 x, .int .i64 a, .int .i64 b, .int .i64 d, .int .i64 u]] w fun e w' => e = .returned (.int .i64 (sizeI c h x)) ∧ Below w.heap.size w w' := by
  go_enter Try.func63, Try.ntmps63
  go_wp2_with fail
  refine (size_any c h x _).mono ?_
  rintro e w1 ⟨rfl, hb⟩
  have HB := Lib.hid (chain ((Below.refl w.heap.size w).alloc (Nat.le_refl _) _) hb)
  clear hb
  go_wp2_with fail
  go_ret
  exact ⟨rfl, HB.out⟩
set_option maxHeartbeats 1000000 in
theorem products_dense (K : Kn) (o s t c h x a b d u : Int) (n : Int) (w : World) (hK : K = ⟨⟨4, o, s, t⟩, ⟨c, h, x⟩, ⟨a, b, d⟩, u⟩) (hn : K.w = n) (ok : KnOk K) :
    Calls Try.prog 63 #[.agg #[.int .i64 4, .int .i64 o, .int .i64 s, .int .i64 t, .int .i64 c, .int .i64 h, .int .i64 x, .int .i64 a, .int .i64 b, .int .i64 d, .int .i64 u]] w fun e w' => e = .returned (.int .i64 n) ∧ Below w.heap.size w w' := by
  have HCall : Hid (∀ w, Calls Try.prog 61 #[.agg #[.int .i64 4, .int .i64 o, .int .i64 s, .int .i64 t, .int .i64 c, .int .i64 h, .int .i64 x, .int .i64 a, .int .i64 b, .int .i64 d, .int .i64 u]] w fun e w' => e = .returned (.int .i64 n) ∧ Below w.heap.size w w') := fun w => by
    have := weights_is K n hn w ok
    rw [hK] at this
    exact this
  clear hn ok hK
  go_enter Try.func63, Try.ntmps63
  go_wp2_with fail
  refine (HCall.out _).mono ?_
  rintro e w1 ⟨rfl, hb⟩
  have HB := Lib.hid (chain ((Below.refl w.heap.size w).alloc (Nat.le_refl _) _) hb)
  clear hb
  go_wp2_with fail
  go_ret
  exact ⟨rfl, HB.out⟩
set_option maxHeartbeats 1000000 in
theorem products_none (k o s t c h x a b d u : Int) (w : World) (k1 : (k == 1) = false) (k2 : (k == 2) = false) (k4 : (k == 4) = false) :
    Calls Try.prog 63 #[.agg #[.int .i64 k, .int .i64 o, .int .i64 s, .int .i64 t, .int .i64 c, .int .i64 h, .int .i64 x, .int .i64 a, .int .i64 b, .int .i64 d, .int .i64 u]] w fun e w' => e = .returned (.int .i64 0) ∧ Below w.heap.size w w' := by
  go_enter Try.func63, Try.ntmps63
  go_wp2
  go_ret
  exact ⟨rfl, (Below.refl _ w).alloc (Nat.le_refl _) _⟩
theorem products_any (k : Kn) (w : World) (hk : KnOk k) : Calls Try.prog 63 #[kv k] w fun e w' => e = .returned (.int .i64 k.p) ∧ Below w.heap.size w w' := by
  obtain ⟨⟨k, o, s, t⟩, ⟨c, h, x⟩, ⟨a, b, d⟩, u⟩ := k
  unfold kv Kn.p
  by_cases k1 : k = 1
  · subst k1
    rw [p_conv _ _ rfl]
    exact products_conv _ o s t c h x a b d u _ w rfl rfl hk
  · by_cases k2 : k = 2
    · subst k2
      rw [p_square _ _ rfl]
      exact products_square o s t c h x a b d u w
    · by_cases k4 : k = 4
      · subst k4
        rw [p_dense _ _ rfl]
        exact products_dense _ o s t c h x a b d u _ w rfl rfl hk
      · rw [p_none (l := ⟨k, o, s, t⟩) _ _ k1 k2 k4]
        exact products_none k o s t c h x a b d u w (ne_beq k1) (ne_beq k2) (ne_beq k4)

theorem must_yes (n : Int) (w : World) : Calls Try.prog 82 #[.bool true, .int .i64 n] w fun e w' => e = .returned (.tuple #[]) ∧ w = w' := by
  go_enter Try.func82, Try.ntmps82
  go_wp2
  go_end0
  exact ⟨rfl, rfl⟩
theorem must_no (n : Int) (w : World) : Calls Try.prog 82 #[.bool false, .int .i64 n] w fun e w' => e = .panicked [{ v := .iface 30 (.int .i64 n), recovered := false }] ∧ w = w' := by
  go_enter Try.func82, Try.ntmps82
  go_wp2
  exact ⟨rfl, rfl, rfl⟩

end Go.Proofs.Ytnfmpladdfgadaa
