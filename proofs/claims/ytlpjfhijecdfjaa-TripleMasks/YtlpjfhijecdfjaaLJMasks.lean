/-
  TripleMasks: all masks are numbers of the stream, at places of their own.
-/
import Derived.Test.YtlpjfhijecdfjaaJHead
import Derived.Deep.LoopGhost
namespace Go.Proofs.Ytlpjfhijecdfjaa
open Go.RowKit

theorem five_lo (i : UInt64) (h : i.toNat < 4294967296) : (5 * i).toNat = 5 * i.toNat := by
  rw [UInt64.toNat_mul]
  show 5 * i.toNat % 2 ^ 64 = _
  omega
theorem five_at (i j : UInt64) (h : i.toNat < 4294967296) (hj : j.toNat < 5) : (5 * i + j).toNat = 5 * i.toNat + j.toNat := by
  rw [UInt64.toNat_add, five_lo i h]
  omega
theorem five_inj {i k j : UInt64} (hi : i.toNat < 4294967296) (hk : k.toNat < 4294967296) (hj : j.toNat < 5) (e : 5 * i + j = 5 * k + j) : i = k := by
  have := congrArg UInt64.toNat e
  rw [five_at i j hi hj, five_at k j hk hj] at this
  exact UInt64.toNat_inj.1 (by omega)
theorem five_apart {i k j l : UInt64} (hi : i.toNat < 4294967296) (hk : k.toNat < 4294967296) (hj : j.toNat < 5) (hl : l.toNat < 5) (h : j ≠ l) : 5 * i + j ≠ 5 * k + l := fun e => by
  have := congrArg UInt64.toNat e
  rw [five_at i j hi hj, five_at k l hk hl] at this
  have e2 : j.toNat = l.toNat := by omega
  exact h (UInt64.toNat_inj.1 e2)
/-- The five masks of a triple. -/
def fiveU (s i : UInt64) : List UInt64 := [numU s (5 * i), numU s (5 * i + 1), numU s (5 * i + 2), numU s (5 * i + 3), numU s (5 * i + 4)]
theorem five_get (s i : UInt64) {k : Nat} (h : k < 5) : ∃ x, (fiveU s i)[k]? = some x ∧ whichU s x = 5 * i + UInt64.ofNat k := by
  match k, h with
  | 0, _ => exact ⟨_, rfl, by rw [which_num]; exact (UInt64.add_zero _).symm⟩
  | 1, _ => exact ⟨_, rfl, which_num _ _⟩
  | 2, _ => exact ⟨_, rfl, which_num _ _⟩
  | 3, _ => exact ⟨_, rfl, which_num _ _⟩
  | 4, _ => exact ⟨_, rfl, which_num _ _⟩
theorem m_eq {s i k j : UInt64} (hi : i.toNat < 4294967296) (hk : k.toNat < 4294967296) (hj : j.toNat < 5) (r : Bool) (hr : (uz i == uz k) = r) : (uz (numU s (5 * i + j)) == uz (numU s (5 * k + j))) = r := by
  rw [← hr, uz_beq, uz_beq, Bool.eq_iff_iff, beq_iff_eq, beq_iff_eq]
  exact ⟨fun e => five_inj hi hk hj (num_inj e), fun e => by rw [e]⟩
theorem m_eq0 {s i k : UInt64} (hi : i.toNat < 4294967296) (hk : k.toNat < 4294967296) (r : Bool) (hr : (uz i == uz k) = r) : (uz (numU s (5 * i)) == uz (numU s (5 * k))) = r := by
  have := m_eq (s := s) (j := 0) hi hk (by decide) r hr
  rwa [UInt64.add_zero, UInt64.add_zero] at this
theorem m_ne {s i k j l : UInt64} (hi : i.toNat < 4294967296) (hk : k.toNat < 4294967296) (hj : j.toNat < 5) (hl : l.toNat < 5) (h : j ≠ l) : (uz (numU s (5 * i + j)) != uz (numU s (5 * k + l))) = true := by
  rw [bne, uz_beq, Bool.not_eq_true', beq_eq_false_iff_ne]
  exact fun e => five_apart hi hk hj hl h (num_inj e)
theorem m_ne0 {s i k l : UInt64} (hi : i.toNat < 4294967296) (hk : k.toNat < 4294967296) (hl : l.toNat < 5) (h : 0 ≠ l) : (uz (numU s (5 * i)) != uz (numU s (5 * k + l))) = true := by
  have := m_ne (s := s) (j := 0) hi hk (by decide) hl h
  rwa [UInt64.add_zero] at this
theorem u32_eq (i k : UInt64) (r : Bool) (h : (uz i == uz k) = r) (w : World) : (binOp .eql 34 (.int .u32 (uz i)) (.int .u32 (uz k))).run Try.prog w = .ok (.bool r) w := by
  subst h
  go_simp
theorem u32_of {m : Int} (h0 : 0 ≤ m) (h1 : m ≤ 4294967295) : ∃ u : UInt64, m = uz u ∧ u.toNat < 4294967296 := by
  refine ⟨UInt64.ofNat m.toNat, ?_, ?_⟩
  · unfold uz; rw [UInt64.toNat_ofNat']; omega
  · rw [UInt64.toNat_ofNat']; omega

set_option maxHeartbeats 4000000 in
set_option maxRecDepth 100000 in
theorem law_jmasks (s : UInt64) (mi mk : Int) (w : World) (bi : 0 ≤ mi ∧ mi ≤ 4294967295) (bk : 0 ≤ mk ∧ mk ≤ 4294967295) :
    Calls Try.prog 6 #[.int .u64 (uz s), .int .u32 mi, .int .u32 mk] w fun e w' => e = .returned (.bool true) ∧ Below w.heap.size w w' := by
  obtain ⟨i, rfl, hi⟩ := u32_of bi.1 bi.2
  obtain ⟨k, rfl, hk⟩ := u32_of bk.1 bk.2
  have ei : IntKind.u64.wrap (uz i) = uz i := by simpa [show uz 0 = 0 from rfl] using uz_add i 0
  have ek : IntKind.u64.wrap (uz k) = uz k := by simpa [show uz 0 = 0 from rfl] using uz_add k 0
  obtain ⟨r, hr⟩ : ∃ r, r = (uz i == uz k) := ⟨_, rfl⟩
  obtain ⟨p, hp⟩ : ∃ p, p = (halfU s 1 i).c := ⟨_, rfl⟩
  obtain ⟨q, hq⟩ : ∃ q, q = (halfU s 1 k).c := ⟨_, rfl⟩
  have c1 := m_eq0 (s := s) hi hk r hr.symm
  have c2 := m_eq (s := s) (j := 1) hi hk (by decide) r hr.symm
  have c3 := m_eq (s := s) (j := 3) hi hk (by decide) r hr.symm
  have c4 := m_ne0 (s := s) (l := 3) hi hk (by decide) (by decide)
  have c5 := m_ne (s := s) (j := 1) (l := 4) hi hk (by decide) (by decide) (by decide)
  have FG := Lib.hid (fun k h => five_get s i (k := k) h)
  have hr : (uz i == uz k) = r := hr.symm
  obtain ⟨x0, h0⟩ : ∃ x, x = numU s (5 * i) := ⟨_, rfl⟩
  obtain ⟨x1, h1⟩ : ∃ x, x = numU s (5 * i + 1) := ⟨_, rfl⟩
  obtain ⟨x2, h2⟩ : ∃ x, x = numU s (5 * i + 2) := ⟨_, rfl⟩
  obtain ⟨x3, h3⟩ : ∃ x, x = numU s (5 * i + 3) := ⟨_, rfl⟩
  obtain ⟨x4, h4⟩ : ∃ x, x = numU s (5 * i + 4) := ⟨_, rfl⟩
  obtain ⟨y0, k0⟩ : ∃ x, x = numU s (5 * k) := ⟨_, rfl⟩
  obtain ⟨y1, k1⟩ : ∃ x, x = numU s (5 * k + 1) := ⟨_, rfl⟩
  obtain ⟨y2, k2⟩ : ∃ x, x = numU s (5 * k + 2) := ⟨_, rfl⟩
  obtain ⟨y3, k3⟩ : ∃ x, x = numU s (5 * k + 3) := ⟨_, rfl⟩
  obtain ⟨y4, k4⟩ : ∃ x, x = numU s (5 * k + 4) := ⟨_, rfl⟩
  have CA : Hid (∀ w, Calls Try.prog 11 #[.int .u64 (uz s), .int .i64 0, .int .u64 (uz i)] w fun e w' => e = .returned (tpv ⟨x0, x1, x2⟩) ∧ Below w.heap.size w w') := fun w => by rw [h0, h1, h2, ← half_zero]; exact half11 s 0 i w
  have CB1 : Hid (∀ w, Calls Try.prog 11 #[.int .u64 (uz s), .int .i64 1, .int .u64 (uz i)] w fun e w' => e = .returned (tpv ⟨x3, x4, p⟩) ∧ Below w.heap.size w w') := fun w => by
    have := half11 s 1 i w
    rw [show halfU s 1 i = ⟨x3, x4, p⟩ by rw [hp, h3, h4, half_one (by decide)]] at this
    exact this
  have CC : Hid (∀ w, Calls Try.prog 11 #[.int .u64 (uz s), .int .i64 0, .int .u64 (uz k)] w fun e w' => e = .returned (tpv ⟨y0, y1, y2⟩) ∧ Below w.heap.size w w') := fun w => by rw [k0, k1, k2, ← half_zero]; exact half11 s 0 k w
  have CD : Hid (∀ w, Calls Try.prog 11 #[.int .u64 (uz s), .int .i64 1, .int .u64 (uz k)] w fun e w' => e = .returned (tpv ⟨y3, y4, q⟩) ∧ Below w.heap.size w w') := fun w => by
    have := half11 s 1 k w
    rw [show halfU s 1 k = ⟨y3, y4, q⟩ by rw [hq, k3, k4, half_one (by decide)]] at this
    exact this
  have FI : Hid (fiveU s i = [x0, x1, x2, x3, x4]) := by show _ = _; rw [h0, h1, h2, h3, h4]; rfl
  rw [FI.out] at FG
  have m1 : IntKind.u64.wrap (5 * uz i) = uz (5 * i) := uz_mul 5 i
  have MM := Lib.hid m1
  rw [← h0, ← k0] at c1
  rw [← h1, ← k1] at c2
  rw [← h3, ← k3] at c3
  rw [← h0, ← k3] at c4
  rw [← h1, ← k4] at c5
  have D1 := Lib.hid c1; have D2 := Lib.hid c2; have D3 := Lib.hid c3; have D4 := Lib.hid c4; have D5 := Lib.hid c5; have DR := Lib.hid hr
  clear hp hq h0 h1 h2 h3 h4 k0 k1 k2 k3 k4 FI hi hk bi bk c1 c2 c3 c4 c5 m1 hr
  go_enter Try.func6, Try.ntmps6
  go_wp2_with fail
  refine (head11_any _).mono ?_
  rintro e w1 ⟨rfl, hb⟩
  have B1 := Lib.hid hb
  clear hb
  go_wp2_with fail
  refine (CA.out _).mono ?_
  rintro e w2 ⟨rfl, hb⟩
  have B2 := Lib.hid (chain B1.out hb)
  clear hb B1
  unfold tpv
  go_wp2_with fail
  obtain ⟨w3, hV⟩ : ∃ V, V = w2.alloc (.cells #[.int .u64 (uz (⟨x0, x1, x2⟩ : Tp).a), .int .u64 (uz (⟨x0, x1, x2⟩ : Tp).b), .int .u64 (uz (⟨x0, x1, x2⟩ : Tp).c)] 25) := ⟨_, rfl⟩
  have hb : Below w2.heap.size w2 w3 := by rw [hV]; exact (Below.refl _ w2).alloc (Nat.le_refl _) _
  obtain ⟨bku, hB⟩ : ∃ b, b = w2.heap.size := ⟨_, rfl⟩
  have Ru : Hid (TC w3 bku (⟨x0, x1, x2⟩ : Tp)) := by rw [hV, hB]; exact TC.new w2 (⟨x0, x1, x2⟩ : Tp)
  rw [← hV, ← hB]
  clear hV hB
  have B3 := Lib.hid (chain B2.out hb)
  clear hb B2
  obtain ⟨u0, u1, u2⟩ := Ru.out.cells
  have ul := Ru.out.lt
  refine (CB1.out _).mono ?_
  rintro e w4 ⟨rfl, hb⟩
  have B4 := Lib.hid (chain B3.out hb)
  replace Ru := Lib.hid (Ru.out.below hb)
  clear hb B3
  clear u0 u1 u2 ul
  obtain ⟨u0, u1, u2⟩ := Ru.out.cells
  have ul := Ru.out.lt
  unfold tpv
  go_wp2_with fail
  obtain ⟨V1, hV1⟩ : ∃ V, V = w4.alloc (.cells #[.int .u64 (uz (⟨x3, x4, p⟩ : Tp).a), .int .u64 (uz (⟨x3, x4, p⟩ : Tp).b), .int .u64 (uz (⟨x3, x4, p⟩ : Tp).c)] 25) := ⟨_, rfl⟩
  obtain ⟨w5, hV2⟩ : ∃ V, V = V1.alloc (.cells #[.int .u64 (uz x0), .int .u64 (uz x1), .int .u64 (uz x2), .int .u64 (uz x3), .int .u64 (uz x4)] 22) := ⟨_, rfl⟩
  have hs : V1.heap.size = w4.heap.size + 1 := by rw [hV1]; simp
  have hb : Below w4.heap.size w4 w5 := by rw [hV2, hV1]; exact chain_alloc (chain_alloc (Below.refl _ w4) _) _
  have Rv : Hid (TC w5 w4.heap.size (⟨x3, x4, p⟩ : Tp)) := by rw [hV2, hV1]; exact (TC.new w4 (⟨x3, x4, p⟩ : Tp)).below (chain_alloc (Below.refl _ _) _)
  have RL : Hid (Rg ucells w5 (some ⟨w4.heap.size + 1, 0, none⟩) [x0, x1, x2, x3, x4]) := by
    have := rg_block (f := ucells) (xs := [x0, x1, x2, x3, x4]) (heap_alloc_new V1 (.cells #[.int .u64 (uz x0), .int .u64 (uz x1), .int .u64 (uz x2), .int .u64 (uz x3), .int .u64 (uz x4)] 22)) rfl
    rw [hs] at this
    rw [hV2]; exact this
  rw [← hV1, ← hV2]
  clear hV1 hV2 hs
  obtain ⟨bl, hB1⟩ : ∃ b, b = w4.heap.size + 1 := ⟨_, rfl⟩
  rw [← hB1] at RL ⊢
  obtain ⟨bkv, hB2⟩ : ∃ b, b = w4.heap.size := ⟨_, rfl⟩
  rw [← hB2] at Rv ⊢
  clear hB1 hB2
  have B5 := Lib.hid (chain B4.out hb)
  replace Ru := Lib.hid (Ru.out.below hb)
  clear hb B4
  clear u0 u1 u2 ul
  obtain ⟨u0, u1, u2⟩ := Ru.out.cells
  have ul := Ru.out.lt
  obtain ⟨v0, v1, v2⟩ := Rv.out.cells
  have vl := Rv.out.lt
  go_loopg [11] 5 (fun gh s11 wx => ∃ j : Nat, j ≤ 5 ∧ Hid (gh = 5 - j) ∧ s11 = .int .i64 (j : Int) ∧ Hid (Below w5.heap.size w5 wx))
  case atStart => exact ⟨0, by omega, by show _ = _; omega, rfl, Below.refl _ _⟩
  case round =>
    obtain ⟨j, hj, HG, rfl, BK⟩ := hrel
    by_cases jn : j < 5
    · have ji : (j : Int) < 5 := by omega
      have ja : (0 : Int) ≤ (j : Int) := by omega
      obtain ⟨x, hx, hw⟩ := FG.out j jn
      obtain ⟨b1, o1, e1, l1, q1⟩ := RL.out (by simp)
      injection e1 with e1
      injection e1 with e2 e3 e4
      subst e2 e3
      have d1 := (BK.out.cell (p := ⟨bl, 0 + j, none⟩) l1).trans (su_cell q1 hx)
      rw [Nat.zero_add] at d1
      obtain ⟨z, hz⟩ : ∃ z, z = 5 * i + UInt64.ofNat j := ⟨_, rfl⟩
      have c1 := uz_conv j
      have c2 : IntKind.u64.wrap (uz (5 * i) + uz (UInt64.ofNat j)) = uz z := by rw [hz]; exact uz_add _ _
      have c3 := MM.out
      have hne : (uz z != uz z) = false := by simp
      have CW : Hid (∀ w, Calls Try.prog 16 #[.int .u64 (uz s), .int .u64 (uz x)] w fun e w' => e = .returned (.int .u64 (uz z)) ∧ Below w.heap.size w w') := fun w => by rw [hz, ← hw]; exact rwhich9 s x w
      clear q1 hx hw hz e4
      go_wp2_with fail
      refine (CW.out _).mono ?_
      rintro e w2 ⟨rfl, hb⟩
      have B2 := Lib.hid (chain BK.out hb)
      clear hb
      go_wp2_with fail
      go_roundg (5 - (j + 1))
      case measure => have := HG.out; omega
      case rel => exact ⟨j + 1, by omega, rfl, by go_num, B2⟩
    · obtain rfl : j = 5 := by omega
      have hb := BK.out
      clear BK HG FG MM RL
      have B6 := Lib.hid (chain B5.out hb)
      replace Ru := Lib.hid (Ru.out.below hb)
      replace Rv := Lib.hid (Rv.out.below hb)
      clear hb B5
      clear u0 u1 u2 ul
      obtain ⟨u0, u1, u2⟩ := Ru.out.cells
      have ul := Ru.out.lt
      clear v0 v1 v2 vl
      obtain ⟨v0, v1, v2⟩ := Rv.out.cells
      have vl := Rv.out.lt
      go_wp2_with fail
      refine (CC.out _).mono ?_
      rintro e w7 ⟨rfl, hb⟩
      have B7 := Lib.hid (chain B6.out hb)
      replace Ru := Lib.hid (Ru.out.below hb)
      replace Rv := Lib.hid (Rv.out.below hb)
      clear hb B6
      clear u0 u1 u2 ul
      obtain ⟨u0, u1, u2⟩ := Ru.out.cells
      have ul := Ru.out.lt
      clear v0 v1 v2 vl
      obtain ⟨v0, v1, v2⟩ := Rv.out.cells
      have vl := Rv.out.lt
      unfold tpv
      go_wp2_with fail
      obtain ⟨w8, hV⟩ : ∃ V, V = w7.alloc (.cells #[.int .u64 (uz (⟨y0, y1, y2⟩ : Tp).a), .int .u64 (uz (⟨y0, y1, y2⟩ : Tp).b), .int .u64 (uz (⟨y0, y1, y2⟩ : Tp).c)] 25) := ⟨_, rfl⟩
      have hb : Below w7.heap.size w7 w8 := by rw [hV]; exact (Below.refl _ w7).alloc (Nat.le_refl _) _
      obtain ⟨bkc, hB⟩ : ∃ b, b = w7.heap.size := ⟨_, rfl⟩
      have Rc : Hid (TC w8 bkc (⟨y0, y1, y2⟩ : Tp)) := by rw [hV, hB]; exact TC.new w7 (⟨y0, y1, y2⟩ : Tp)
      rw [← hV, ← hB]
      clear hV hB
      have B8 := Lib.hid (chain B7.out hb)
      replace Ru := Lib.hid (Ru.out.below hb)
      replace Rv := Lib.hid (Rv.out.below hb)
      clear hb B7
      clear u0 u1 u2 ul
      obtain ⟨u0, u1, u2⟩ := Ru.out.cells
      have ul := Ru.out.lt
      clear v0 v1 v2 vl
      obtain ⟨v0, v1, v2⟩ := Rv.out.cells
      have vl := Rv.out.lt
      obtain ⟨c0, c1, c2⟩ := Rc.out.cells
      have cl := Rc.out.lt
      refine (CD.out _).mono ?_
      rintro e w9 ⟨rfl, hb⟩
      have B9 := Lib.hid (chain B8.out hb)
      replace Ru := Lib.hid (Ru.out.below hb)
      replace Rv := Lib.hid (Rv.out.below hb)
      replace Rc := Lib.hid (Rc.out.below hb)
      clear hb B8
      clear u0 u1 u2 ul
      obtain ⟨u0, u1, u2⟩ := Ru.out.cells
      have ul := Ru.out.lt
      clear v0 v1 v2 vl
      obtain ⟨v0, v1, v2⟩ := Rv.out.cells
      have vl := Rv.out.lt
      clear c0 c1 c2 cl
      obtain ⟨c0, c1, c2⟩ := Rc.out.cells
      have cl := Rc.out.lt
      unfold tpv
      have e1 := D1.out; have e2 := D2.out; have e3 := D3.out; have e4 := D4.out; have e5 := D5.out; have e6 := u32_eq i k r DR.out
      clear D1 D2 D3 D4 D5 DR CA CB1 CC CD
      go_wp2_with fail
      go_ret
      exact ⟨by first | rfl | simp, chain_alloc B9.out _⟩

end Go.Proofs.Ytlpjfhijecdfjaa
