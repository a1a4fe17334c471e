/-
  BeaverRows: rows are opened, and closed, place by place, as many as the shortest has; both parties' rows sum up to the products.
-/
import Derived.Test.YtggbhoanffdjbaaKHead
import Derived.Test.YtggbhoanffdjbaaNMul
import Derived.Deep.RegionHeld3
namespace Go.Proofs.Ytggbhoanffdjbaa
open Go.RowKit Go

theorem opens_get {xs ys : List UInt64} {ts : List Tp} {i : Nat} {x y : UInt64} {t : Tp} (hx : xs[i]? = some x) (hy : ys[i]? = some y) (ht : ts[i]? = some t) : (opensU xs ys ts)[i]? = some (openU x y t) := by
  simp [opensU, List.getElem?_zipWith, List.zip, hx, hy, ht]
theorem opens_len (xs ys : List UInt64) (ts : List Tp) : (opensU xs ys ts).length = min (min xs.length ys.length) ts.length := by simp [opensU]
theorem closes_len (a : Int) (os : List On) (ts : List Tp) : (closesU a os ts).length = min os.length ts.length := by simp [closesU]
theorem krows_sum (z : UInt64) (n : Nat) (xs us ys vs : List UInt64) (hx : n ≤ xs.length) (hu : n ≤ us.length) (hy : n ≤ ys.length) (hv : n ≤ vs.length) :
    addR (closesU 0 (List.zipWith sumO (opensU xs ys (rowT z 0 0 n)) (opensU us vs (rowT z 1 0 n))) (rowT z 0 0 n)) (closesU 1 (List.zipWith sumO (opensU xs ys (rowT z 0 0 n)) (opensU us vs (rowT z 1 0 n))) (rowT z 1 0 n)) = mulR (addR (xs.take n) (us.take n)) (addR (ys.take n) (vs.take n)) := by
  apply List.ext_getElem
  · simp [addR, mulR, closes_len, opens_len, trow_len]; omega
  · intro i h1 h2
    have hn : i < n := by simp [mulR, addR] at h2; omega
    simp [addR, mulR, closesU, opensU, rowT]
    exact close_exact _ _ _ _ _ _
theorem k_to (A : Option Addr) (n cap k : Nat) (h1 : k ≤ n) (h2 : n ≤ cap) (w : World) : (Instr.slice 22 (.slice A n cap) none (some (.int .i64 (k : Int))) none).run Try.prog w = .ok (.slice A k cap) w := by
  have : k ≤ cap := by omega
  first | (go_simp; done) | (go_simp; intro hh; omega) | (rcases A with _ | A <;> go_simp <;> (try intro hh) <;> omega)
theorem k_ne (o : On) (w : World) : (binOp .neq 44 (.agg #[.int .u64 (uz o.d), .int .u64 (uz o.e)]) (.agg #[.int .u64 (uz o.d), .int .u64 (uz o.e)])).run Try.prog w = .ok (.bool false) w := on_ne o w
/-- A row of openings that grows, and the rest of the memory. -/
def KG (B : Nat) (w0 w : World) (v : Value) (k : Nat) (os : List On) : Prop :=
  w.ownsRow B 44 2 v k ((os.take k).flatMap oncells) ∧ Below B w0 w

set_option maxHeartbeats 8000000 in
set_option maxRecDepth 100000 in
theorem law_krows (z : UInt64) (X U Y V : Option Addr) (cX nx cU nu cY ny cV nv : Nat) (xs us ys vs : List UInt64) (w : World) (hX : Rg ucells w X xs) (lX : nx = xs.length) (capX : nx ≤ cX) (hU : Rg ucells w U us) (lU : nu = us.length) (capU : nu ≤ cU) (hY : Rg ucells w Y ys) (lY : ny = ys.length) (capY : ny ≤ cY) (hV : Rg ucells w V vs) (lV : nv = vs.length) (capV : nv ≤ cV) :
    Calls Try.prog 10 #[.slice X nx cX, .slice U nu cU, .slice Y ny cY, .slice V nv cV, .int .u64 (uz z)] w fun e w' => e = .returned (.bool true) ∧ Below w.heap.size w w' := by
  have RX := Lib.hid hX; have LX := Lib.hid lX; have RU := Lib.hid hU; have LU := Lib.hid lU; have RY := Lib.hid hY; have LY := Lib.hid lY; have RV := Lib.hid hV; have LV := Lib.hid lV
  clear hX lX hU lU hY lY hV lV
  obtain ⟨i0, hi, hz0, hz1, hz2⟩ := info_parts Try.info44
  obtain ⟨n, hn⟩ : ∃ n, n = min (min (min nx nu) ny) nv := ⟨_, rfl⟩
  have hmin : ∀ (ts : Array TypeId) (t : TypeId) (w : World), (Builtin.min_ ts t #[.int .i64 (nx : Int), .int .i64 (nu : Int), .int .i64 (ny : Int), .int .i64 (nv : Int)]).run Try.prog w = .ok (.int .i64 (n : Int)) w := by
    intro ts t w
    simp [Builtin.min_, Builtin.min2]
    repeat' split
    all_goals omega
  by_cases g0 : 900 < nx
  · have d0 : decide (900 < (nx : Int)) = true := decide_eq_true (by omega)
    clear g0 hn
    go_enter Try.func10, Try.ntmps10
    go_wp2_with fail
    refine (head12_any _).mono ?_
    rintro e w1 ⟨rfl, hb⟩
    have B1 := Lib.hid hb
    replace RX := Lib.hid (RX.out.below hb)
    replace RU := Lib.hid (RU.out.below hb)
    replace RY := Lib.hid (RY.out.below hb)
    replace RV := Lib.hid (RV.out.below hb)
    clear hb
    go_wp2_with fail
    go_ret
    exact ⟨rfl, B1.out⟩
  have d0 : decide (900 < (nx : Int)) = false := decide_eq_false (by omega)
  by_cases g1 : 900 < nu
  · have d1 : decide (900 < (nu : Int)) = true := decide_eq_true (by omega)
    clear g1 hn
    go_enter Try.func10, Try.ntmps10
    go_wp2_with fail
    refine (head12_any _).mono ?_
    rintro e w1 ⟨rfl, hb⟩
    have B1 := Lib.hid hb
    replace RX := Lib.hid (RX.out.below hb)
    replace RU := Lib.hid (RU.out.below hb)
    replace RY := Lib.hid (RY.out.below hb)
    replace RV := Lib.hid (RV.out.below hb)
    clear hb
    go_wp2_with fail
    go_ret
    exact ⟨rfl, B1.out⟩
  have d1 : decide (900 < (nu : Int)) = false := decide_eq_false (by omega)
  by_cases g2 : 900 < ny
  · have d2 : decide (900 < (ny : Int)) = true := decide_eq_true (by omega)
    clear g2 hn
    go_enter Try.func10, Try.ntmps10
    go_wp2_with fail
    refine (head12_any _).mono ?_
    rintro e w1 ⟨rfl, hb⟩
    have B1 := Lib.hid hb
    replace RX := Lib.hid (RX.out.below hb)
    replace RU := Lib.hid (RU.out.below hb)
    replace RY := Lib.hid (RY.out.below hb)
    replace RV := Lib.hid (RV.out.below hb)
    clear hb
    go_wp2_with fail
    go_ret
    exact ⟨rfl, B1.out⟩
  have d2 : decide (900 < (ny : Int)) = false := decide_eq_false (by omega)
  by_cases g3 : 900 < nv
  · have d3 : decide (900 < (nv : Int)) = true := decide_eq_true (by omega)
    clear g3 hn
    go_enter Try.func10, Try.ntmps10
    go_wp2_with fail
    refine (head12_any _).mono ?_
    rintro e w1 ⟨rfl, hb⟩
    have B1 := Lib.hid hb
    replace RX := Lib.hid (RX.out.below hb)
    replace RU := Lib.hid (RU.out.below hb)
    replace RY := Lib.hid (RY.out.below hb)
    replace RV := Lib.hid (RV.out.below hb)
    clear hb
    go_wp2_with fail
    go_ret
    exact ⟨rfl, B1.out⟩
  have d3 : decide (900 < (nv : Int)) = false := decide_eq_false (by omega)
  have nX : n ≤ nx := by omega
  have nU : n ≤ nu := by omega
  have nY : n ≤ ny := by omega
  have nV : n ≤ nv := by omega
  have n9 : n ≤ 900 := by omega
  have GX : nx ≤ 900 := by omega
  have GU : nu ≤ 900 := by omega
  have GY : ny ≤ 900 := by omega
  have GV : nv ≤ 900 := by omega
  clear hn g0 g1 g2 g3
  have C1 : Hid (∀ (a : Int) w, Calls Try.prog 41 #[.int .u64 (uz z), .int .i64 a, .int .u64 0, .int .i64 (n : Int)] w (RowTo tpcells (rowT z a 0 n) w)) := fun a w => by
    have := rrow11 z a 0 (n : Int) w
    rw [show rowTN z a 0 (n : Int) = rowT z a 0 n by unfold rowTN; rw [if_pos (by omega)]; rfl] at this
    exact this
  have NX := Lib.hid nX; have NU := Lib.hid nU; have NY := Lib.hid nY; have NV := Lib.hid nV
  obtain ⟨ss, hss⟩ : ∃ ss, ss = rowT z 0 0 n := ⟨_, rfl⟩
  obtain ⟨tt, htt⟩ : ∃ tt, tt = rowT z 1 0 n := ⟨_, rfl⟩
  obtain ⟨al, hal⟩ : ∃ al, al = opensU xs ys ss := ⟨_, rfl⟩
  obtain ⟨bl, hbl⟩ : ∃ bl, bl = opensU us vs tt := ⟨_, rfl⟩
  obtain ⟨ol, hol⟩ : ∃ ol, ol = List.zipWith sumO al bl := ⟨_, rfl⟩
  have LS : Hid (ss.length = n) := by show _ = _; rw [hss, trow_len]
  have LT : Hid (tt.length = n) := by show _ = _; rw [htt, trow_len]
  have LA : Hid (al.length = n) := by show _ = _; rw [hal, opens_len, LS.out, ← LX.out, ← LY.out]; omega
  have LB : Hid (bl.length = n) := by show _ = _; rw [hbl, opens_len, LT.out, ← LU.out, ← LV.out]; omega
  have LO : Hid (ol.length = n) := by show _ = _; rw [hol, List.length_zipWith, LA.out, LB.out]; omega
  have SUM : Hid (addR (closesU 0 ol ss) (closesU 1 ol tt) = mulR (addR (xs.take n) (us.take n)) (addR (ys.take n) (vs.take n))) := by
    show _ = _
    rw [hol, hal, hbl, hss, htt]
    exact krows_sum z n xs us ys vs (by rw [← LX.out]; exact nX) (by rw [← LU.out]; exact nU) (by rw [← LY.out]; exact nY) (by rw [← LV.out]; exact nV)
  have HS := Lib.hid hss; have HT := Lib.hid htt; have HA := Lib.hid hal; have HB := Lib.hid hbl; have HO := Lib.hid hol
  clear hss htt hal hbl hol nX nU nY nV
  go_enter Try.func10, Try.ntmps10
  go_wp2_with fail
  refine (head12_any _).mono ?_
  rintro e w1 ⟨rfl, hb⟩
  have B1 := Lib.hid hb
  replace RX := Lib.hid (RX.out.below hb)
  replace RU := Lib.hid (RU.out.below hb)
  replace RY := Lib.hid (RY.out.below hb)
  replace RV := Lib.hid (RV.out.below hb)
  clear hb
  go_wp2_with fail
  refine (C1.out 0 _).mono ?_
  rintro e w2 ⟨As, ks, ns, rfl, h1, h2, hb, h4, h5⟩
  have Ms := Lib.hid h1; have Rs := Lib.hid h2
  clear h1 h2 h4 h5
  have B2 := Lib.hid (chain B1.out hb)
  replace RX := Lib.hid (RX.out.below hb)
  replace RU := Lib.hid (RU.out.below hb)
  replace RY := Lib.hid (RY.out.below hb)
  replace RV := Lib.hid (RV.out.below hb)
  clear hb B1
  rw [← HS.out] at Ms Rs
  obtain rfl : ns = n := Ms.out.trans LS.out
  go_wp2_with fail
  refine (C1.out 1 _).mono ?_
  rintro e w3 ⟨At, kt, nt, rfl, h1, h2, hb, h4, h5⟩
  have Mt := Lib.hid h1; have Rt := Lib.hid h2
  clear h1 h2 h4 h5
  have B3 := Lib.hid (chain B2.out hb)
  replace RX := Lib.hid (RX.out.below hb)
  replace RU := Lib.hid (RU.out.below hb)
  replace RY := Lib.hid (RY.out.below hb)
  replace RV := Lib.hid (RV.out.below hb)
  replace Rs := Lib.hid (Rs.out.below hb)
  clear hb B2
  rw [← HT.out] at Mt Rt
  obtain rfl : nt = ns := Mt.out.trans LT.out
  go_wp2_with fail
  refine (opens12 X Y As cX cY ks nx ny nt xs ys ss _ RX.out RY.out Rs.out LX.out LY.out LS.out.symm (by omega)).mono ?_
  rintro e w4 ⟨Aa, ka, na, rfl, h1, h2, hb, h4, h5⟩
  have Ma := Lib.hid h1; have Ra := Lib.hid h2
  clear h1 h2 h4 h5
  have B4 := Lib.hid (chain B3.out hb)
  replace RX := Lib.hid (RX.out.below hb)
  replace RU := Lib.hid (RU.out.below hb)
  replace RY := Lib.hid (RY.out.below hb)
  replace RV := Lib.hid (RV.out.below hb)
  replace Rs := Lib.hid (Rs.out.below hb)
  replace Rt := Lib.hid (Rt.out.below hb)
  clear hb B3
  rw [← HA.out] at Ma Ra
  obtain rfl : na = nt := Ma.out.trans LA.out
  go_wp2_with fail
  refine (opens12 U V At cU cV kt nu nv na us vs tt _ RU.out RV.out Rt.out LU.out LV.out LT.out.symm (by omega)).mono ?_
  rintro e w5 ⟨Ab, kb, nb, rfl, h1, h2, hb, h4, h5⟩
  have Mb := Lib.hid h1; have Rb := Lib.hid h2
  clear h1 h2 h4 h5
  have B5 := Lib.hid (chain B4.out hb)
  replace RX := Lib.hid (RX.out.below hb)
  replace RU := Lib.hid (RU.out.below hb)
  replace RY := Lib.hid (RY.out.below hb)
  replace RV := Lib.hid (RV.out.below hb)
  replace Rs := Lib.hid (Rs.out.below hb)
  replace Rt := Lib.hid (Rt.out.below hb)
  replace Ra := Lib.hid (Ra.out.below hb)
  clear hb B4
  rw [← HB.out] at Mb Rb
  obtain rfl : nb = na := Mb.out.trans LB.out
  have nn : ((nb : Int) != (nb : Int)) = false := by simp
  go_wp2_with fail
  obtain ⟨W5, hW5⟩ : ∃ W, W = w5 := ⟨_, rfl⟩
  rw [← hW5] at B5 RX RU RY RV Rs Rt Ra Rb ⊢
  clear hW5
  go_loopw [17, 18] (fun v i wr => ∃ k : Nat, k ≤ nb ∧ i = .int .i64 (k : Int) ∧ Hid (KG W5.heap.size W5 wr v k ol)) (fun _ i _ => nb - (intOf i).toNat)
  case atStart => exact ⟨0, Nat.zero_le _, rfl, World.ownsRow_nil _ _ _ _, Below.refl _ _⟩
  case round =>
    obtain ⟨k, hk, rfl, HK⟩ := hrel
    by_cases hlt : k < nb
    · obtain ⟨bX, oX, rfl, lX, qX⟩ := RX.out (by rw [← LX.out]; have := NX.out; omega)
      obtain ⟨bY, oY, rfl, lY, qY⟩ := RY.out (by rw [← LY.out]; have := NY.out; omega)
      obtain ⟨bS, oS, rfl, lS, qS⟩ := Rs.out (by rw [LS.out]; omega)
      obtain ⟨bA, oA, rfl, lA, qA⟩ := Ra.out (by rw [LA.out]; omega)
      obtain ⟨bB, oB, rfl, lB, qB⟩ := Rb.out (by rw [LB.out]; omega)
      obtain ⟨x, gx⟩ : ∃ x, xs[k]? = some x := ⟨_, List.getElem?_eq_getElem (by rw [← LX.out]; have := NX.out; omega)⟩
      obtain ⟨y, gy⟩ : ∃ y, ys[k]? = some y := ⟨_, List.getElem?_eq_getElem (by rw [← LY.out]; have := NY.out; omega)⟩
      obtain ⟨t, gt⟩ := get_some hlt LS.out
      obtain ⟨q, gq⟩ := get_some hlt LB.out
      obtain ⟨p, hp⟩ : ∃ p, p = openU x y t := ⟨_, rfl⟩
      have ga : al[k]? = some p := by rw [HA.out, hp]; exact opens_get gx gy gt
      obtain ⟨r, hr⟩ : ∃ r, r = sumO p q := ⟨_, rfl⟩
      have GO : Hid (ol[k]? = some r) := by show _ = _; rw [HO.out, List.getElem?_zipWith, ga, gq, hr]
      have CO : Hid (∀ w, Calls Try.prog 43 #[.int .u64 (uz x), .int .u64 (uz y), .agg #[.int .u64 (uz t.a), .int .u64 (uz t.b), .int .u64 (uz t.c)]] w fun e w' => e = .returned (.agg #[.int .u64 (uz p.d), .int .u64 (uz p.e)]) ∧ Below w.heap.size w w') := fun w => by rw [hp]; exact open12 x y t w
      have CS : Hid (∀ w, Calls Try.prog 45 #[.agg #[.int .u64 (uz p.d), .int .u64 (uz p.e)], .agg #[.int .u64 (uz q.d), .int .u64 (uz q.e)]] w fun e w' => e = .returned (.agg #[.int .u64 (uz r.d), .int .u64 (uz r.e)]) ∧ Below w.heap.size w w') := fun w => by rw [hr]; exact sum12 p q w
      have hne := k_ne p
      clear hp hr
      have BK := Lib.hid HK.out.2
      have OK := Lib.hid HK.out.1
      clear HK
      have c0 := (BK.out.cell (p := ⟨bX, oX + k, none⟩) lX).trans (su_cell qX gx)
      have c1 := (BK.out.cell (p := ⟨bY, oY + k, none⟩) lY).trans (su_cell qY gy)
      obtain ⟨e2, e3, e4⟩ := tp_cells qS gt
      have c2 := (BK.out.cell (p := ⟨bS, oS + k * 3, none⟩) lS).trans e2
      have c3 := (BK.out.cell (p := ⟨bS, oS + k * 3 + 1, none⟩) lS).trans e3
      have c4 := (BK.out.cell (p := ⟨bS, oS + k * 3 + 2, none⟩) lS).trans e4
      obtain ⟨e5, e6⟩ := on_cells qA ga
      have c5 := (BK.out.cell (p := ⟨bA, oA + k * 2, none⟩) lA).trans e5
      have c6 := (BK.out.cell (p := ⟨bA, oA + k * 2 + 1, none⟩) lA).trans e6
      obtain ⟨e7, e8⟩ := on_cells qB gq
      have D7 := Lib.hid e7
      have D8 := Lib.hid e8
      have k0 : (0 : Int) ≤ (k : Int) := Int.natCast_nonneg _
      have k1 : (k : Int) < (nb : Int) := by omega
      have k2 : (k : Int) < (nx : Int) := by have := NX.out; omega
      have k3 : (k : Int) < (ny : Int) := by have := NY.out; omega
      have HL := Lib.hid hlt
      have sz := BK.out.size
      have SZ := Lib.hid sz
      have lX2 : bX < wr.heap.size := by omega
      have lY2 : bY < wr.heap.size := by omega
      have lS2 : bS < wr.heap.size := by omega
      have lA2 : bA < wr.heap.size := by omega
      have lB2 : bB < wr.heap.size := by omega
      clear qX qY qS qA qB gx gy gt gq ga e2 e3 e4 e5 e6 e7 e8 sz hlt
      go_wp2_with fail
      have HC0 : Hid (Below wr.heap.size wr wr.drew) := below_drew wr
      go_region_held3 (fun w' => w'.cell? ⟨bX, oX + k, none⟩ = some (.int .u64 (uz x)) ∧ w'.cell? ⟨bY, oY + k, none⟩ = some (.int .u64 (uz y)) ∧ w'.cell? ⟨bS, oS + k * 3, none⟩ = some (.int .u64 (uz t.a)) ∧ w'.cell? ⟨bS, oS + k * 3 + 1, none⟩ = some (.int .u64 (uz t.b)) ∧ w'.cell? ⟨bS, oS + k * 3 + 2, none⟩ = some (.int .u64 (uz t.c)) ∧ w'.cell? ⟨bA, oA + k * 2, none⟩ = some (.int .u64 (uz p.d)) ∧ w'.cell? ⟨bA, oA + k * 2 + 1, none⟩ = some (.int .u64 (uz p.e)))
        (first | exact ⟨z0, z1, z2, z3, z4, z5, z6⟩ | go_keep)
        ((go_at_call 43; (with_reducible refine (CO.out _).mono ?_); rintro e w2 ⟨rfl, hb2⟩
          have HC1 := Lib.hid (HC0.out.trans (hb2.mono HC0.out.size))
          have z0 := (HC1.out.cell (p := ⟨bX, oX + k, none⟩) lX2).trans c0
          have z1 := (HC1.out.cell (p := ⟨bY, oY + k, none⟩) lY2).trans c1
          have z2 := (HC1.out.cell (p := ⟨bS, oS + k * 3, none⟩) lS2).trans c2
          have z3 := (HC1.out.cell (p := ⟨bS, oS + k * 3 + 1, none⟩) lS2).trans c3
          have z4 := (HC1.out.cell (p := ⟨bS, oS + k * 3 + 2, none⟩) lS2).trans c4
          have z5 := (HC1.out.cell (p := ⟨bA, oA + k * 2, none⟩) lA2).trans c5
          have z6 := (HC1.out.cell (p := ⟨bA, oA + k * 2 + 1, none⟩) lA2).trans c6
          clear hb2))
      have BK2 := Lib.hid (chain BK.out HC1.out)
      have OK2 := Lib.hid (own_belowE OK.out HC1.out)
      clear HC0 HC1 BK OK c0 c1 c2 c3 c4 c5 c6 z0 z1 z2 z3 z4 lX2 lY2 lS2 lA2 lB2 CO hne
      have sz := BK2.out.size
      have SZ2 := Lib.hid sz
      have lA2 : bA < w2.heap.size := by omega
      have lB2 : bB < w2.heap.size := by omega
      have z7 := (BK2.out.cell (p := ⟨bB, oB + k * 2, none⟩) lB).trans D7.out
      have z8 := (BK2.out.cell (p := ⟨bB, oB + k * 2 + 1, none⟩) lB).trans D8.out
      have A1 : Hid (u17.ownBlock ≠ some bA) := fun h => absurd (OK2.out.lt _ h).1 (by omega)
      have A2 : Hid (u17.ownBlock ≠ some bB) := fun h => absurd (OK2.out.lt _ h).1 (by omega)
      clear sz
      go_wp2_with fail
      have HC0 : Hid (Below w2.heap.size w2 w2.drew) := below_drew w2
      have tok1 : True := trivial
      go_region_held3 (fun w' => w'.cell? ⟨bA, oA + k * 2, none⟩ = some (.int .u64 (uz p.d)) ∧ w'.cell? ⟨bA, oA + k * 2 + 1, none⟩ = some (.int .u64 (uz p.e)) ∧ w'.cell? ⟨bB, oB + k * 2, none⟩ = some (.int .u64 (uz q.d)) ∧ w'.cell? ⟨bB, oB + k * 2 + 1, none⟩ = some (.int .u64 (uz q.e)))
        (first
          | exact ⟨y5, y6, y7, y8⟩
          | go_keep
          | (go_split_ands
             refine ⟨?_, ?_, ?_, ?_⟩
             · (rw [hgrow.cell_far _ (by simp; omega) (Ne.symm A1.out)]; first | assumption | go_keep)
             · (rw [hgrow.cell_far _ (by simp; omega) (Ne.symm A1.out)]; first | assumption | go_keep)
             · (rw [hgrow.cell_far _ (by simp; omega) (Ne.symm A2.out)]; first | assumption | go_keep)
             · (rw [hgrow.cell_far _ (by simp; omega) (Ne.symm A2.out)]; first | assumption | go_keep)))
        (first
          | ((have _t := tok1; clear tok1; go_at_call 45; (with_reducible refine (CS.out _).mono ?_); rintro e w3 ⟨rfl, hb2⟩
              have HC1 := Lib.hid (HC0.out.trans (hb2.mono HC0.out.size))
              have y5 := (HC1.out.cell (p := ⟨bA, oA + k * 2, none⟩) lA2).trans z5
              have y6 := (HC1.out.cell (p := ⟨bA, oA + k * 2 + 1, none⟩) lA2).trans z6
              have y7 := (HC1.out.cell (p := ⟨bB, oB + k * 2, none⟩) lB2).trans z7
              have y8 := (HC1.out.cell (p := ⟨bB, oB + k * 2 + 1, none⟩) lB2).trans z8
              have O3 := Lib.hid (own_belowE OK2.out HC1.out)
              have B3 := Lib.hid (chain BK2.out HC1.out)
              have zz := HC1.out.size
              have ws := B3.out.size
              have lA3 := Nat.lt_of_lt_of_le lA2 zz
              have lB3 := Nat.lt_of_lt_of_le lB2 zz
              clear hb2))
          | ((refine step_append_lies _ (by rfl) _ _ _ (by rfl) W5.heap.size 44 i0 _ 2 16 Try.underlying52 hi hz0 hz1 hz2 rfl (by omega) u17 k ((ol.take k).flatMap oncells) (by rfl) (O3.out.alloc _) ⟨w3.heap.size, 0, none⟩ 1 1 (oncells r) (by rfl) (by rfl) (World.news_of_block (cs := #[.int .u64 (uz r.d), .int .u64 (uz r.e)]) (t := 44) (fr := (0, 0)) (heap_alloc_new w3 _)) (oncells_one _) (by omega) (by unfold maxLen; omega) (by omega) (by simp; omega) (w3.heap.size + 1) (by simp) ?_; intro gg cap w4 hown2 hgrow hat hlt2))
          )
      have K2 : Hid (KG W5.heap.size W5 w4 (.slice (some ⟨gg, 0, none⟩) (k + 1) cap) (k + 1) ol) := by
        refine ⟨?_, ?_⟩
        · rw [take_get GO.out, List.flatMap_append]
          simp only [List.flatMap_cons, List.flatMap_nil, List.append_nil]
          exact hown2
        · exact (chain_alloc B3.out _).grown hgrow (by simp; have := B3.out.size; omega) (fun q hqq => (O3.out.lt _ hqq).1)
      clear hown2 hgrow hat hlt2 O3 B3 OK2 BK2 y5 y6 y7 y8 z5 z6 z7 z8 A1 A2
      go_wp2_with fail
      go_roundw
      case rel => exact ⟨k + 1, by have := HL.out; omega, by go_num, K2⟩
      case measure => have := HL.out; simp [intOf]; omega
    · obtain rfl : k = nb := by omega
      have hf := HK.out.1
      have hb := HK.out.2
      rw [List.take_of_length_le (by rw [LO.out]; exact Nat.le_refl _)] at hf
      obtain ⟨Ao, co, rfl, e1, hr, e3, e4⟩ := own_cap oncells_len (by decide) hf
      have Ro := Lib.hid hr
      clear hf e1 hr e3 e4 HK hlt hk
      obtain ⟨w6, hw⟩ : ∃ W, W = wr := ⟨_, rfl⟩
      rw [← hw] at hb Ro ⊢
      clear hw
      have B6 := Lib.hid (chain B5.out hb)
      replace RX := Lib.hid (RX.out.below hb)
      replace RU := Lib.hid (RU.out.below hb)
      replace RY := Lib.hid (RY.out.below hb)
      replace RV := Lib.hid (RV.out.below hb)
      replace Rs := Lib.hid (Rs.out.below hb)
      replace Rt := Lib.hid (Rt.out.below hb)
      replace Ra := Lib.hid (Ra.out.below hb)
      replace Rb := Lib.hid (Rb.out.below hb)
      clear hb B5
      obtain ⟨ps, hps⟩ : ∃ ps, ps = closesU 0 ol ss := ⟨_, rfl⟩
      obtain ⟨qs, hqs⟩ : ∃ qs, qs = closesU 1 ol tt := ⟨_, rfl⟩
      rw [← hps, ← hqs] at SUM
      have HP := Lib.hid hps; have HQ := Lib.hid hqs
      have LP : Hid (ps.length = k) := by show _ = _; rw [hps, closes_len, LO.out, LS.out]; omega
      have LQ : Hid (qs.length = k) := by show _ = _; rw [hqs, closes_len, LO.out, LT.out]; omega
      clear hps hqs
      go_wp2_with fail
      refine (closes12 0 Ao As co ks k k ol ss _ Ro.out Rs.out LO.out.symm LS.out.symm (by omega)).mono ?_
      rintro e w7 ⟨Ap, kp, np, rfl, h1, h2, hb, h4, h5⟩
      have Mp := Lib.hid h1; have Rp := Lib.hid h2
      clear h1 h2 h4 h5
      have B7 := Lib.hid (chain B6.out hb)
      replace RX := Lib.hid (RX.out.below hb)
      replace RU := Lib.hid (RU.out.below hb)
      replace RY := Lib.hid (RY.out.below hb)
      replace RV := Lib.hid (RV.out.below hb)
      replace Rs := Lib.hid (Rs.out.below hb)
      replace Rt := Lib.hid (Rt.out.below hb)
      replace Ra := Lib.hid (Ra.out.below hb)
      replace Rb := Lib.hid (Rb.out.below hb)
      replace Ro := Lib.hid (Ro.out.below hb)
      clear hb B6
      rw [← HP.out] at Mp Rp
      obtain rfl : np = k := Mp.out.trans LP.out
      go_wp2_with fail
      refine (closes12 1 Ao At co kt np np ol tt _ Ro.out Rt.out LO.out.symm LT.out.symm (by omega)).mono ?_
      rintro e w8 ⟨Aq, kq, nq, rfl, h1, h2, hb, h4, h5⟩
      have Mq := Lib.hid h1; have Rq := Lib.hid h2
      clear h1 h2 h4 h5
      have B8 := Lib.hid (chain B7.out hb)
      replace RX := Lib.hid (RX.out.below hb)
      replace RU := Lib.hid (RU.out.below hb)
      replace RY := Lib.hid (RY.out.below hb)
      replace RV := Lib.hid (RV.out.below hb)
      replace Rs := Lib.hid (Rs.out.below hb)
      replace Rt := Lib.hid (Rt.out.below hb)
      replace Ra := Lib.hid (Ra.out.below hb)
      replace Rb := Lib.hid (Rb.out.below hb)
      replace Ro := Lib.hid (Ro.out.below hb)
      replace Rp := Lib.hid (Rp.out.below hb)
      clear hb B7
      rw [← HQ.out] at Mq Rq
      obtain rfl : nq = np := Mq.out.trans LQ.out
      clear nn hmin
      have toX := k_to X nx cX nq NX.out capX
      have toU := k_to U nu cU nq NU.out capU
      have toY := k_to Y ny cY nq NY.out capY
      have toV := k_to V nv cV nq NV.out capV
      have RXc : Hid (Rg ucells w8 X (xs.take nq)) := RX.out.take nq
      have RUc : Hid (Rg ucells w8 U (us.take nq)) := RU.out.take nq
      have RYc : Hid (Rg ucells w8 Y (ys.take nq)) := RY.out.take nq
      have RVc : Hid (Rg ucells w8 V (vs.take nq)) := RV.out.take nq
      go_wp2_with fail
      refine wp_region_noPanic ?_
      refine wp_region_held_drew (S := fun _ => True) (by kernel_rfl) (by trivial) (fun hHeld => ?_)
      have hb := below_drew w8
      have B9 := Lib.hid (chain B8.out hb)
      replace RX := Lib.hid (RX.out.below hb)
      replace RU := Lib.hid (RU.out.below hb)
      replace RY := Lib.hid (RY.out.below hb)
      replace RV := Lib.hid (RV.out.below hb)
      replace Rs := Lib.hid (Rs.out.below hb)
      replace Rt := Lib.hid (Rt.out.below hb)
      replace Ra := Lib.hid (Ra.out.below hb)
      replace Rb := Lib.hid (Rb.out.below hb)
      replace Ro := Lib.hid (Ro.out.below hb)
      replace Rp := Lib.hid (Rp.out.below hb)
      replace Rq := Lib.hid (Rq.out.below hb)
      replace RXc := Lib.hid (RXc.out.below hb)
      replace RUc := Lib.hid (RUc.out.below hb)
      replace RYc := Lib.hid (RYc.out.below hb)
      replace RVc := Lib.hid (RVc.out.below hb)
      clear hb B8
      refine wpAnyH_take (i := 0) (v := ?vv1) (by simp only [List.getElem?_toArray, List.getElem?_cons_zero]; rfl) (by kernel_rfl) (by kernel_rfl) (by kernel_rfl) (fun _ _ _ h => h) (Or.inl ⟨by rfl, ?yy1⟩) (by assumption) ?rr1
      case yy1 => (intro w hSw; go_simp; first | done | with_reducible rfl)
      simp only [Act.put, List.setIfInBounds_toArray, List.set_cons_zero, List.set_cons_succ]
      refine wpAnyH_take (i := 1) (v := ?vv2) (by simp only [List.getElem?_toArray, List.getElem?_cons_zero, List.getElem?_cons_succ]; rfl) (by kernel_rfl) (by kernel_rfl) (by kernel_rfl) (fun _ _ _ h => h) (Or.inl ⟨by rfl, ?yy2⟩) (by assumption) ?rr2
      case yy2 => (intro w hSw; go_simp; first | done | with_reducible rfl)
      simp only [Act.put, List.setIfInBounds_toArray, List.set_cons_zero, List.set_cons_succ]
      refine wpAnyH_take (i := 2) (v := ?vv3) (by simp only [List.getElem?_toArray, List.getElem?_cons_zero, List.getElem?_cons_succ]; rfl) (by kernel_rfl) (by kernel_rfl) (by kernel_rfl) (fun _ _ _ h => h) (Or.inl ⟨by rfl, ?yy3⟩) (by assumption) ?rr3
      case yy3 => (intro w hSw; go_simp; first | done | with_reducible rfl)
      simp only [Act.put, List.setIfInBounds_toArray, List.set_cons_zero, List.set_cons_succ]
      refine wpAnyH_take (i := 3) (v := ?vv4) (by simp only [List.getElem?_toArray, List.getElem?_cons_zero, List.getElem?_cons_succ]; rfl) (by kernel_rfl) (by kernel_rfl) (by kernel_rfl) (fun _ _ _ h => h) (Or.inl ⟨by rfl, ?yy4⟩) (by assumption) ?rr4
      case yy4 => (intro w hSw; go_simp; first | done | with_reducible rfl)
      simp only [Act.put, List.setIfInBounds_toArray, List.set_cons_zero, List.set_cons_succ]
      refine wpAnyH_take (i := 5) (v := ?vv5) (by simp only [List.getElem?_toArray, List.getElem?_cons_zero, List.getElem?_cons_succ]; rfl) (by kernel_rfl) (by kernel_rfl) (by kernel_rfl) (fun _ _ _ h => h) (Or.inl ⟨by rfl, ?yy5⟩) (by assumption) ?rr5
      case yy5 => (intro w hSw; go_simp; first | done | with_reducible rfl)
      simp only [Act.put, List.setIfInBounds_toArray, List.set_cons_zero, List.set_cons_succ]
      refine wpAnyH_take (i := 6) (v := ?vv6) (by simp only [List.getElem?_toArray, List.getElem?_cons_zero, List.getElem?_cons_succ]; rfl) (by kernel_rfl) (by kernel_rfl) (by kernel_rfl) (fun _ _ _ h => h) (Or.inl ⟨by rfl, ?yy6⟩) (by assumption) ?rr6
      case yy6 => (intro w hSw; go_simp; first | done | with_reducible rfl)
      simp only [Act.put, List.setIfInBounds_toArray, List.set_cons_zero, List.set_cons_succ]
      refine wpAnyH_take (i := 8) (v := ?vv7) (by simp only [List.getElem?_toArray, List.getElem?_cons_zero, List.getElem?_cons_succ]; rfl) (by kernel_rfl) (by kernel_rfl) (by kernel_rfl) (fun _ _ _ h => h) (Or.inl ⟨by rfl, ?yy7⟩) (by assumption) ?rr7
      case yy7 => (intro w hSw; go_simp; first | done | with_reducible rfl)
      simp only [Act.put, List.setIfInBounds_toArray, List.set_cons_zero, List.set_cons_succ]
      refine wpAnyH_take (i := 9) (v := ?vv8) (by simp only [List.getElem?_toArray, List.getElem?_cons_zero, List.getElem?_cons_succ]; rfl) (by kernel_rfl) (by kernel_rfl) (by kernel_rfl) (fun _ _ _ h => h) (Or.inl ⟨by rfl, ?yy8⟩) (by assumption) ?rr8
      case yy8 => (intro w hSw; go_simp; first | done | with_reducible rfl)
      simp only [Act.put, List.setIfInBounds_toArray, List.set_cons_zero, List.set_cons_succ]
      refine wpAnyH_take (i := 12) (v := ?vv9) (by simp only [List.getElem?_toArray, List.getElem?_cons_zero, List.getElem?_cons_succ]; rfl) (by kernel_rfl) (by kernel_rfl) (by kernel_rfl) (fun _ _ _ h => h) (Or.inl ⟨by rfl, ?yy9⟩) (by assumption) ?rr9
      case yy9 => (intro w hSw; go_simp; first | done | with_reducible rfl)
      simp only [Act.put, List.setIfInBounds_toArray, List.set_cons_zero, List.set_cons_succ]
      refine wpAnyH_take (i := 13) (v := ?vv10) (by simp only [List.getElem?_toArray, List.getElem?_cons_zero, List.getElem?_cons_succ]; rfl) (by kernel_rfl) (by kernel_rfl) (by kernel_rfl) (fun _ _ _ h => h) (Or.inl ⟨by rfl, ?yy10⟩) (by assumption) ?rr10
      case yy10 => (intro w hSw; go_simp; first | done | with_reducible rfl)
      simp only [Act.put, List.setIfInBounds_toArray, List.set_cons_zero, List.set_cons_succ]
      refine wpAnyH_take (i := 15) (v := ?vv11) (by simp only [List.getElem?_toArray, List.getElem?_cons_zero, List.getElem?_cons_succ]; rfl) (by kernel_rfl) (by kernel_rfl) (by kernel_rfl) (fun _ _ _ h => h) (Or.inl ⟨by rfl, ?yy11⟩) (by assumption) ?rr11
      case yy11 => (intro w hSw; go_simp; first | done | with_reducible rfl)
      simp only [Act.put, List.setIfInBounds_toArray, List.set_cons_zero, List.set_cons_succ]
      refine wpAnyH_take (i := 16) (v := ?vv12) (by simp only [List.getElem?_toArray, List.getElem?_cons_zero, List.getElem?_cons_succ]; rfl) (by kernel_rfl) (by kernel_rfl) (by kernel_rfl) (fun _ _ _ h => h) (Or.inl ⟨by rfl, ?yy12⟩) (by assumption) ?rr12
      case yy12 => (intro w hSw; go_simp; first | done | with_reducible rfl)
      simp only [Act.put, List.setIfInBounds_toArray, List.set_cons_zero, List.set_cons_succ]
      refine wpAnyH_take (i := 7) (v := ?vv13) (by simp only [List.getElem?_toArray, List.getElem?_cons_zero, List.getElem?_cons_succ]; rfl) (by kernel_rfl) (by kernel_rfl) (by kernel_rfl) (fun _ _ _ h => h) (Or.inl ⟨by rfl, ?yy13⟩) (by assumption) ?rr13
      case yy13 => (intro w hSw; go_simp; first | done | with_reducible rfl)
      simp only [Act.put, List.setIfInBounds_toArray, List.set_cons_zero, List.set_cons_succ]
      refine wpAnyH_take (i := 10) (v := ?vv14) (by simp only [List.getElem?_toArray, List.getElem?_cons_zero, List.getElem?_cons_succ]; rfl) (by kernel_rfl) (by kernel_rfl) (by kernel_rfl) (fun _ _ _ h => h) (Or.inl ⟨by rfl, ?yy14⟩) (by assumption) ?rr14
      case yy14 => (intro w hSw; go_simp; first | done | with_reducible rfl)
      simp only [Act.put, List.setIfInBounds_toArray, List.set_cons_zero, List.set_cons_succ]
      refine wpAnyH_take (i := 14) (v := ?vv15) (by simp only [List.getElem?_toArray, List.getElem?_cons_zero, List.getElem?_cons_succ]; rfl) (by kernel_rfl) (by kernel_rfl) (by kernel_rfl) (fun _ _ _ h => h) (Or.inl ⟨by rfl, ?yy15⟩) (by assumption) ?rr15
      case yy15 => (intro w hSw; go_simp; first | done | with_reducible rfl)
      simp only [Act.put, List.setIfInBounds_toArray, List.set_cons_zero, List.set_cons_succ]
      refine wpAnyH_take (i := 17) (v := ?vv16) (by simp only [List.getElem?_toArray, List.getElem?_cons_zero, List.getElem?_cons_succ]; rfl) (by kernel_rfl) (by kernel_rfl) (by kernel_rfl) (fun _ _ _ h => h) (Or.inl ⟨by rfl, ?yy16⟩) (by assumption) ?rr16
      case yy16 => (intro w hSw; go_simp; first | done | with_reducible rfl)
      simp only [Act.put, List.setIfInBounds_toArray, List.set_cons_zero, List.set_cons_succ]
      refine wpAnyH_ready (rs := [4]) (by kernel_rfl) (by simp) ?_
      refine AllReadyH.cons (by simp only [List.getElem?_toArray, List.getElem?_cons_zero, List.getElem?_cons_succ]; rfl) (fun K hK => ?_) AllReadyH.nil
      go_simp
      go_at_call 18
      (with_reducible refine (nadd Ap Aq kp kq nq nq (ps) (qs) _ Rp.out Rq.out LP.out.symm LQ.out.symm (by omega)).mono ?_)
      rintro e w10 ⟨Ae, ke, ne, rfl, h1, h2, hb, h4, h5, h6⟩
      have Me := Lib.hid h1; have Re := Lib.hid h2
      clear h1 h2 h4 h5 h6
      have B10 := Lib.hid (chain B9.out hb)
      replace RX := Lib.hid (RX.out.below hb)
      replace RU := Lib.hid (RU.out.below hb)
      replace RY := Lib.hid (RY.out.below hb)
      replace RV := Lib.hid (RV.out.below hb)
      replace Rs := Lib.hid (Rs.out.below hb)
      replace Rt := Lib.hid (Rt.out.below hb)
      replace Ra := Lib.hid (Ra.out.below hb)
      replace Rb := Lib.hid (Rb.out.below hb)
      replace Ro := Lib.hid (Ro.out.below hb)
      replace Rp := Lib.hid (Rp.out.below hb)
      replace Rq := Lib.hid (Rq.out.below hb)
      replace RXc := Lib.hid (RXc.out.below hb)
      replace RUc := Lib.hid (RUc.out.below hb)
      replace RYc := Lib.hid (RYc.out.below hb)
      replace RVc := Lib.hid (RVc.out.below hb)
      clear hb B9
      go_wp2_with fail
      refine hK.out _ _ trivial (fun hHeld => ?_)
      clear hK K
      try simp only [Act.put, List.setIfInBounds_toArray, List.set_cons_zero, List.set_cons_succ]
      refine wpAnyH_ready (rs := [11]) (by kernel_rfl) (by simp) ?_
      refine AllReadyH.cons (by simp only [List.getElem?_toArray, List.getElem?_cons_zero, List.getElem?_cons_succ]; rfl) (fun K hK => ?_) AllReadyH.nil
      go_simp
      go_at_call 18
      (with_reducible refine (nadd X U cX cU nq nq (xs.take nq) (us.take nq) _ RXc.out RUc.out (by rw [List.length_take, ← LX.out]; have := NX.out; omega) (by rw [List.length_take, ← LU.out]; have := NU.out; omega) (by omega)).mono ?_)
      rintro e w11 ⟨Af, kf, nf, rfl, h1, h2, hb, h4, h5, h6⟩
      have Mf := Lib.hid h1; have Rf := Lib.hid h2
      clear h1 h2 h4 h5 h6
      have B11 := Lib.hid (chain B10.out hb)
      replace RX := Lib.hid (RX.out.below hb)
      replace RU := Lib.hid (RU.out.below hb)
      replace RY := Lib.hid (RY.out.below hb)
      replace RV := Lib.hid (RV.out.below hb)
      replace Rs := Lib.hid (Rs.out.below hb)
      replace Rt := Lib.hid (Rt.out.below hb)
      replace Ra := Lib.hid (Ra.out.below hb)
      replace Rb := Lib.hid (Rb.out.below hb)
      replace Ro := Lib.hid (Ro.out.below hb)
      replace Rp := Lib.hid (Rp.out.below hb)
      replace Rq := Lib.hid (Rq.out.below hb)
      replace RXc := Lib.hid (RXc.out.below hb)
      replace RUc := Lib.hid (RUc.out.below hb)
      replace RYc := Lib.hid (RYc.out.below hb)
      replace RVc := Lib.hid (RVc.out.below hb)
      replace Re := Lib.hid (Re.out.below hb)
      clear hb B10
      go_wp2_with fail
      refine hK.out _ _ trivial (fun hHeld => ?_)
      clear hK K
      try simp only [Act.put, List.setIfInBounds_toArray, List.set_cons_zero, List.set_cons_succ]
      refine wpAnyH_ready (rs := [18]) (by kernel_rfl) (by simp) ?_
      refine AllReadyH.cons (by simp only [List.getElem?_toArray, List.getElem?_cons_zero, List.getElem?_cons_succ]; rfl) (fun K hK => ?_) AllReadyH.nil
      go_simp
      go_at_call 18
      (with_reducible refine (nadd Y V cY cV nq nq (ys.take nq) (vs.take nq) _ RYc.out RVc.out (by rw [List.length_take, ← LY.out]; have := NY.out; omega) (by rw [List.length_take, ← LV.out]; have := NV.out; omega) (by omega)).mono ?_)
      rintro e w12 ⟨Aj, kj, nj, rfl, h1, h2, hb, h4, h5, h6⟩
      have Mj := Lib.hid h1; have Rj := Lib.hid h2
      clear h1 h2 h4 h5 h6
      have B12 := Lib.hid (chain B11.out hb)
      replace RX := Lib.hid (RX.out.below hb)
      replace RU := Lib.hid (RU.out.below hb)
      replace RY := Lib.hid (RY.out.below hb)
      replace RV := Lib.hid (RV.out.below hb)
      replace Rs := Lib.hid (Rs.out.below hb)
      replace Rt := Lib.hid (Rt.out.below hb)
      replace Ra := Lib.hid (Ra.out.below hb)
      replace Rb := Lib.hid (Rb.out.below hb)
      replace Ro := Lib.hid (Ro.out.below hb)
      replace Rp := Lib.hid (Rp.out.below hb)
      replace Rq := Lib.hid (Rq.out.below hb)
      replace RXc := Lib.hid (RXc.out.below hb)
      replace RUc := Lib.hid (RUc.out.below hb)
      replace RYc := Lib.hid (RYc.out.below hb)
      replace RVc := Lib.hid (RVc.out.below hb)
      replace Re := Lib.hid (Re.out.below hb)
      replace Rf := Lib.hid (Rf.out.below hb)
      clear hb B11
      go_wp2_with fail
      refine hK.out _ _ trivial (fun hHeld => ?_)
      clear hK K
      try simp only [Act.put, List.setIfInBounds_toArray, List.set_cons_zero, List.set_cons_succ]
      refine wpAnyH_ready (rs := [19]) (by kernel_rfl) (by simp) ?_
      refine AllReadyH.cons (by simp only [List.getElem?_toArray, List.getElem?_cons_zero, List.getElem?_cons_succ]; rfl) (fun K hK => ?_) AllReadyH.nil
      go_simp
      go_at_call 22
      (with_reducible refine (nmul Af Aj kf kj nf nj (addR (xs.take nq) (us.take nq)) (addR (ys.take nq) (vs.take nq)) _ Rf.out Rj.out Mf.out Mj.out (by have q := Mf.out; simp only [addR, List.length_zipWith, List.length_take] at q; omega)).mono ?_)
      rintro e w13 ⟨Am, km, nm, rfl, h1, h2, hb, h4, h5, h6⟩
      have Mm := Lib.hid h1; have Rm := Lib.hid h2
      clear h1 h2 h4 h5 h6
      have B13 := Lib.hid (chain B12.out hb)
      replace RX := Lib.hid (RX.out.below hb)
      replace RU := Lib.hid (RU.out.below hb)
      replace RY := Lib.hid (RY.out.below hb)
      replace RV := Lib.hid (RV.out.below hb)
      replace Rs := Lib.hid (Rs.out.below hb)
      replace Rt := Lib.hid (Rt.out.below hb)
      replace Ra := Lib.hid (Ra.out.below hb)
      replace Rb := Lib.hid (Rb.out.below hb)
      replace Ro := Lib.hid (Ro.out.below hb)
      replace Rp := Lib.hid (Rp.out.below hb)
      replace Rq := Lib.hid (Rq.out.below hb)
      replace RXc := Lib.hid (RXc.out.below hb)
      replace RUc := Lib.hid (RUc.out.below hb)
      replace RYc := Lib.hid (RYc.out.below hb)
      replace RVc := Lib.hid (RVc.out.below hb)
      replace Re := Lib.hid (Re.out.below hb)
      replace Rf := Lib.hid (Rf.out.below hb)
      replace Rj := Lib.hid (Rj.out.below hb)
      clear hb B12
      go_wp2_with fail
      refine hK.out _ _ trivial (fun hHeld => ?_)
      clear hK K
      try simp only [Act.put, List.setIfInBounds_toArray, List.set_cons_zero, List.set_cons_succ]
      refine wpAnyH_ready (rs := [20]) (by kernel_rfl) (by simp) ?_
      refine AllReadyH.cons (by simp only [List.getElem?_toArray, List.getElem?_cons_zero, List.getElem?_cons_succ]; rfl) (fun K hK => ?_) AllReadyH.nil
      go_simp
      go_at_call 16
      (with_reducible refine (ssame Ae Am ke km ne nm (addR ps qs) (mulR (addR (xs.take nq) (us.take nq)) (addR (ys.take nq) (vs.take nq))) _ Re.out Rm.out Me.out Mm.out (by have q := Me.out; simp only [addR, List.length_zipWith] at q; have := LP.out; omega) (SUM.out)).mono ?_)
      rintro e w14 ⟨rfl, hb⟩
      have B14 := Lib.hid (chain B13.out hb)
      replace RX := Lib.hid (RX.out.below hb)
      replace RU := Lib.hid (RU.out.below hb)
      replace RY := Lib.hid (RY.out.below hb)
      replace RV := Lib.hid (RV.out.below hb)
      replace Rs := Lib.hid (Rs.out.below hb)
      replace Rt := Lib.hid (Rt.out.below hb)
      replace Ra := Lib.hid (Ra.out.below hb)
      replace Rb := Lib.hid (Rb.out.below hb)
      replace Ro := Lib.hid (Ro.out.below hb)
      replace Rp := Lib.hid (Rp.out.below hb)
      replace Rq := Lib.hid (Rq.out.below hb)
      replace RXc := Lib.hid (RXc.out.below hb)
      replace RUc := Lib.hid (RUc.out.below hb)
      replace RYc := Lib.hid (RYc.out.below hb)
      replace RVc := Lib.hid (RVc.out.below hb)
      replace Re := Lib.hid (Re.out.below hb)
      replace Rf := Lib.hid (Rf.out.below hb)
      replace Rj := Lib.hid (Rj.out.below hb)
      replace Rm := Lib.hid (Rm.out.below hb)
      clear hb B13
      go_wp2_with fail
      refine hK.out _ _ trivial (fun hHeld => ?_)
      clear hK K
      try simp only [Act.put, List.setIfInBounds_toArray, List.set_cons_zero, List.set_cons_succ]
      refine wpAnyH_take (i := 21) (v := ?vv17) (by simp only [List.getElem?_toArray, List.getElem?_cons_zero, List.getElem?_cons_succ]; rfl) (by kernel_rfl) (by kernel_rfl) (by kernel_rfl) (fun _ _ _ h => h) (Or.inl ⟨by rfl, ?yy17⟩) (by assumption) ?rr17
      case yy17 => (intro w hSw; go_simp; first | done | with_reducible rfl)
      simp only [Act.put, List.setIfInBounds_toArray, List.set_cons_zero, List.set_cons_succ]
      refine wpAnyH_take (i := 22) (v := ?vv18) (by simp only [List.getElem?_toArray, List.getElem?_cons_zero, List.getElem?_cons_succ]; rfl) (by kernel_rfl) (by kernel_rfl) (by kernel_rfl) (fun _ _ _ h => h) (Or.inl ⟨by rfl, ?yy18⟩) (by assumption) ?rr18
      case yy18 => (intro w hSw; go_simp; first | done | with_reducible rfl)
      simp only [Act.put, List.setIfInBounds_toArray, List.set_cons_zero, List.set_cons_succ]
      refine wpAnyH_take (i := 23) (v := ?vv19) (by simp only [List.getElem?_toArray, List.getElem?_cons_zero, List.getElem?_cons_succ]; rfl) (by kernel_rfl) (by kernel_rfl) (by kernel_rfl) (fun _ _ _ h => h) (Or.inl ⟨by rfl, ?yy19⟩) (by assumption) ?rr19
      case yy19 => (intro w hSw; go_simp; first | done | with_reducible rfl)
      simp only [Act.put, List.setIfInBounds_toArray, List.set_cons_zero, List.set_cons_succ]
      refine wpAnyH_take (i := 25) (v := ?vv20) (by simp only [List.getElem?_toArray, List.getElem?_cons_zero, List.getElem?_cons_succ]; rfl) (by kernel_rfl) (by kernel_rfl) (by kernel_rfl) (fun _ _ _ h => h) (Or.inl ⟨by rfl, ?yy20⟩) (by assumption) ?rr20
      case yy20 => (intro w hSw; go_simp; first | done | with_reducible rfl)
      simp only [Act.put, List.setIfInBounds_toArray, List.set_cons_zero, List.set_cons_succ]
      refine wpAnyH_take (i := 24) (v := ?vv21) (by simp only [List.getElem?_toArray, List.getElem?_cons_zero, List.getElem?_cons_succ]; rfl) (by kernel_rfl) (by kernel_rfl) (by kernel_rfl) (fun _ _ _ h => h) (Or.inl ⟨by rfl, ?yy21⟩) (by assumption) ?rr21
      case yy21 => (intro w hSw; go_simp; first | done | with_reducible rfl)
      simp only [Act.put, List.setIfInBounds_toArray, List.set_cons_zero, List.set_cons_succ]
      refine wpAnyH_take (i := 26) (v := ?vv22) (by simp only [List.getElem?_toArray, List.getElem?_cons_zero, List.getElem?_cons_succ]; rfl) (by kernel_rfl) (by kernel_rfl) (by kernel_rfl) (fun _ _ _ h => h) (Or.inl ⟨by rfl, ?yy22⟩) (by assumption) ?rr22
      case yy22 => (intro w hSw; go_simp; first | done | with_reducible rfl)
      simp only [Act.put, List.setIfInBounds_toArray, List.set_cons_zero, List.set_cons_succ]
      refine wpAnyH_take (i := 27) (v := ?vv23) (by simp only [List.getElem?_toArray, List.getElem?_cons_zero, List.getElem?_cons_succ]; rfl) (by kernel_rfl) (by kernel_rfl) (by kernel_rfl) (fun _ _ _ h => h) (Or.inl ⟨by rfl, ?yy23⟩) (by assumption) ?rr23
      case yy23 => (intro w hSw; go_simp; first | done | with_reducible rfl)
      simp only [Act.put, List.setIfInBounds_toArray, List.set_cons_zero, List.set_cons_succ]
      refine wpAnyH_take (i := 28) (v := ?vv24) (by simp only [List.getElem?_toArray, List.getElem?_cons_zero, List.getElem?_cons_succ]; rfl) (by kernel_rfl) (by kernel_rfl) (by kernel_rfl) (fun _ _ _ h => h) (Or.inl ⟨by rfl, ?yy24⟩) (by assumption) ?rr24
      case yy24 => (intro w hSw; go_simp; first | done | with_reducible rfl)
      simp only [Act.put, List.setIfInBounds_toArray, List.set_cons_zero, List.set_cons_succ]
      refine wpAnyH_take (i := 29) (v := ?vv25) (by simp only [List.getElem?_toArray, List.getElem?_cons_zero, List.getElem?_cons_succ]; rfl) (by kernel_rfl) (by kernel_rfl) (by kernel_rfl) (fun _ _ _ h => h) (Or.inl ⟨by rfl, ?yy25⟩) (by assumption) ?rr25
      case yy25 => (intro w hSw; go_simp; first | done | with_reducible rfl)
      simp only [Act.put, List.setIfInBounds_toArray, List.set_cons_zero, List.set_cons_succ]
      refine wpAnyH_take (i := 31) (v := ?vv26) (by simp only [List.getElem?_toArray, List.getElem?_cons_zero, List.getElem?_cons_succ]; rfl) (by kernel_rfl) (by kernel_rfl) (by kernel_rfl) (fun _ _ _ h => h) (Or.inl ⟨by rfl, ?yy26⟩) (by assumption) ?rr26
      case yy26 => (intro w hSw; go_simp; first | done | with_reducible rfl)
      simp only [Act.put, List.setIfInBounds_toArray, List.set_cons_zero, List.set_cons_succ]
      refine wpAnyH_take (i := 30) (v := ?vv27) (by simp only [List.getElem?_toArray, List.getElem?_cons_zero, List.getElem?_cons_succ]; rfl) (by kernel_rfl) (by kernel_rfl) (by kernel_rfl) (fun _ _ _ h => h) (Or.inl ⟨by rfl, ?yy27⟩) (by assumption) ?rr27
      case yy27 => (intro w hSw; go_simp; first | done | with_reducible rfl)
      simp only [Act.put, List.setIfInBounds_toArray, List.set_cons_zero, List.set_cons_succ]
      refine wpAnyH_take (i := 32) (v := ?vv28) (by simp only [List.getElem?_toArray, List.getElem?_cons_zero, List.getElem?_cons_succ]; rfl) (by kernel_rfl) (by kernel_rfl) (by kernel_rfl) (fun _ _ _ h => h) (Or.inl ⟨by rfl, ?yy28⟩) (by assumption) ?rr28
      case yy28 => (intro w hSw; go_simp; first | done | with_reducible rfl)
      simp only [Act.put, List.setIfInBounds_toArray, List.set_cons_zero, List.set_cons_succ]
      refine wpAnyH_take (i := 33) (v := ?vv29) (by simp only [List.getElem?_toArray, List.getElem?_cons_zero, List.getElem?_cons_succ]; rfl) (by kernel_rfl) (by kernel_rfl) (by kernel_rfl) (fun _ _ _ h => h) (Or.inl ⟨by rfl, ?yy29⟩) (by assumption) ?rr29
      case yy29 => (intro w hSw; go_simp; first | done | with_reducible rfl)
      simp only [Act.put, List.setIfInBounds_toArray, List.set_cons_zero, List.set_cons_succ]
      refine wpAnyH_take (i := 34) (v := ?vv30) (by simp only [List.getElem?_toArray, List.getElem?_cons_zero, List.getElem?_cons_succ]; rfl) (by kernel_rfl) (by kernel_rfl) (by kernel_rfl) (fun _ _ _ h => h) (Or.inl ⟨by rfl, ?yy30⟩) (by assumption) ?rr30
      case yy30 => (intro w hSw; go_simp; first | done | with_reducible rfl)
      simp only [Act.put, List.setIfInBounds_toArray, List.set_cons_zero, List.set_cons_succ]
      refine wpAnyH_take (i := 35) (v := ?vv31) (by simp only [List.getElem?_toArray, List.getElem?_cons_zero, List.getElem?_cons_succ]; rfl) (by kernel_rfl) (by kernel_rfl) (by kernel_rfl) (fun _ _ _ h => h) (Or.inl ⟨by rfl, ?yy31⟩) (by assumption) ?rr31
      case yy31 => (intro w hSw; go_simp; first | done | with_reducible rfl)
      simp only [Act.put, List.setIfInBounds_toArray, List.set_cons_zero, List.set_cons_succ]
      refine wpAnyH_ready (rs := [36]) (by kernel_rfl) (by simp) ?_
      refine AllReadyH.cons (by simp only [List.getElem?_toArray, List.getElem?_cons_zero, List.getElem?_cons_succ]; rfl) (fun K hK => ?_) AllReadyH.nil
      go_simp
      go_at_call 50
      (with_reducible refine (closes12 0 Ao none co 0 nq 0 ol [] _ Ro.out (Rg.nil _ _ _) LO.out.symm rfl (by omega)).mono ?_)
      rintro e w15 ⟨Ah, kh, nh, rfl, h1, h2, hb, h4, h5⟩
      obtain rfl : nh = 0 := by rw [h1, closes_len]; simp
      clear h1 h2 h4 h5
      have B15 := Lib.hid (chain B14.out hb)
      replace RX := Lib.hid (RX.out.below hb)
      replace RU := Lib.hid (RU.out.below hb)
      replace RY := Lib.hid (RY.out.below hb)
      replace RV := Lib.hid (RV.out.below hb)
      replace Rs := Lib.hid (Rs.out.below hb)
      replace Rt := Lib.hid (Rt.out.below hb)
      replace Ra := Lib.hid (Ra.out.below hb)
      replace Rb := Lib.hid (Rb.out.below hb)
      replace Ro := Lib.hid (Ro.out.below hb)
      replace Rp := Lib.hid (Rp.out.below hb)
      replace Rq := Lib.hid (Rq.out.below hb)
      replace RXc := Lib.hid (RXc.out.below hb)
      replace RUc := Lib.hid (RUc.out.below hb)
      replace RYc := Lib.hid (RYc.out.below hb)
      replace RVc := Lib.hid (RVc.out.below hb)
      replace Re := Lib.hid (Re.out.below hb)
      replace Rf := Lib.hid (Rf.out.below hb)
      replace Rj := Lib.hid (Rj.out.below hb)
      replace Rm := Lib.hid (Rm.out.below hb)
      clear hb B14
      go_wp2_with fail
      refine hK.out _ _ trivial (fun hHeld => ?_)
      clear hK K
      try simp only [Act.put, List.setIfInBounds_toArray, List.set_cons_zero, List.set_cons_succ]
      refine wpAnyH_take (i := 37) (v := ?vv32) (by simp only [List.getElem?_toArray, List.getElem?_cons_zero, List.getElem?_cons_succ]; rfl) (by kernel_rfl) (by kernel_rfl) (by kernel_rfl) (fun _ _ _ h => h) (Or.inl ⟨by rfl, ?yy32⟩) (by assumption) ?rr32
      case yy32 => (intro w hSw; go_simp; first | done | with_reducible rfl)
      simp only [Act.put, List.setIfInBounds_toArray, List.set_cons_zero, List.set_cons_succ]
      refine wpAnyH_take (i := 38) (v := ?vv33) (by simp only [List.getElem?_toArray, List.getElem?_cons_zero, List.getElem?_cons_succ]; rfl) (by kernel_rfl) (by kernel_rfl) (by kernel_rfl) (fun _ _ _ h => h) (Or.inl ⟨by rfl, ?yy33⟩) (by assumption) ?rr33
      case yy33 => (intro w hSw; go_simp; first | done | with_reducible rfl)
      simp only [Act.put, List.setIfInBounds_toArray, List.set_cons_zero, List.set_cons_succ]
      refine wpAnyH_take (i := 39) (v := ?vv34) (by simp only [List.getElem?_toArray, List.getElem?_cons_zero, List.getElem?_cons_succ]; rfl) (by kernel_rfl) (by kernel_rfl) (by kernel_rfl) (fun _ _ _ h => h) (Or.inl ⟨by rfl, ?yy34⟩) (by assumption) ?rr34
      case yy34 => (intro w hSw; go_simp; first | done | with_reducible rfl)
      simp only [Act.put, List.setIfInBounds_toArray, List.set_cons_zero, List.set_cons_succ]
      refine wpAnyH_take (i := 40) (v := ?vv35) (by simp only [List.getElem?_toArray, List.getElem?_cons_zero, List.getElem?_cons_succ]; rfl) (by kernel_rfl) (by kernel_rfl) (by kernel_rfl) (fun _ _ _ h => h) (Or.inl ⟨by rfl, ?yy35⟩) (by assumption) ?rr35
      case yy35 => (intro w hSw; go_simp; first | done | with_reducible rfl)
      simp only [Act.put, List.setIfInBounds_toArray, List.set_cons_zero, List.set_cons_succ]
      refine wpAnyH_done (by kernel_rfl) ?_ _
      refine NoPanic.normal ?_
      go_wp2_with fail
      go_ret
      exact ⟨rfl, B15.out⟩

end Go.Proofs.Ytggbhoanffdjbaa
