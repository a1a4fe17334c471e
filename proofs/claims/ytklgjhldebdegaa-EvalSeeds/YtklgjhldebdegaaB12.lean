/-
  What the laws of this seat stand on, part 12.
-/
import Derived.Test.YtklgjhldebdegaaB11
import Derived.Deep.RegionHeld3
import Derived.Deep.DeepCutAuto
import Derived.Laws.StructEq
namespace Go.Proofs.Ytklgjhldebdegaa
open Go.RowKit

theorem ml_takes (m : Int) (w : World) : (method 276 59 (.agg #[.int .i64 m]) "symbolon/eval.takes").run Try.prog w = .ok (102, .agg #[.int .i64 m]) w := by kernel_rfl
theorem mp_takes (c h x : Int) (A : Option Addr) (n cA : Nat) (a : Int) (z : UInt64) (l f i o : Int) (w : World) : (method 276 61 (.agg #[.int .i64 c, .int .i64 h, .int .i64 x, .slice A n cA, .int .i64 a, .int .u64 (uz z), .int .i64 l, .int .i64 f, .int .i64 i, .int .i64 o]) "symbolon/eval.takes").run Try.prog w = .ok (105, .agg #[.int .i64 c, .int .i64 h, .int .i64 x, .slice A n cA, .int .i64 a, .int .u64 (uz z), .int .i64 l, .int .i64 f, .int .i64 i, .int .i64 o]) w := by kernel_rfl
theorem ml_line (m : Int) (w : World) : (method 276 59 (.agg #[.int .i64 m]) "symbolon/eval.line").run Try.prog w = .ok (101, .agg #[.int .i64 m]) w := by kernel_rfl
theorem mp_line (c h x : Int) (A : Option Addr) (n cA : Nat) (a : Int) (z : UInt64) (l f i o : Int) (w : World) : (method 276 61 (.agg #[.int .i64 c, .int .i64 h, .int .i64 x, .slice A n cA, .int .i64 a, .int .u64 (uz z), .int .i64 l, .int .i64 f, .int .i64 i, .int .i64 o]) "symbolon/eval.line").run Try.prog w = .ok (104, .agg #[.int .i64 c, .int .i64 h, .int .i64 x, .slice A n cA, .int .i64 a, .int .u64 (uz z), .int .i64 l, .int .i64 f, .int .i64 i, .int .i64 o]) w := by kernel_rfl
theorem ml_behind (m : Int) (w : World) : (method 276 59 (.agg #[.int .i64 m]) "symbolon/eval.behind").run Try.prog w = .ok (100, .agg #[.int .i64 m]) w := by kernel_rfl
theorem mp_behind (c h x : Int) (A : Option Addr) (n cA : Nat) (a : Int) (z : UInt64) (l f i o : Int) (w : World) : (method 276 61 (.agg #[.int .i64 c, .int .i64 h, .int .i64 x, .slice A n cA, .int .i64 a, .int .u64 (uz z), .int .i64 l, .int .i64 f, .int .i64 i, .int .i64 o]) "symbolon/eval.behind").run Try.prog w = .ok (103, .agg #[.int .i64 c, .int .i64 h, .int .i64 x, .slice A n cA, .int .i64 a, .int .u64 (uz z), .int .i64 l, .int .i64 f, .int .i64 i, .int .i64 o]) w := by kernel_rfl
theorem na_last (m : Int) (w : World) : (nilAhead 276 59 (.agg #[.int .i64 m]) "symbolon/eval.behind").run Try.prog w = .ok (some false) w := by kernel_rfl
theorem na_products (c h x : Int) (A : Option Addr) (n cA : Nat) (a : Int) (z : UInt64) (l f i o : Int) (w : World) : (nilAhead 276 61 (.agg #[.int .i64 c, .int .i64 h, .int .i64 x, .slice A n cA, .int .i64 a, .int .u64 (uz z), .int .i64 l, .int .i64 f, .int .i64 i, .int .i64 o]) "symbolon/eval.behind").run Try.prog w = .ok (some false) w := by kernel_rfl

set_option maxHeartbeats 4000000 in
set_option maxRecDepth 100000 in
theorem line13 (c h x : Int) (A X W : Option Addr) (cA n cX nx cW nw : Nat) (ls : List Ly) (xs ws : List UInt64) (a : Int) (z : UInt64) (s : Int) (w : World) (hx : Rl w A ls) (ln : n = ls.length) (hn : n ≤ 60) (hX : Rg ucells w X xs) (lx : nx = xs.length) (hW : Rg ucells w W ws) (lw : nw = ws.length) :
    Calls Try.prog 6 #[.agg #[.int .i64 c, .int .i64 h, .int .i64 x, .slice A n cA], .int .i64 a, .int .u64 (uz z), .int .i64 s, .slice X nx cX, .slice W nw cW] w (PairTo (lineU ⟨c, h, x, ls⟩ a z s xs ws) (okLn ⟨c, h, x, ls⟩ s xs ws) w) := by
  have HX := Lib.hid hx; have LX := Lib.hid ln; have HXR := Lib.hid hX; have LXX := Lib.hid lx; have HWR := Lib.hid hW; have LWW := Lib.hid lw
  have NO : Hid (okLn ⟨c, h, x, ls⟩ s xs ws = false → lineU ⟨c, h, x, ls⟩ a z s xs ws = []) := fun e => if_neg (by rw [e]; decide)
  have hn1 : n ≤ 1000 := by omega
  obtain ⟨tw, htw⟩ : ∃ tw, tw = totW (knN ⟨c, h, x, ls⟩) := ⟨_, rfl⟩
  have HTW := Lib.hid htw
  clear hx ln hX lx hW lw htw
  go_enter Try.func6, Try.ntmps6
  go_wp2_with fail
  refine (find13 c h x A cA n ls a z s _ (HX.out.below ((Below.refl _ w).alloc (Nat.le_refl _) _)) LX.out hn).mono ?_
  rintro e w1 ⟨V, rfl, hV, hb⟩
  have B1 := Lib.hid (chain ((Below.refl w.heap.size w).alloc (Nat.le_refl _) _) hb)
  have N1 := Lib.hid ((NB.new w c h x (.slice A n cA)).below hb)
  have TV := Lib.hid hV
  obtain ⟨is, his⟩ : ∃ is, is = isSt ⟨c, h, x, ls⟩ s := ⟨_, rfl⟩
  rw [← his]
  have IS := Lib.hid his
  clear hb hV his
  obtain ⟨c0, c1, c2, c3⟩ := N1.out.cells
  go_wp2_with fail
  refine (all_any c h x A cA n ls _ (HX.out.below B1.out) LX.out hn1).mono ?_
  rintro e w2 ⟨rfl, hb⟩
  rw [← HTW.out]
  have B2 := Lib.hid (chain B1.out hb)
  clear hb B1 N1 c0 c1 c2 c3
  rcases TV.out with ⟨hst, rfl⟩ | ⟨hst, hsl, rfl⟩ | ⟨hst, k, rfl, hks, rfl⟩
  · obtain rfl : is = false := IS.out.trans hst
    have E0 : Hid (okLn ⟨c, h, x, ls⟩ s xs ws = false) := decide_eq_false fun q => by rw [hst] at q; cases q.1
    clear hst
    have E1 := Lib.hid (NO.out E0.out)
    go_wp2_with fail
    go_ret2
    rw [E0.out, E1.out]
    exact ⟨none, 0, 0, rfl, rfl, Rg.nil _ _ _, B2.out, Nat.le_refl _, Nat.zero_le _⟩
  · obtain rfl : is = true := IS.out.trans hst
    obtain ⟨kn, hkn⟩ : ∃ kn, kn = inN ⟨c, h, x, ls⟩ s := ⟨_, rfl⟩
    rw [← hkn]
    have HKN := Lib.hid hkn
    have he := (isSt_out hst).1
    unfold lastV
    clear hkn TV
    have mt := fun w => ml_takes kn w
    have mn := fun w => ml_line kn w
    have CT : Hid (∀ w, Calls Try.prog 102 #[.agg #[.int .i64 kn]] w fun e w' => e = .returned (.int .i64 kn) ∧ Below w.heap.size w w') := fun w => ltakes13 kn w
    go_wp2_with fail
    refine (CT.out _).mono ?_
    rintro e w3 ⟨rfl, hb⟩
    have B3 := Lib.hid (chain B2.out hb)
    clear hb B2
    by_cases hxn : ¬ (nx : Int) = kn
    · have b1 : ((nx : Int) != kn) = true := by simpa using hxn
      have E0 : Hid (okLn ⟨c, h, x, ls⟩ s xs ws = false) := decide_eq_false fun q => hxn (by rw [LXX.out, HKN.out]; exact q.2.1)
      have E1 := Lib.hid (NO.out E0.out)
      clear hxn
      go_wp2_with fail
      go_ret2
      rw [E0.out, E1.out]
      exact ⟨none, 0, 0, rfl, rfl, Rg.nil _ _ _, B3.out, Nat.le_refl _, Nat.zero_le _⟩
    have hxn : (nx : Int) = kn := Decidable.not_not.1 hxn
    have b1 : ((nx : Int) != kn) = false := by rw [hxn]; simp
    by_cases hwn : ¬ (nw : Int) = tw
    · have b2 : ((nw : Int) != tw) = true := by simpa using hwn
      have E0 : Hid (okLn ⟨c, h, x, ls⟩ s xs ws = false) := decide_eq_false fun q => hwn (by rw [LWW.out, HTW.out]; exact q.2.2)
      have E1 := Lib.hid (NO.out E0.out)
      clear hwn hxn
      go_wp2_with fail
      go_ret2
      rw [E0.out, E1.out]
      exact ⟨none, 0, 0, rfl, rfl, Rg.nil _ _ _, B3.out, Nat.le_refl _, Nat.zero_le _⟩
    have hwn : (nw : Int) = tw := Decidable.not_not.1 hwn
    have b2 : ((nw : Int) != tw) = false := by rw [hwn]; simp
    have hok : okLn ⟨c, h, x, ls⟩ s xs ws = true := decide_eq_true ⟨hst, by rw [← LXX.out, hxn]; exact HKN.out, by rw [← LWW.out, hwn]; exact HTW.out⟩
    have HOK := Lib.hid hok
    have kb : 1 ≤ kn ∧ kn ≤ 128 := by
      have q := HKN.out
      rw [hsl, in_last he] at q
      obtain ⟨r, f3, t, _⟩ := ok_all he
      have er : (endS ⟨c, h, x⟩ ls).r = true := end_right _ _ r f3 t
      have := size_pos er
      have := (size_bd (endS ⟨c, h, x⟩ ls)).2
      omega
    have E1 : Hid (lineU ⟨c, h, x, ls⟩ a z s xs ws = xs) := by show _ = _; unfold lineU; rw [if_pos hok, if_pos hsl]
    have nx0 : 0 < nx := by omega
    have nx1 : nx ≤ 100000 := by omega
    have CL : Hid (∀ w', Rg ucells w' X xs → Calls Try.prog 101 #[.agg #[.int .i64 kn], .slice X nx cX, .slice W nw cW] w' (RowTo ucells xs w')) := fun w' q => lline13 kn X W nx cX nw cW xs w' q LXX.out nx0 nx1
    clear hok hst hsl he hxn hwn kb nx0 nx1
    go_wp2_with fail
    refine (CL.out _ (HXR.out.below B3.out)).mono ?_
    rintro e w4 ⟨A4, k4, n4, rfl, p1, p2, hb, p3, p4⟩
    have B4 := Lib.hid (chain B3.out hb)
    have P1 := Lib.hid p1; have P2 := Lib.hid p2; have P3 := Lib.hid p3; have P4 := Lib.hid p4
    clear p1 p2 p3 p4 hb B3
    go_wp2_with fail
    go_ret2
    rw [HOK.out, E1.out]
    exact ⟨A4, k4, n4, rfl, P1.out, P2.out, B4.out, P3.out, P4.out⟩
  · obtain rfl : is = true := IS.out.trans hst
    obtain ⟨kn, hkn⟩ : ∃ kn, kn = inN ⟨c, h, x, ls⟩ (k : Int) := ⟨_, rfl⟩
    obtain ⟨l, hl⟩ : ∃ l, l = stgN ⟨c, h, x, ls⟩ k := ⟨_, rfl⟩
    obtain ⟨f, hf⟩ : ∃ f, f = fromN ⟨c, h, x, ls⟩ k := ⟨_, rfl⟩
    obtain ⟨u, hu⟩ : ∃ u : Nat, (atN ⟨c, h, x, ls⟩ (l : Int)).u.n = (u : Int) := ⟨(atN ⟨c, h, x, ls⟩ (l : Int)).u.n.toNat, by have := size_bd (atN ⟨c, h, x, ls⟩ (l : Int)).u; omega⟩
    rw [← hkn, ← hl, ← hf, hu]
    have HKN := Lib.hid hkn
    have he := (isSt_out hst).1
    have HLH := Lib.hid hl; have HFH := Lib.hid hf; have HUH := Lib.hid hu; have HKS := Lib.hid hks
    unfold prodV
    clear hkn TV hl hf hu hks
    have mt := fun w => mp_takes c h x A n cA a z ((l : Nat) : Int) ((f : Nat) : Int) kn (u : Int) w
    have mn := fun w => mp_line c h x A n cA a z ((l : Nat) : Int) ((f : Nat) : Int) kn (u : Int) w
    have CT : Hid (∀ w, Calls Try.prog 105 #[.agg #[.int .i64 c, .int .i64 h, .int .i64 x, .slice A n cA, .int .i64 a, .int .u64 (uz z), .int .i64 (l : Int), .int .i64 (f : Int), .int .i64 kn, .int .i64 (u : Int)]] w fun e w' => e = .returned (.int .i64 kn) ∧ Below w.heap.size w w') := fun w => ptakes13 c h x A n cA a z (l : Int) (f : Int) kn (u : Int) w
    go_wp2_with fail
    refine (CT.out _).mono ?_
    rintro e w3 ⟨rfl, hb⟩
    have B3 := Lib.hid (chain B2.out hb)
    clear hb B2
    by_cases hxn : ¬ (nx : Int) = kn
    · have b1 : ((nx : Int) != kn) = true := by simpa using hxn
      have E0 : Hid (okLn ⟨c, h, x, ls⟩ (k : Int) xs ws = false) := decide_eq_false fun q => hxn (by rw [LXX.out, HKN.out]; exact q.2.1)
      have E1 := Lib.hid (NO.out E0.out)
      clear hxn
      go_wp2_with fail
      go_ret2
      rw [E0.out, E1.out]
      exact ⟨none, 0, 0, rfl, rfl, Rg.nil _ _ _, B3.out, Nat.le_refl _, Nat.zero_le _⟩
    have hxn : (nx : Int) = kn := Decidable.not_not.1 hxn
    have b1 : ((nx : Int) != kn) = false := by rw [hxn]; simp
    by_cases hwn : ¬ (nw : Int) = tw
    · have b2 : ((nw : Int) != tw) = true := by simpa using hwn
      have E0 : Hid (okLn ⟨c, h, x, ls⟩ (k : Int) xs ws = false) := decide_eq_false fun q => hwn (by rw [LWW.out, HTW.out]; exact q.2.2)
      have E1 := Lib.hid (NO.out E0.out)
      clear hwn hxn
      go_wp2_with fail
      go_ret2
      rw [E0.out, E1.out]
      exact ⟨none, 0, 0, rfl, rfl, Rg.nil _ _ _, B3.out, Nat.le_refl _, Nat.zero_le _⟩
    have hwn : (nw : Int) = tw := Decidable.not_not.1 hwn
    have b2 : ((nw : Int) != tw) = false := by rw [hwn]; simp
    have hok : okLn ⟨c, h, x, ls⟩ (k : Int) xs ws = true := decide_eq_true ⟨hst, by rw [← LXX.out, hxn]; exact HKN.out, by rw [← LWW.out, hwn]; exact HTW.out⟩
    have HOK := Lib.hid hok
    have E1 : Hid (lineU ⟨c, h, x, ls⟩ a z (k : Int) xs ws = goesU ⟨c, h, x, ls⟩ a z k xs ws) := by show _ = _; unfold lineU; rw [if_pos hok, if_neg (by have := HKS.out; omega), Int.toNat_natCast]
    have hxi : (xs.length : Int) = inN ⟨c, h, x, ls⟩ (k : Nat) := by rw [← LXX.out, hxn]; exact HKN.out
    have hwi : (ws.length : Int) = totW (knN ⟨c, h, x, ls⟩) := by rw [← LWW.out, hwn]; exact HTW.out
    have CL : Hid (∀ w', Rl w' A ls → Rg ucells w' X xs → Rg ucells w' W ws → Calls Try.prog 104 #[.agg #[.int .i64 c, .int .i64 h, .int .i64 x, .slice A n cA, .int .i64 a, .int .u64 (uz z), .int .i64 (l : Int), .int .i64 (f : Int), .int .i64 kn, .int .i64 (u : Int)], .slice X nx cX, .slice W nw cW] w' (RowTo ucells (goesU ⟨c, h, x, ls⟩ a z k xs ws) w')) := fun w' q1 q2 q3 => pline13 c h x A X W cA n nx cX nw cW ls xs ws a z k l f u kn w' q1 LX.out hn q2 LXX.out q3 LWW.out he HKS.out HLH.out HFH.out HUH.out hxi hwi
    clear hok hst he hxn hwn hxi hwi
    go_wp2_with fail
    refine (CL.out _ (HX.out.below B3.out) (HXR.out.below B3.out) (HWR.out.below B3.out)).mono ?_
    rintro e w4 ⟨A4, k4, n4, rfl, p1, p2, hb, p3, p4⟩
    have B4 := Lib.hid (chain B3.out hb)
    have P1 := Lib.hid p1; have P2 := Lib.hid p2; have P3 := Lib.hid p3; have P4 := Lib.hid p4
    clear p1 p2 p3 p4 hb B3
    go_wp2_with fail
    go_ret2
    rw [HOK.out, E1.out]
    exact ⟨A4, k4, n4, rfl, P1.out, P2.out, B4.out, P3.out, P4.out⟩

set_option maxHeartbeats 4000000 in
set_option maxRecDepth 100000 in
theorem next13 (c h x : Int) (A X Y : Option Addr) (cA n cX nx cY ny : Nat) (ls : List Ly) (ms ts : List UInt64) (a : Int) (z : UInt64) (s : Int) (w : World) (hx : Rl w A ls) (ln : n = ls.length) (hn : n ≤ 60) (hX : Rg ucells w X ms) (lx : nx = ms.length) (hY : Rg ucells w Y ts) (ly : ny = ts.length) :
    Calls Try.prog 8 #[.agg #[.int .i64 c, .int .i64 h, .int .i64 x, .slice A n cA], .int .i64 a, .int .u64 (uz z), .int .i64 s, .slice X nx cX, .slice Y ny cY] w (PairTo (nextU ⟨c, h, x, ls⟩ a z s ms ts) (okNx ⟨c, h, x, ls⟩ s ms ts) w) := by
  have HX := Lib.hid hx; have LX := Lib.hid ln; have HXR := Lib.hid hX; have LXX := Lib.hid lx; have HYR := Lib.hid hY; have LYY := Lib.hid ly
  have NO : Hid (okNx ⟨c, h, x, ls⟩ s ms ts = false → nextU ⟨c, h, x, ls⟩ a z s ms ts = []) := fun e => if_neg (by rw [e]; decide)
  have hn1 : n ≤ 1000 := by omega
  obtain ⟨la, hla⟩ : ∃ la, la = (lineN ⟨c, h, x, ls⟩ s).1 := ⟨_, rfl⟩
  obtain ⟨lb, hlb⟩ : ∃ lb, lb = (lineN ⟨c, h, x, ls⟩ s).2 := ⟨_, rfl⟩
  have HLB := Lib.hid hlb
  have LN : Hid (lineN ⟨c, h, x, ls⟩ s = (la, lb)) := by show _ = _; rw [hla, hlb]
  clear hx ln hX lx hY ly hla hlb
  go_enter Try.func8, Try.ntmps8
  go_wp2_with fail
  refine (find13 c h x A cA n ls a z s _ (HX.out.below ((Below.refl _ w).alloc (Nat.le_refl _) _)) LX.out hn).mono ?_
  rintro e w1 ⟨V, rfl, hV, hb⟩
  have B1 := Lib.hid (chain ((Below.refl w.heap.size w).alloc (Nat.le_refl _) _) hb)
  have N1 := Lib.hid ((NB.new w c h x (.slice A n cA)).below hb)
  have TV := Lib.hid hV
  obtain ⟨is, his⟩ : ∃ is, is = isSt ⟨c, h, x, ls⟩ s := ⟨_, rfl⟩
  rw [← his]
  have IS := Lib.hid his
  clear hb hV his
  obtain ⟨c0, c1, c2, c3⟩ := N1.out.cells
  go_wp2_with fail
  refine (gline8 c h x A cA n ls s la lb LN.out _ (HX.out.below B1.out) LX.out hn).mono ?_
  rintro e w2 ⟨rfl, hb⟩
  have B2 := Lib.hid (chain B1.out hb)
  clear hb B1 N1 c0 c1 c2 c3
  by_cases hst : isSt ⟨c, h, x, ls⟩ s = false
  · obtain rfl : is = false := IS.out.trans hst
    have E0 : Hid (okNx ⟨c, h, x, ls⟩ s ms ts = false) := decide_eq_false fun q => by rw [hst] at q; cases q.1
    clear hst
    have E1 := Lib.hid (NO.out E0.out)
    go_wp2_with fail
    go_ret2
    rw [E0.out, E1.out]
    exact ⟨none, 0, 0, rfl, rfl, Rg.nil _ _ _, B2.out, Nat.le_refl _, Nat.zero_le _⟩
  have hst : isSt ⟨c, h, x, ls⟩ s = true := by simpa using hst
  obtain rfl : is = true := IS.out.trans hst
  have HST := Lib.hid hst
  clear hst
  by_cases hxn : ¬ (nx : Int) = lb
  · have b1 : ((nx : Int) != lb) = true := by simpa using hxn
    have E0 : Hid (okNx ⟨c, h, x, ls⟩ s ms ts = false) := decide_eq_false fun q => hxn (by rw [LXX.out, HLB.out]; exact q.2.1)
    clear hxn
    have E1 := Lib.hid (NO.out E0.out)
    go_wp2_with fail
    go_ret2
    rw [E0.out, E1.out]
    exact ⟨none, 0, 0, rfl, rfl, Rg.nil _ _ _, B2.out, Nat.le_refl _, Nat.zero_le _⟩
  have hxn : (nx : Int) = lb := Decidable.not_not.1 hxn
  have b1 : ((nx : Int) != lb) = false := by rw [hxn]; simp
  by_cases hyn : ¬ (ny : Int) = lb
  · have b2 : ((ny : Int) != lb) = true := by simpa using hyn
    have E0 : Hid (okNx ⟨c, h, x, ls⟩ s ms ts = false) := decide_eq_false fun q => hyn (by rw [LYY.out, HLB.out]; exact q.2.2)
    clear hxn hyn
    have E1 := Lib.hid (NO.out E0.out)
    go_wp2_with fail
    go_ret2
    rw [E0.out, E1.out]
    exact ⟨none, 0, 0, rfl, rfl, Rg.nil _ _ _, B2.out, Nat.le_refl _, Nat.zero_le _⟩
  have hyn : (ny : Int) = lb := Decidable.not_not.1 hyn
  have b2 : ((ny : Int) != lb) = false := by rw [hyn]; simp
  have HOK : Hid (okNx ⟨c, h, x, ls⟩ s ms ts = true) := decide_eq_true ⟨HST.out, by rw [← LXX.out, hxn]; exact HLB.out, by rw [← LYY.out, hyn]; exact HLB.out⟩
  have HXN := Lib.hid hxn; have HYN := Lib.hid hyn
  have he := (isSt_out HST.out).1
  have HE := Lib.hid he
  have nb : nx ≤ 1000000 := by
    rcases TV.out with ⟨q, _⟩ | ⟨_, hsl, _⟩ | ⟨_, k, hk, hks, _⟩
    · have := HST.out; rw [q] at this; cases this
    · have q := HLB.out
      rw [hsl, line_last he] at q
      have := (size_bd (endS ⟨c, h, x⟩ ls)).2
      omega
    · have q := HLB.out
      rw [hk, line_many he hks] at q
      have bd := many_bd he hks
      have gb := gates_bd (c := c) (h := h) (x := x) (ls := ls)
      omega
  have xy : nx = ny := by omega
  have CA : Hid (∀ w', Rg ucells w' X ms → Rg ucells w' Y ts → Calls Try.prog 17 #[.slice X nx cX, .slice Y ny cY] w' (RowNew ucells (addU ms ts) w')) := fun w' q1 q2 => add10 X Y cX cY nx ny ms ts w' q1 q2 LXX.out LYY.out nb
  have XY : Hid (ms.length = ts.length) := by show _ = _; rw [← LXX.out, ← LYY.out]; exact xy
  clear hxn hyn he nb xy
  rcases TV.out with ⟨q, _⟩ | ⟨_, hsl, rfl⟩ | ⟨_, k, rfl, hks, rfl⟩
  · have := HST.out; rw [q] at this; cases this
  · obtain ⟨kn, hkn⟩ : ∃ kn, kn = inN ⟨c, h, x, ls⟩ s := ⟨_, rfl⟩
    rw [← hkn]
    have mb := fun w => ml_behind kn w
    have na := fun w => na_last kn w
    have E1 : Hid (nextU ⟨c, h, x, ls⟩ a z s ms ts = addU ms ts) := by show _ = _; unfold nextU; rw [if_pos HOK.out, if_pos hsl]
    have CB : Hid (∀ w' A' n' k', n' = (addU ms ts).length → n' ≤ k' → k' ≤ maxLen → Rl w' A ls → Rg ucells w' A' (addU ms ts) → Calls Try.prog 100 #[.agg #[.int .i64 kn], .slice A' n' k'] w' (RowTo ucells (addU ms ts) w')) := fun w' A' n' k' q1 q2 q3 q4 q5 => (lbehind13 kn A' n' k' w').mono fun e w'' q => ⟨A', k', n', q.1, q1, q5.below q.2, q.2, q2, q3⟩
    unfold lastV
    clear hkn TV hsl
    go_wp2_with fail
    refine wp_region_noPanic ?_
    refine wp_region_held_drew (S := fun w' => True) (by kernel_rfl) trivial (fun hHeld => ?_)
    have hd := below_drew w2
    generalize w2.drew = wq1 at hHeld hd ⊢
    have BD : Hid (Below wq1.heap.size wq1 wq1) := Below.refl _ _
    refine wpAnyH_take (i := 0) (v := ?vv3001) (by simp only [List.getElem?_toArray, List.getElem?_cons_zero]; rfl) (by kernel_rfl) (by kernel_rfl) (by kernel_rfl) (fun _ _ _ h => h) (Or.inl ⟨by rfl, ?yy3001⟩) (by assumption) ?rr3001
    case yy3001 => (intro w hSw; (try dsimp only at hSw); go_simp; first | done | with_reducible rfl)
    simp only [Act.put, List.setIfInBounds_toArray, List.set_cons_zero, List.set_cons_succ]
    refine wpAnyH_take (i := 1) (v := ?vv3002) (by simp only [List.getElem?_toArray, List.getElem?_cons_zero, List.getElem?_cons_succ]; rfl) (by kernel_rfl) (by kernel_rfl) (by kernel_rfl) (fun _ _ _ h => h) (Or.inl ⟨by rfl, ?yy3002⟩) (by assumption) ?rr3002
    case yy3002 => (intro w hSw; (try dsimp only at hSw); go_simp; first | done | with_reducible rfl)
    simp only [Act.put, List.setIfInBounds_toArray, List.set_cons_zero, List.set_cons_succ]
    refine wpAnyH_take (i := 2) (v := ?vv3003) (by simp only [List.getElem?_toArray, List.getElem?_cons_zero, List.getElem?_cons_succ]; rfl) (by kernel_rfl) (by kernel_rfl) (by kernel_rfl) (fun _ _ _ h => h) (Or.inl ⟨by rfl, ?yy3003⟩) (by assumption) ?rr3003
    case yy3003 => (intro w hSw; (try dsimp only at hSw); go_simp; first | done | with_reducible rfl)
    simp only [Act.put, List.setIfInBounds_toArray, List.set_cons_zero, List.set_cons_succ]
    refine wpAnyH_take (i := 4) (v := ?vv3004) (by simp only [List.getElem?_toArray, List.getElem?_cons_zero, List.getElem?_cons_succ]; rfl) (by kernel_rfl) (by kernel_rfl) (by kernel_rfl) (fun _ _ _ h => h) (Or.inl ⟨by rfl, ?yy3004⟩) (by assumption) ?rr3004
    case yy3004 => (intro w hSw; (try dsimp only at hSw); go_simp; first | done | with_reducible rfl)
    simp only [Act.put, List.setIfInBounds_toArray, List.set_cons_zero, List.set_cons_succ]
    refine wpAnyH_take (i := 5) (v := ?vv3005) (by simp only [List.getElem?_toArray, List.getElem?_cons_zero, List.getElem?_cons_succ]; rfl) (by kernel_rfl) (by kernel_rfl) (by kernel_rfl) (fun _ _ _ h => h) (Or.inl ⟨by rfl, ?yy3005⟩) (by assumption) ?rr3005
    case yy3005 => (intro w hSw; (try dsimp only at hSw); go_simp; first | done | with_reducible rfl)
    simp only [Act.put, List.setIfInBounds_toArray, List.set_cons_zero, List.set_cons_succ]
    refine wpAnyH_take (i := 6) (v := ?vv3006) (by simp only [List.getElem?_toArray, List.getElem?_cons_zero, List.getElem?_cons_succ]; rfl) (by kernel_rfl) (by kernel_rfl) (by kernel_rfl) (fun _ _ _ h => h) (Or.inl ⟨by rfl, ?yy3006⟩) (by assumption) ?rr3006
    case yy3006 => (intro w hSw; (try dsimp only at hSw); go_simp; first | done | with_reducible rfl)
    simp only [Act.put, List.setIfInBounds_toArray, List.set_cons_zero, List.set_cons_succ]
    refine wpAnyH_ready (rs := [3]) (by kernel_rfl) (by simp) ?_
    refine AllReadyH.cons (by simp only [List.getElem?_toArray, List.getElem?_cons_zero, List.getElem?_cons_succ]; rfl) (fun K hK => ?_) ?_
    · skip
      go_simp
      (with_reducible refine (CA.out _ (HXR.out.below (chain B2.out (chain hd BD.out))) (HYR.out.below (chain B2.out (chain hd BD.out)))).mono ?_)
      rintro e wq2 ⟨A3, k3, n3, rfl, r1, r2, hb, r3, r4, _⟩
      have P1 := Lib.hid r1; have P2 := Lib.hid r2; have P3 := Lib.hid r3; have P4 := Lib.hid r4
      clear hHeld r1 r2 r3 r4
      replace BD := Lib.hid (chain BD.out hb)
      clear hb
      go_wp2_with fail
      refine hK.out _ _ trivial (fun hHeld => ?_)
      clear hK K
      try simp only [Act.put, List.setIfInBounds_toArray, List.set_cons_zero, List.set_cons_succ]
      refine wpAnyH_ready (rs := [7]) (by kernel_rfl) (by simp) ?_
      refine AllReadyH.cons (by simp only [List.getElem?_toArray, List.getElem?_cons_zero, List.getElem?_cons_succ]; rfl) (fun K hK => ?_) ?_
      · skip
        go_simp
        (with_reducible refine (CB.out _ A3 n3 k3 P1.out P3.out P4.out (HX.out.below (chain B2.out (chain hd BD.out))) P2.out).mono ?_)
        rintro e wq3 ⟨A4, k4, n4, rfl, r1, r2, hb, r3, r4⟩
        have R1 := Lib.hid r1; have R2 := Lib.hid r2; have R3 := Lib.hid r3; have R4 := Lib.hid r4
        clear hHeld r1 r2 r3 r4
        replace BD := Lib.hid (chain BD.out hb)
        clear hb
        go_wp2_with fail
        refine hK.out _ _ trivial (fun hHeld => ?_)
        clear hK K
        try simp only [Act.put, List.setIfInBounds_toArray, List.set_cons_zero, List.set_cons_succ]
        refine wpAnyH_take (i := 8) (v := ?vv3007) (by simp only [List.getElem?_toArray, List.getElem?_cons_zero, List.getElem?_cons_succ]; rfl) (by kernel_rfl) (by kernel_rfl) (by kernel_rfl) (fun _ _ _ h => h) (Or.inl ⟨by rfl, ?yy3007⟩) (by assumption) ?rr3007
        case yy3007 => (intro w hSw; (try dsimp only at hSw); go_simp; first | done | with_reducible rfl)
        simp only [Act.put, List.setIfInBounds_toArray, List.set_cons_zero, List.set_cons_succ]
        refine wpAnyH_take (i := 9) (v := ?vv3008) (by simp only [List.getElem?_toArray, List.getElem?_cons_zero, List.getElem?_cons_succ]; rfl) (by kernel_rfl) (by kernel_rfl) (by kernel_rfl) (fun _ _ _ h => h) (Or.inl ⟨by rfl, ?yy3008⟩) (by assumption) ?rr3008
        case yy3008 => (intro w hSw; (try dsimp only at hSw); go_simp; first | done | with_reducible rfl)
        simp only [Act.put, List.setIfInBounds_toArray, List.set_cons_zero, List.set_cons_succ]
        refine wpAnyH_done (by kernel_rfl) ?_ _
        refine NoPanic.normal ?_
        clear hHeld
        have BF := Lib.hid (chain B2.out (chain hd BD.out))
        clear hd BD
        go_wp2_with fail
        go_ret2
        rw [HOK.out, E1.out]
        exact ⟨A4, k4, n4, rfl, R1.out, R2.out, BF.out, R3.out, R4.out⟩
      exact AllReadyH.nil
    exact AllReadyH.nil
  · obtain ⟨kn, hkn⟩ : ∃ kn, kn = inN ⟨c, h, x, ls⟩ (k : Int) := ⟨_, rfl⟩
    obtain ⟨l, hl⟩ : ∃ l, l = stgN ⟨c, h, x, ls⟩ k := ⟨_, rfl⟩
    obtain ⟨f, hf⟩ : ∃ f, f = fromN ⟨c, h, x, ls⟩ k := ⟨_, rfl⟩
    obtain ⟨u, hu⟩ : ∃ u : Nat, (atN ⟨c, h, x, ls⟩ (l : Int)).u.n = (u : Int) := ⟨(atN ⟨c, h, x, ls⟩ (l : Int)).u.n.toNat, by have := size_bd (atN ⟨c, h, x, ls⟩ (l : Int)).u; omega⟩
    rw [← hkn, ← hl, ← hf, hu]
    have mb := fun w => mp_behind c h x A n cA a z ((l : Nat) : Int) ((f : Nat) : Int) kn (u : Int) w
    have na := fun w => na_products c h x A n cA a z ((l : Nat) : Int) ((f : Nat) : Int) kn (u : Int) w
    obtain ⟨us, hus⟩ : ∃ us, us = poolsU ⟨c, h, x, ls⟩ (l + 1) (sumsU ⟨c, h, x, ls⟩ a z k ms ts) := ⟨_, rfl⟩
    have E1 : Hid (nextU ⟨c, h, x, ls⟩ a z (k : Int) ms ts = us) := by show _ = _; unfold nextU; rw [if_pos HOK.out, if_neg (by omega), Int.toNat_natCast, hus, hl]
    have lmm : ms.length = 2 * manyN ⟨c, h, x, ls⟩ k := by
      have q := HLB.out
      rw [line_many HE.out hks, ← HXN.out, LXX.out] at q
      omega
    have ltt : ts.length = 2 * manyN ⟨c, h, x, ls⟩ k := by rw [← XY.out]; exact lmm
    have CB : Hid (∀ w' A' n' k', n' = (addU ms ts).length → n' ≤ k' → k' ≤ maxLen → Rl w' A ls → Rg ucells w' A' (addU ms ts) → Calls Try.prog 103 #[.agg #[.int .i64 c, .int .i64 h, .int .i64 x, .slice A n cA, .int .i64 a, .int .u64 (uz z), .int .i64 (l : Int), .int .i64 (f : Int), .int .i64 kn, .int .i64 (u : Int)], .slice A' n' k'] w' (RowTo ucells us w')) := fun w' A' n' k' q1 q2 q3 q4 q5 => by
      rw [hus]
      exact pbehind13 c h x A A' cA n n' k' ls ms ts a z k l f u kn w' q4 LX.out hn q5 q1 q2 HE.out hks hl hf hu lmm ltt
    unfold prodV
    clear hkn TV hks hl hf hu hus lmm ltt
    go_wp2_with fail
    refine wp_region_noPanic ?_
    refine wp_region_held_drew (S := fun w' => True) (by kernel_rfl) trivial (fun hHeld => ?_)
    have hd := below_drew w2
    generalize w2.drew = wq1 at hHeld hd ⊢
    have BD : Hid (Below wq1.heap.size wq1 wq1) := Below.refl _ _
    refine wpAnyH_take (i := 0) (v := ?vv4001) (by simp only [List.getElem?_toArray, List.getElem?_cons_zero]; rfl) (by kernel_rfl) (by kernel_rfl) (by kernel_rfl) (fun _ _ _ h => h) (Or.inl ⟨by rfl, ?yy4001⟩) (by assumption) ?rr4001
    case yy4001 => (intro w hSw; (try dsimp only at hSw); go_simp; first | done | with_reducible rfl)
    simp only [Act.put, List.setIfInBounds_toArray, List.set_cons_zero, List.set_cons_succ]
    refine wpAnyH_take (i := 1) (v := ?vv4002) (by simp only [List.getElem?_toArray, List.getElem?_cons_zero, List.getElem?_cons_succ]; rfl) (by kernel_rfl) (by kernel_rfl) (by kernel_rfl) (fun _ _ _ h => h) (Or.inl ⟨by rfl, ?yy4002⟩) (by assumption) ?rr4002
    case yy4002 => (intro w hSw; (try dsimp only at hSw); go_simp; first | done | with_reducible rfl)
    simp only [Act.put, List.setIfInBounds_toArray, List.set_cons_zero, List.set_cons_succ]
    refine wpAnyH_take (i := 2) (v := ?vv4003) (by simp only [List.getElem?_toArray, List.getElem?_cons_zero, List.getElem?_cons_succ]; rfl) (by kernel_rfl) (by kernel_rfl) (by kernel_rfl) (fun _ _ _ h => h) (Or.inl ⟨by rfl, ?yy4003⟩) (by assumption) ?rr4003
    case yy4003 => (intro w hSw; (try dsimp only at hSw); go_simp; first | done | with_reducible rfl)
    simp only [Act.put, List.setIfInBounds_toArray, List.set_cons_zero, List.set_cons_succ]
    refine wpAnyH_take (i := 4) (v := ?vv4004) (by simp only [List.getElem?_toArray, List.getElem?_cons_zero, List.getElem?_cons_succ]; rfl) (by kernel_rfl) (by kernel_rfl) (by kernel_rfl) (fun _ _ _ h => h) (Or.inl ⟨by rfl, ?yy4004⟩) (by assumption) ?rr4004
    case yy4004 => (intro w hSw; (try dsimp only at hSw); go_simp; first | done | with_reducible rfl)
    simp only [Act.put, List.setIfInBounds_toArray, List.set_cons_zero, List.set_cons_succ]
    refine wpAnyH_take (i := 5) (v := ?vv4005) (by simp only [List.getElem?_toArray, List.getElem?_cons_zero, List.getElem?_cons_succ]; rfl) (by kernel_rfl) (by kernel_rfl) (by kernel_rfl) (fun _ _ _ h => h) (Or.inl ⟨by rfl, ?yy4005⟩) (by assumption) ?rr4005
    case yy4005 => (intro w hSw; (try dsimp only at hSw); go_simp; first | done | with_reducible rfl)
    simp only [Act.put, List.setIfInBounds_toArray, List.set_cons_zero, List.set_cons_succ]
    refine wpAnyH_take (i := 6) (v := ?vv4006) (by simp only [List.getElem?_toArray, List.getElem?_cons_zero, List.getElem?_cons_succ]; rfl) (by kernel_rfl) (by kernel_rfl) (by kernel_rfl) (fun _ _ _ h => h) (Or.inl ⟨by rfl, ?yy4006⟩) (by assumption) ?rr4006
    case yy4006 => (intro w hSw; (try dsimp only at hSw); go_simp; first | done | with_reducible rfl)
    simp only [Act.put, List.setIfInBounds_toArray, List.set_cons_zero, List.set_cons_succ]
    refine wpAnyH_ready (rs := [3]) (by kernel_rfl) (by simp) ?_
    refine AllReadyH.cons (by simp only [List.getElem?_toArray, List.getElem?_cons_zero, List.getElem?_cons_succ]; rfl) (fun K hK => ?_) ?_
    · skip
      go_simp
      (with_reducible refine (CA.out _ (HXR.out.below (chain B2.out (chain hd BD.out))) (HYR.out.below (chain B2.out (chain hd BD.out)))).mono ?_)
      rintro e wq2 ⟨A3, k3, n3, rfl, r1, r2, hb, r3, r4, _⟩
      have P1 := Lib.hid r1; have P2 := Lib.hid r2; have P3 := Lib.hid r3; have P4 := Lib.hid r4
      clear hHeld r1 r2 r3 r4
      replace BD := Lib.hid (chain BD.out hb)
      clear hb
      go_wp2_with fail
      refine hK.out _ _ trivial (fun hHeld => ?_)
      clear hK K
      try simp only [Act.put, List.setIfInBounds_toArray, List.set_cons_zero, List.set_cons_succ]
      refine wpAnyH_ready (rs := [7]) (by kernel_rfl) (by simp) ?_
      refine AllReadyH.cons (by simp only [List.getElem?_toArray, List.getElem?_cons_zero, List.getElem?_cons_succ]; rfl) (fun K hK => ?_) ?_
      · skip
        go_simp
        (with_reducible refine (CB.out _ A3 n3 k3 P1.out P3.out P4.out (HX.out.below (chain B2.out (chain hd BD.out))) P2.out).mono ?_)
        rintro e wq3 ⟨A4, k4, n4, rfl, r1, r2, hb, r3, r4⟩
        have R1 := Lib.hid r1; have R2 := Lib.hid r2; have R3 := Lib.hid r3; have R4 := Lib.hid r4
        clear hHeld r1 r2 r3 r4
        replace BD := Lib.hid (chain BD.out hb)
        clear hb
        go_wp2_with fail
        refine hK.out _ _ trivial (fun hHeld => ?_)
        clear hK K
        try simp only [Act.put, List.setIfInBounds_toArray, List.set_cons_zero, List.set_cons_succ]
        refine wpAnyH_take (i := 8) (v := ?vv4007) (by simp only [List.getElem?_toArray, List.getElem?_cons_zero, List.getElem?_cons_succ]; rfl) (by kernel_rfl) (by kernel_rfl) (by kernel_rfl) (fun _ _ _ h => h) (Or.inl ⟨by rfl, ?yy4007⟩) (by assumption) ?rr4007
        case yy4007 => (intro w hSw; (try dsimp only at hSw); go_simp; first | done | with_reducible rfl)
        simp only [Act.put, List.setIfInBounds_toArray, List.set_cons_zero, List.set_cons_succ]
        refine wpAnyH_take (i := 9) (v := ?vv4008) (by simp only [List.getElem?_toArray, List.getElem?_cons_zero, List.getElem?_cons_succ]; rfl) (by kernel_rfl) (by kernel_rfl) (by kernel_rfl) (fun _ _ _ h => h) (Or.inl ⟨by rfl, ?yy4008⟩) (by assumption) ?rr4008
        case yy4008 => (intro w hSw; (try dsimp only at hSw); go_simp; first | done | with_reducible rfl)
        simp only [Act.put, List.setIfInBounds_toArray, List.set_cons_zero, List.set_cons_succ]
        refine wpAnyH_done (by kernel_rfl) ?_ _
        refine NoPanic.normal ?_
        clear hHeld
        have BF := Lib.hid (chain B2.out (chain hd BD.out))
        clear hd BD
        go_wp2_with fail
        go_ret2
        rw [HOK.out, E1.out]
        exact ⟨A4, k4, n4, rfl, R1.out, R2.out, BF.out, R3.out, R4.out⟩
      exact AllReadyH.nil
    exact AllReadyH.nil

end Go.Proofs.Ytklgjhldebdegaa

namespace Go.Proofs.Ytklgjhldebdegaa
open Go.RowKit

set_option maxHeartbeats 1000000 in
set_option maxRecDepth 100000 in
theorem great13 (c h x : Int) (A : Option Addr) (cA n : Nat) (R : Option Addr) (m cR : Nat) (ps : List Sl) (w : World) (r : Bool) (hr : (anyB ps || decide (60 < (n : Int))) = r) (hR : Rg slcells w R ps) (lm : m = ps.length) (hm : m ≤ 10) :
    Calls Try.prog 5 #[.agg #[.int .i64 c, .int .i64 h, .int .i64 x, .slice A n cA], .slice R m cR] w fun e w' => e = .returned (.bool r) ∧ Below w.heap.size w w' := by
  have HR := Lib.hid hR; have LM := Lib.hid lm; have HRR := Lib.hid hr
  have N0 := Lib.hid (NB.new w c h x (.slice A n cA))
  have B0 : Hid (Below w.heap.size w (w.alloc (.cells #[.int .i64 c, .int .i64 h, .int .i64 x, .slice A n cA] 26))) := (Below.refl _ w).alloc (Nat.le_refl _) _
  clear hR lm hr
  go_enter Try.func5, Try.ntmps5
  go_wp2_with fail
  generalize w.alloc (.cells #[.int .i64 c, .int .i64 h, .int .i64 x, .slice A n cA] 26) = W at N0 B0 ⊢
  go_loopg [5] m (fun g s5 wx => ∃ k : Nat, k ≤ m ∧ Hid (g = m - k) ∧ s5 = .int .i64 (k : Int) ∧ Hid (∀ j p, j < k → ps[j]? = some p → p.n ≤ 3000) ∧ Hid (Below W.heap.size W wx))
  case atStart => exact ⟨0, by omega, by show _ = _; omega, rfl, fun j p hj => absurd hj (by omega), Below.refl _ _⟩
  case round =>
    obtain ⟨k, hk, HG, rfl, AL, BK⟩ := hrel
    have BW := Lib.hid (chain B0.out BK.out)
    by_cases km : k < m
    · have ki : (k : Int) < (m : Int) := by omega
      obtain ⟨b1, o1, rfl, l1, q1⟩ := HR.out (by rw [← LM.out]; omega)
      obtain ⟨p, hp⟩ : ∃ p, ps[k]? = some p := ⟨_, List.getElem?_eq_getElem (by rw [← LM.out]; exact km)⟩
      have z0 := (BW.out.cell (p := ⟨b1, o1 + k, none⟩) l1).trans (sl_cell q1 hp)
      have HP := Lib.hid hp
      clear q1 hp
      by_cases big : 3000 < p.n
      · have d : decide (3000 < (p.n : Int)) = true := decide_eq_true (by omega)
        obtain rfl : r = true := by
          rw [← HRR.out, show anyB ps = true from List.any_eq_true.2 ⟨p, List.mem_of_getElem? HP.out, decide_eq_true big⟩]; rfl
        clear big
        go_wp2_with fail
        go_ret
        exact ⟨rfl, BW.out⟩
      · have d : decide (3000 < (p.n : Int)) = false := decide_eq_false (by omega)
        have AL2 : Hid (∀ j p, j < k + 1 → ps[j]? = some p → p.n ≤ 3000) := fun j p' hj hp' => by
          by_cases e : j = k
          · subst e
            rw [HP.out] at hp'
            rw [← Option.some.inj hp']; omega
          · exact AL.out j p' (by omega) hp'
        clear big
        go_wp2_with fail
        go_roundg (m - (k + 1))
        case measure => have := HG.out; omega
        case rel => exact ⟨k + 1, by omega, rfl, by go_num, AL2, BK⟩
    · obtain rfl : k = m := by omega
      obtain ⟨g, hg⟩ : ∃ g, decide (60 < (n : Int)) = g := ⟨_, rfl⟩
      obtain rfl : g = r := by
        rw [← HRR.out, show anyB ps = false from ?_, hg]; rfl
        unfold anyB
        rw [List.any_eq_false]
        intro p hp
        obtain ⟨j, hj, e⟩ := List.getElem_of_mem hp
        have := AL.out j p (by rw [LM.out]; exact hj) (by rw [List.getElem?_eq_getElem hj, e])
        simp; omega
      have GR := Lib.hid (great_any c h x A cA n wr g hg)
      have NW := Lib.hid (N0.out.below BK.out)
      obtain ⟨c0, c1, c2, c3⟩ := NW.out.cells
      clear hg
      go_wp2_with fail
      refine (GR.out).mono ?_
      rintro e w2 ⟨rfl, hb⟩
      have B2 := Lib.hid (chain BW.out hb)
      clear hb c0 c1 c2 c3
      go_wp2_with fail
      go_ret
      exact ⟨rfl, B2.out⟩

/-! ### The fixed questions -/

def h13 : List Ly := [⟨3, 0, 2, 0⟩, ⟨2, 0, 0, 0⟩]
def hN13 : Nt := ⟨1, 2, 2, h13⟩
def ha13 : List UInt64 := lineU hN13 0 9 0 [1] []
def hc13 : List UInt64 := lineU hN13 1 9 0 [2] []
def he13 : List UInt64 := nextU hN13 0 9 0 ha13 hc13
def hg13 : List UInt64 := nextU hN13 1 9 0 hc13 ha13
def ho13 : List UInt64 := lineU hN13 0 9 1 he13 []
def hq13 : List UInt64 := nextU hN13 1 9 1 hg13 ho13
theorem h13x : firstU hN13 [1, 0, 0, 0] = [1] ∧ okFi hN13 [1, 0, 0, 0] = true := by decide +kernel
theorem h13y : firstU hN13 [0, 0, 1, 1] = [2] ∧ okFi hN13 [0, 0, 1, 1] = true := by decide +kernel
theorem h13a : ha13.length = 2 ∧ okLn hN13 0 [1] [] = true := by decide +kernel
theorem h13c : hc13.length = 2 ∧ okLn hN13 0 [2] [] = true := by decide +kernel
theorem h13e : okNx hN13 0 ha13 hc13 = true ∧ okNx hN13 0 hc13 ha13 = true := by decide +kernel
theorem h13s : addR he13 hg13 = [9] := by decide +kernel
theorem h13l : he13.length = 1 ∧ hg13.length = 1 ∧ ho13.length = 1 ∧ hq13.length = 1 := by decide +kernel
theorem h13o : okLn hN13 1 he13 [] = true ∧ okNx hN13 1 hg13 ho13 = true := by decide +kernel
theorem h13q : hq13 = [9] := by decide +kernel
theorem h13n : okLn hN13 2 [1] [] = false := by decide +kernel

set_option maxHeartbeats 8000000 in
set_option maxRecDepth 100000 in
theorem head13_any (w : World) : Calls Try.prog 4 #[] w fun e w' => e = .returned (.bool true) ∧ Below w.heap.size w w' := by
  go_enter Try.func4, Try.ntmps4
  go_upto_region 2 with fail
  obtain ⟨bl, hbl⟩ : ∃ b, b = w.heap.size := ⟨_, rfl⟩
  rw [← hbl]
  obtain ⟨bn, hbn⟩ : ∃ b, b = bl + 1 := ⟨_, rfl⟩
  obtain ⟨w1, hw1⟩ : ∃ W, W = (w.alloc (.cells #[.int .i64 3, .int .i64 0, .int .i64 2, .int .i64 0, .int .i64 2, .int .i64 0, .int .i64 0, .int .i64 0] 39)).alloc (.cells #[.int .i64 1, .int .i64 2, .int .i64 2, .slice (some ⟨bl, 0, none⟩) 2 2] 26) := ⟨_, rfl⟩
  have RL : Hid (Rl w1 (some ⟨bl, 0, none⟩) h13) := by rw [hw1, hbl]; exact rl_blk (by repeat first | (refine new_at ?_; simp; done) | refine old_at ?_) (by rfl)
  have RN : Hid (NB w1 bn 1 2 2 (.slice (some ⟨bl, 0, none⟩) 2 2)) := by rw [hw1, hbn, hbl]; exact (by repeat first | (refine new_at ?_; simp; done) | refine old_at ?_)
  have B1 : Hid (Below w.heap.size w w1) := by rw [hw1]; exact chain_alloc (chain_alloc (Below.refl _ w) _) _
  rw [← hw1, ← hbn]
  clear hw1 hbn hbl
  obtain ⟨c0, c1, c2, c3⟩ := RN.out.cells
  have nl := RN.out.lt
  go_wp2_with fail
  have ha : Below w1.heap.size w1 (w1.alloc (.cells #[.int .u64 1, .int .u64 0, .int .u64 0, .int .u64 0] 27)) := (Below.refl _ _).alloc (Nat.le_refl _) _
  refine (first13 1 2 2 (some ⟨bl, 0, none⟩) (some ⟨w1.heap.size, 0, none⟩) 2 2 4 4 h13 [1, 0, 0, 0] _ (RL.out.below ha) rfl (by decide) (rg_block (heap_alloc_new w1 _) (by kernel_rfl)) rfl).mono ?_
  rintro e w2 ⟨Ax, kx, nx, rfl, h1, h2, hb, h4, h5⟩
  replace hb := chain ha hb
  clear h4 h5 ha
  rw [show firstU ⟨1, 2, 2, h13⟩ [1, 0, 0, 0] = [1] from h13x.1] at h1 h2
  rw [show okFi ⟨1, 2, 2, h13⟩ [1, 0, 0, 0] = true from h13x.2]
  obtain rfl : nx = 1 := h1
  have Rx := Lib.hid h2
  clear h2
  have B2 := Lib.hid (chain B1.out hb)
  replace RL := Lib.hid (RL.out.below hb)
  replace RN := Lib.hid (RN.out.below hb)
  clear hb B1 c0 c1 c2 c3 nl
  obtain ⟨c0, c1, c2, c3⟩ := RN.out.cells
  have nl := RN.out.lt
  go_wp2_with fail
  have ha : Below w2.heap.size w2 (w2.alloc (.cells #[.int .u64 0, .int .u64 0, .int .u64 1, .int .u64 1] 27)) := (Below.refl _ _).alloc (Nat.le_refl _) _
  refine (first13 1 2 2 (some ⟨bl, 0, none⟩) (some ⟨w2.heap.size, 0, none⟩) 2 2 4 4 h13 [0, 0, 1, 1] _ (RL.out.below ha) rfl (by decide) (rg_block (heap_alloc_new w2 _) (by kernel_rfl)) rfl).mono ?_
  rintro e w3 ⟨Ay, ky, ny, rfl, h1, h2, hb, h4, h5⟩
  replace hb := chain ha hb
  clear h4 h5 ha
  rw [show firstU ⟨1, 2, 2, h13⟩ [0, 0, 1, 1] = [2] from h13y.1] at h1 h2
  rw [show okFi ⟨1, 2, 2, h13⟩ [0, 0, 1, 1] = true from h13y.2]
  obtain rfl : ny = 1 := h1
  have Ry := Lib.hid h2
  clear h2
  have B3 := Lib.hid (chain B2.out hb)
  replace RL := Lib.hid (RL.out.below hb)
  replace RN := Lib.hid (RN.out.below hb)
  replace Rx := Lib.hid (Rx.out.below hb)
  clear hb B2 c0 c1 c2 c3 nl
  obtain ⟨c0, c1, c2, c3⟩ := RN.out.cells
  have nl := RN.out.lt
  go_wp2_with fail
  refine (line13 1 2 2 (some ⟨bl, 0, none⟩) Ax none 2 2 kx 1 0 0 h13 [1] [] 0 9 0 _ RL.out rfl (by decide) Rx.out rfl (Rg.nil _ _ _) rfl).mono ?_
  rintro e w4 ⟨Aa, ka, na, rfl, h1, h2, hb, h4, h5⟩
  clear h4 h5
  rw [show okLn ⟨1, 2, 2, h13⟩ 0 [1] [] = true from h13a.2]
  rw [show lineU ⟨1, 2, 2, h13⟩ 0 9 0 [1] [] = ha13 from rfl] at h1 h2
  obtain rfl : na = 2 := h1.trans h13a.1
  clear h1
  have Ra := Lib.hid h2
  clear h2
  have B4 := Lib.hid (chain B3.out hb)
  replace RL := Lib.hid (RL.out.below hb)
  replace RN := Lib.hid (RN.out.below hb)
  replace Rx := Lib.hid (Rx.out.below hb)
  replace Ry := Lib.hid (Ry.out.below hb)
  clear hb B3 c0 c1 c2 c3 nl
  obtain ⟨c0, c1, c2, c3⟩ := RN.out.cells
  have nl := RN.out.lt
  go_wp2_with fail
  refine (line13 1 2 2 (some ⟨bl, 0, none⟩) Ay none 2 2 ky 1 0 0 h13 [2] [] 1 9 0 _ RL.out rfl (by decide) Ry.out rfl (Rg.nil _ _ _) rfl).mono ?_
  rintro e w5 ⟨Ac, kc, nc, rfl, h1, h2, hb, h4, h5⟩
  clear h4 h5
  rw [show okLn ⟨1, 2, 2, h13⟩ 0 [2] [] = true from h13c.2]
  rw [show lineU ⟨1, 2, 2, h13⟩ 1 9 0 [2] [] = hc13 from rfl] at h1 h2
  obtain rfl : nc = 2 := h1.trans h13c.1
  clear h1
  have Rc := Lib.hid h2
  clear h2
  have B5 := Lib.hid (chain B4.out hb)
  replace RL := Lib.hid (RL.out.below hb)
  replace RN := Lib.hid (RN.out.below hb)
  replace Rx := Lib.hid (Rx.out.below hb)
  replace Ry := Lib.hid (Ry.out.below hb)
  replace Ra := Lib.hid (Ra.out.below hb)
  clear hb B4 c0 c1 c2 c3 nl
  obtain ⟨c0, c1, c2, c3⟩ := RN.out.cells
  have nl := RN.out.lt
  go_wp2_with fail
  refine (next13 1 2 2 (some ⟨bl, 0, none⟩) Aa Ac 2 2 ka 2 kc 2 h13 ha13 hc13 0 9 0 _ RL.out rfl (by decide) Ra.out h13a.1.symm Rc.out h13c.1.symm).mono ?_
  rintro e w6 ⟨Ae, ke, ne, rfl, h1, h2, hb, h4, h5⟩
  clear h4 h5
  rw [show okNx ⟨1, 2, 2, h13⟩ 0 ha13 hc13 = true from h13e.1]
  rw [show nextU ⟨1, 2, 2, h13⟩ 0 9 0 ha13 hc13 = he13 from rfl] at h1 h2
  obtain rfl : ne = 1 := h1.trans h13l.1
  clear h1
  have Re := Lib.hid h2
  clear h2
  have B6 := Lib.hid (chain B5.out hb)
  replace RL := Lib.hid (RL.out.below hb)
  replace RN := Lib.hid (RN.out.below hb)
  replace Rx := Lib.hid (Rx.out.below hb)
  replace Ry := Lib.hid (Ry.out.below hb)
  replace Ra := Lib.hid (Ra.out.below hb)
  replace Rc := Lib.hid (Rc.out.below hb)
  clear hb B5 c0 c1 c2 c3 nl
  obtain ⟨c0, c1, c2, c3⟩ := RN.out.cells
  have nl := RN.out.lt
  go_wp2_with fail
  refine (next13 1 2 2 (some ⟨bl, 0, none⟩) Ac Aa 2 2 kc 2 ka 2 h13 hc13 ha13 1 9 0 _ RL.out rfl (by decide) Rc.out h13c.1.symm Ra.out h13a.1.symm).mono ?_
  rintro e w7 ⟨Ag, kg, ng, rfl, h1, h2, hb, h4, h5⟩
  clear h4 h5
  rw [show okNx ⟨1, 2, 2, h13⟩ 0 hc13 ha13 = true from h13e.2]
  rw [show nextU ⟨1, 2, 2, h13⟩ 1 9 0 hc13 ha13 = hg13 from rfl] at h1 h2
  obtain rfl : ng = 1 := h1.trans h13l.2.1
  clear h1
  have Rgg := Lib.hid h2
  clear h2
  have B7 := Lib.hid (chain B6.out hb)
  replace RL := Lib.hid (RL.out.below hb)
  replace RN := Lib.hid (RN.out.below hb)
  replace Rx := Lib.hid (Rx.out.below hb)
  replace Ry := Lib.hid (Ry.out.below hb)
  replace Ra := Lib.hid (Ra.out.below hb)
  replace Rc := Lib.hid (Rc.out.below hb)
  replace Re := Lib.hid (Re.out.below hb)
  clear hb B6 c0 c1 c2 c3 nl
  obtain ⟨c0, c1, c2, c3⟩ := RN.out.cells
  have nl := RN.out.lt
  go_wp2_with fail
  refine (line13 1 2 2 (some ⟨bl, 0, none⟩) Ae none 2 2 ke 1 0 0 h13 he13 [] 0 9 1 _ RL.out rfl (by decide) Re.out h13l.1.symm (Rg.nil _ _ _) rfl).mono ?_
  rintro e w8 ⟨Ao, ko, no, rfl, h1, h2, hb, h4, h5⟩
  clear h4 h5
  rw [show okLn ⟨1, 2, 2, h13⟩ 1 he13 [] = true from h13o.1]
  rw [show lineU ⟨1, 2, 2, h13⟩ 0 9 1 he13 [] = ho13 from rfl] at h1 h2
  obtain rfl : no = 1 := h1.trans h13l.2.2.1
  clear h1
  have Ro := Lib.hid h2
  clear h2
  have B8 := Lib.hid (chain B7.out hb)
  replace RL := Lib.hid (RL.out.below hb)
  replace RN := Lib.hid (RN.out.below hb)
  replace Rx := Lib.hid (Rx.out.below hb)
  replace Ry := Lib.hid (Ry.out.below hb)
  replace Ra := Lib.hid (Ra.out.below hb)
  replace Rc := Lib.hid (Rc.out.below hb)
  replace Re := Lib.hid (Re.out.below hb)
  replace Rgg := Lib.hid (Rgg.out.below hb)
  clear hb B7 c0 c1 c2 c3 nl
  obtain ⟨c0, c1, c2, c3⟩ := RN.out.cells
  have nl := RN.out.lt
  go_wp2_with fail
  refine (next13 1 2 2 (some ⟨bl, 0, none⟩) Ag Ao 2 2 kg 1 ko 1 h13 hg13 ho13 1 9 1 _ RL.out rfl (by decide) Rgg.out h13l.2.1.symm Ro.out h13l.2.2.1.symm).mono ?_
  rintro e w9 ⟨Aq, kq, nq, rfl, h1, h2, hb, h4, h5⟩
  clear h4 h5
  rw [show okNx ⟨1, 2, 2, h13⟩ 1 hg13 ho13 = true from h13o.2]
  rw [show nextU ⟨1, 2, 2, h13⟩ 1 9 1 hg13 ho13 = hq13 from rfl] at h1 h2
  obtain rfl : nq = 1 := h1.trans h13l.2.2.2
  clear h1
  have Rq := Lib.hid h2
  clear h2
  have B9 := Lib.hid (chain B8.out hb)
  replace RL := Lib.hid (RL.out.below hb)
  replace RN := Lib.hid (RN.out.below hb)
  replace Rx := Lib.hid (Rx.out.below hb)
  replace Ry := Lib.hid (Ry.out.below hb)
  replace Ra := Lib.hid (Ra.out.below hb)
  replace Rc := Lib.hid (Rc.out.below hb)
  replace Re := Lib.hid (Re.out.below hb)
  replace Rgg := Lib.hid (Rgg.out.below hb)
  replace Ro := Lib.hid (Ro.out.below hb)
  clear hb B8 c0 c1 c2 c3 nl
  obtain ⟨c0, c1, c2, c3⟩ := RN.out.cells
  have nl := RN.out.lt
  go_wp2_with fail
  refine (line13 1 2 2 (some ⟨bl, 0, none⟩) Ax none 2 2 kx 1 0 0 h13 [1] [] 0 9 2 _ RL.out rfl (by decide) Rx.out rfl (Rg.nil _ _ _) rfl).mono ?_
  rintro e w10 ⟨An, kn, nn, rfl, h1, h2, hb, h4, h5⟩
  clear h4 h5
  rw [show okLn ⟨1, 2, 2, h13⟩ 2 [1] [] = false from h13n]
  clear h1 h2
  have B10 := Lib.hid (chain B9.out hb)
  replace RL := Lib.hid (RL.out.below hb)
  replace RN := Lib.hid (RN.out.below hb)
  replace Rx := Lib.hid (Rx.out.below hb)
  replace Ry := Lib.hid (Ry.out.below hb)
  replace Ra := Lib.hid (Ra.out.below hb)
  replace Rc := Lib.hid (Rc.out.below hb)
  replace Re := Lib.hid (Re.out.below hb)
  replace Rgg := Lib.hid (Rgg.out.below hb)
  replace Ro := Lib.hid (Ro.out.below hb)
  replace Rq := Lib.hid (Rq.out.below hb)
  clear hb B9 c0 c1 c2 c3 nl
  obtain ⟨c0, c1, c2, c3⟩ := RN.out.cells
  have nl := RN.out.lt
  go_wp2_with fail
  have ha : Below w10.heap.size w10 (w10.alloc (.cells #[.int .u64 1] 27)) := (Below.refl _ _).alloc (Nat.le_refl _) _
  refine (ssame Ax (some ⟨w10.heap.size, 0, none⟩) kx 1 1 1 ([1]) [1] _ (Rx.out.below ha) (rg_block (heap_alloc_new w10 _) (by kernel_rfl)) rfl rfl (by decide) rfl).mono ?_
  rintro e w11 ⟨rfl, hb⟩
  replace hb := chain ha hb
  clear ha
  have B11 := Lib.hid (chain B10.out hb)
  replace RL := Lib.hid (RL.out.below hb)
  replace RN := Lib.hid (RN.out.below hb)
  replace Rx := Lib.hid (Rx.out.below hb)
  replace Ry := Lib.hid (Ry.out.below hb)
  replace Ra := Lib.hid (Ra.out.below hb)
  replace Rc := Lib.hid (Rc.out.below hb)
  replace Re := Lib.hid (Re.out.below hb)
  replace Rgg := Lib.hid (Rgg.out.below hb)
  replace Ro := Lib.hid (Ro.out.below hb)
  replace Rq := Lib.hid (Rq.out.below hb)
  clear hb B10 c0 c1 c2 c3 nl
  obtain ⟨c0, c1, c2, c3⟩ := RN.out.cells
  have nl := RN.out.lt
  go_wp2_with fail
  have ha : Below w11.heap.size w11 (w11.alloc (.cells #[.int .u64 2] 27)) := (Below.refl _ _).alloc (Nat.le_refl _) _
  refine (ssame Ay (some ⟨w11.heap.size, 0, none⟩) ky 1 1 1 ([2]) [2] _ (Ry.out.below ha) (rg_block (heap_alloc_new w11 _) (by kernel_rfl)) rfl rfl (by decide) rfl).mono ?_
  rintro e w12 ⟨rfl, hb⟩
  replace hb := chain ha hb
  clear ha
  have B12 := Lib.hid (chain B11.out hb)
  replace RL := Lib.hid (RL.out.below hb)
  replace RN := Lib.hid (RN.out.below hb)
  replace Rx := Lib.hid (Rx.out.below hb)
  replace Ry := Lib.hid (Ry.out.below hb)
  replace Ra := Lib.hid (Ra.out.below hb)
  replace Rc := Lib.hid (Rc.out.below hb)
  replace Re := Lib.hid (Re.out.below hb)
  replace Rgg := Lib.hid (Rgg.out.below hb)
  replace Ro := Lib.hid (Ro.out.below hb)
  replace Rq := Lib.hid (Rq.out.below hb)
  clear hb B11 c0 c1 c2 c3 nl
  obtain ⟨c0, c1, c2, c3⟩ := RN.out.cells
  have nl := RN.out.lt
  go_wp2_with fail
  refine (nadd Ae Ag ke kg 1 1 he13 hg13 _ Re.out Rgg.out h13l.1.symm h13l.2.1.symm (by decide)).mono ?_
  rintro e w13 ⟨As, ks, ns, rfl, h1, h2, hb, h4, h5, h6⟩
  clear h4 h5 h6
  rw [h13s] at h1 h2
  obtain rfl : ns = 1 := h1
  have Rs := Lib.hid h2
  clear h2
  have B13 := Lib.hid (chain B12.out hb)
  replace RL := Lib.hid (RL.out.below hb)
  replace RN := Lib.hid (RN.out.below hb)
  replace Rx := Lib.hid (Rx.out.below hb)
  replace Ry := Lib.hid (Ry.out.below hb)
  replace Ra := Lib.hid (Ra.out.below hb)
  replace Rc := Lib.hid (Rc.out.below hb)
  replace Re := Lib.hid (Re.out.below hb)
  replace Rgg := Lib.hid (Rgg.out.below hb)
  replace Ro := Lib.hid (Ro.out.below hb)
  replace Rq := Lib.hid (Rq.out.below hb)
  clear hb B12 c0 c1 c2 c3 nl
  obtain ⟨c0, c1, c2, c3⟩ := RN.out.cells
  have nl := RN.out.lt
  go_wp2_with fail
  have ha : Below w13.heap.size w13 (w13.alloc (.cells #[.int .u64 9] 27)) := (Below.refl _ _).alloc (Nat.le_refl _) _
  refine (ssame As (some ⟨w13.heap.size, 0, none⟩) ks 1 1 1 ([9]) [9] _ (Rs.out.below ha) (rg_block (heap_alloc_new w13 _) (by kernel_rfl)) rfl rfl (by decide) rfl).mono ?_
  rintro e w14 ⟨rfl, hb⟩
  replace hb := chain ha hb
  clear ha
  have B14 := Lib.hid (chain B13.out hb)
  replace RL := Lib.hid (RL.out.below hb)
  replace RN := Lib.hid (RN.out.below hb)
  replace Rx := Lib.hid (Rx.out.below hb)
  replace Ry := Lib.hid (Ry.out.below hb)
  replace Ra := Lib.hid (Ra.out.below hb)
  replace Rc := Lib.hid (Rc.out.below hb)
  replace Re := Lib.hid (Re.out.below hb)
  replace Rgg := Lib.hid (Rgg.out.below hb)
  replace Ro := Lib.hid (Ro.out.below hb)
  replace Rq := Lib.hid (Rq.out.below hb)
  replace Rs := Lib.hid (Rs.out.below hb)
  clear hb B13 c0 c1 c2 c3 nl
  obtain ⟨c0, c1, c2, c3⟩ := RN.out.cells
  have nl := RN.out.lt
  go_wp2_with fail
  have ha : Below w14.heap.size w14 (w14.alloc (.cells #[.int .u64 9] 27)) := (Below.refl _ _).alloc (Nat.le_refl _) _
  refine (ssame Aq (some ⟨w14.heap.size, 0, none⟩) kq 1 1 1 (hq13) [9] _ (Rq.out.below ha) (rg_block (heap_alloc_new w14 _) (by kernel_rfl)) h13l.2.2.2.symm rfl (by decide) h13q).mono ?_
  rintro e w15 ⟨rfl, hb⟩
  replace hb := chain ha hb
  clear ha
  have B15 := Lib.hid (chain B14.out hb)
  replace RL := Lib.hid (RL.out.below hb)
  replace RN := Lib.hid (RN.out.below hb)
  replace Rx := Lib.hid (Rx.out.below hb)
  replace Ry := Lib.hid (Ry.out.below hb)
  replace Ra := Lib.hid (Ra.out.below hb)
  replace Rc := Lib.hid (Rc.out.below hb)
  replace Re := Lib.hid (Re.out.below hb)
  replace Rgg := Lib.hid (Rgg.out.below hb)
  replace Ro := Lib.hid (Ro.out.below hb)
  replace Rq := Lib.hid (Rq.out.below hb)
  replace Rs := Lib.hid (Rs.out.below hb)
  clear hb B14 c0 c1 c2 c3 nl
  obtain ⟨c0, c1, c2, c3⟩ := RN.out.cells
  have nl := RN.out.lt
  go_wp2_with fail
  go_ret
  exact ⟨rfl, B15.out⟩

end Go.Proofs.Ytklgjhldebdegaa

namespace Go.Proofs.Ytklgjhldebdegaa
open Go.RowKit
theorem next_bd (N : Nt) (a : Int) (z : UInt64) (s : Int) (ms ts : List UInt64) : (nextU N a z s ms ts).length ≤ 128 := by
  obtain ⟨c, h, x, ls⟩ := N
  by_cases q : okNx ⟨c, h, x, ls⟩ s ms ts = true
  · obtain ⟨i1, i2, i3⟩ := okNx_out q
    obtain ⟨e, s0, s1⟩ := isSt_out i1
    obtain ⟨k, rfl⟩ : ∃ k : Nat, s = k := ⟨s.toNat, by omega⟩
    by_cases ns : k = (stagesN ⟨c, h, x, ls⟩).length
    · subst ns
      unfold nextU
      rw [if_pos q, if_pos rfl]
      have := line_last e
      have := size_bd (endS ⟨c, h, x⟩ ls)
      unfold addU
      rw [List.length_zipWith]
      omega
    · have := next_len (who := a) (z := z) (by omega) q
      rw [in_yes e (by omega)] at this
      have := size_bd (endS ⟨c, h, x⟩ (ls.take (stgN ⟨c, h, x, ls⟩ (k + 1))))
      omega
  · unfold nextU
    rw [if_neg q]; simp

/-- Rows as long, but unlike. -/
theorem sdiff (A B : Option Addr) (cA cB na nb : Nat) (xs ys : List UInt64) (w : World) (hx : Rg ucells w A xs) (hy : Rg ucells w B ys) (lx : na = xs.length) (ly : nb = ys.length) (hl : xs.length = ys.length) (hn : na ≤ 1000000) (hne : xs ≠ ys) :
    Calls Try.prog 9 #[.slice A na cA, .slice B nb cB] w fun e w' => e = .returned (.bool false) ∧ Below w.heap.size w w' := by
  obtain rfl : nb = na := by omega
  have HX := Lib.hid hx; clear hx
  have HY := Lib.hid hy; clear hy
  have LX := Lib.hid lx; have LY := Lib.hid ly; have NE := Lib.hid hne
  clear lx ly hl hne
  have hq : ((nb : Int) != (nb : Int)) = false := by simp
  go_enter Try.func9, Try.ntmps9
  go_wp2_with fail
  go_loopw [5] (fun i wr => ∃ k : Nat, k ≤ nb ∧ i = .int .i64 k ∧ Hid (Below w.heap.size w wr) ∧ Hid (∀ j : Nat, j < k → xs[j]? = ys[j]?)) (fun i _ => nb - (intOf i).toNat)
  case atStart => exact ⟨0, Nat.zero_le _, rfl, Below.refl _ _, fun j hj => absurd hj (by omega)⟩
  case round =>
    obtain ⟨k, hk, rfl, HB, HS⟩ := hrel
    by_cases hlt : k < nb
    · obtain ⟨b1, o1, rfl, l1, c1⟩ := HX.out (by rw [← LX.out]; omega)
      obtain ⟨b2, o2, rfl, l2, c2⟩ := HY.out (by rw [← LY.out]; omega)
      obtain ⟨x, hxe⟩ : ∃ x, xs[k]? = some x := ⟨_, List.getElem?_eq_getElem (by rw [← LX.out]; exact hlt)⟩
      obtain ⟨y, hye⟩ : ∃ y, ys[k]? = some y := ⟨_, List.getElem?_eq_getElem (by rw [← LY.out]; exact hlt)⟩
      have d1 := (HB.out.cell (p := ⟨b1, o1 + k, none⟩) l1).trans (su_cell c1 hxe)
      have d2 := (HB.out.cell (p := ⟨b2, o2 + k, none⟩) l2).trans (su_cell c2 hye)
      clear c1 c2
      by_cases xy : x = y
      · subst xy
        have HS2 : Hid (∀ j : Nat, j < k + 1 → xs[j]? = ys[j]?) := fun j hj => by
          by_cases e : j = k
          · subst e; rw [hxe, hye]
          · exact HS.out j (by omega)
        have hxx : (uz x != uz x) = false := by simp
        clear hxe hye
        go_wp2_with fail
        go_quiet (fail)
        go_wp2_with fail
        go_roundw
        case rel => exact ⟨k + 1, by omega, by go_num, below_drewN HB.out _, HS2⟩
        case measure => simp [intOf]; omega
      · have hxx : (uz x != uz y) = true := by simp; exact fun e => xy (uz_inj e)
        clear hxe hye xy
        go_wp2_with fail
        go_quiet (fail)
        go_wp2_with fail
        go_ret
        exact ⟨rfl, below_drewN HB.out _⟩
    · exfalso
      refine NE.out (List.ext_getElem? fun j => ?_)
      by_cases hj : j < k
      · exact HS.out j hj
      · rw [List.getElem?_eq_none (by rw [← LX.out]; omega), List.getElem?_eq_none (by rw [← LY.out]; omega)]

end Go.Proofs.Ytklgjhldebdegaa
