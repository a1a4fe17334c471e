/-
  What the laws of this seat stand on, part 17.
-/
import Derived.Test.YtklgjhldebdegaaGreatB16
import Derived.Deep.RegionHeld3
import Derived.Deep.DeepCutAuto
import Derived.ProofKit
import Derived.OpenShut
import Derived.ChangeOld
import Derived.Deep.Strs
import Derived.Deep.Slices
import Derived.Deep.Fields
import Derived.ChangeSame
import Derived.Deep.QuietTactic
import Derived.BigQuiet
import Derived.StillTailTactics
namespace Go.Proofs.YtklgjhldebdegaaGreat
open Go.RowKit

theorem ml_takes (m : Int) (w : World) : (method 289 90 (.agg #[.int .i64 m]) "symbolon/eval.takes").run Tryz.prog w = .ok (134, .agg #[.int .i64 m]) w := by kernel_rfl
theorem mp_takes (c h x : Int) (A : Option Addr) (n cA : Nat) (a : Int) (z : UInt64) (l f i o : Int) (w : World) : (method 289 92 (.agg #[.int .i64 c, .int .i64 h, .int .i64 x, .slice A n cA, .int .i64 a, .int .u64 (uz z), .int .i64 l, .int .i64 f, .int .i64 i, .int .i64 o]) "symbolon/eval.takes").run Tryz.prog w = .ok (137, .agg #[.int .i64 c, .int .i64 h, .int .i64 x, .slice A n cA, .int .i64 a, .int .u64 (uz z), .int .i64 l, .int .i64 f, .int .i64 i, .int .i64 o]) w := by kernel_rfl
theorem ml_line (m : Int) (w : World) : (method 289 90 (.agg #[.int .i64 m]) "symbolon/eval.line").run Tryz.prog w = .ok (133, .agg #[.int .i64 m]) w := by kernel_rfl
theorem mp_line (c h x : Int) (A : Option Addr) (n cA : Nat) (a : Int) (z : UInt64) (l f i o : Int) (w : World) : (method 289 92 (.agg #[.int .i64 c, .int .i64 h, .int .i64 x, .slice A n cA, .int .i64 a, .int .u64 (uz z), .int .i64 l, .int .i64 f, .int .i64 i, .int .i64 o]) "symbolon/eval.line").run Tryz.prog w = .ok (136, .agg #[.int .i64 c, .int .i64 h, .int .i64 x, .slice A n cA, .int .i64 a, .int .u64 (uz z), .int .i64 l, .int .i64 f, .int .i64 i, .int .i64 o]) w := by kernel_rfl
theorem ml_behind (m : Int) (w : World) : (method 289 90 (.agg #[.int .i64 m]) "symbolon/eval.behind").run Tryz.prog w = .ok (132, .agg #[.int .i64 m]) w := by kernel_rfl
theorem mp_behind (c h x : Int) (A : Option Addr) (n cA : Nat) (a : Int) (z : UInt64) (l f i o : Int) (w : World) : (method 289 92 (.agg #[.int .i64 c, .int .i64 h, .int .i64 x, .slice A n cA, .int .i64 a, .int .u64 (uz z), .int .i64 l, .int .i64 f, .int .i64 i, .int .i64 o]) "symbolon/eval.behind").run Tryz.prog w = .ok (135, .agg #[.int .i64 c, .int .i64 h, .int .i64 x, .slice A n cA, .int .i64 a, .int .u64 (uz z), .int .i64 l, .int .i64 f, .int .i64 i, .int .i64 o]) w := by kernel_rfl
theorem na_last (m : Int) (w : World) : (nilAhead 289 90 (.agg #[.int .i64 m]) "symbolon/eval.behind").run Tryz.prog w = .ok (some false) w := by kernel_rfl
theorem na_products (c h x : Int) (A : Option Addr) (n cA : Nat) (a : Int) (z : UInt64) (l f i o : Int) (w : World) : (nilAhead 289 92 (.agg #[.int .i64 c, .int .i64 h, .int .i64 x, .slice A n cA, .int .i64 a, .int .u64 (uz z), .int .i64 l, .int .i64 f, .int .i64 i, .int .i64 o]) "symbolon/eval.behind").run Tryz.prog w = .ok (some false) w := by kernel_rfl

set_option maxHeartbeats 4000000 in
set_option maxRecDepth 100000 in
theorem line13 (c h x : Int) (A X W : Option Addr) (cA n cX nx cW nw : Nat) (ls : List Ly) (xs ws : List UInt64) (a : Int) (z : UInt64) (s : Int) (w : World) (hx : Rl w A ls) (ln : n = ls.length) (hn : n ≤ 60) (hX : Rg ucells w X xs) (lx : nx = xs.length) (hW : Rg ucells w W ws) (lw : nw = ws.length) :
    Calls Tryz.prog 13 #[.agg #[.int .i64 c, .int .i64 h, .int .i64 x, .slice A n cA], .int .i64 a, .int .u64 (uz z), .int .i64 s, .slice X nx cX, .slice W nw cW] w (PairTo (lineU ⟨c, h, x, ls⟩ a z s xs ws) (okLn ⟨c, h, x, ls⟩ s xs ws) w) := by
  have HX := Lib.hid hx; have LX := Lib.hid ln; have HXR := Lib.hid hX; have LXX := Lib.hid lx; have HWR := Lib.hid hW; have LWW := Lib.hid lw
  have NO : Hid (okLn ⟨c, h, x, ls⟩ s xs ws = false → lineU ⟨c, h, x, ls⟩ a z s xs ws = []) := fun e => if_neg (by rw [e]; decide)
  have hn1 : n ≤ 1000 := by omega
  obtain ⟨tw, htw⟩ : ∃ tw, tw = totW (knN ⟨c, h, x, ls⟩) := ⟨_, rfl⟩
  have HTW := Lib.hid htw
  clear hx ln hX lx hW lw htw
  go_enter Tryz.func13, Tryz.ntmps13
  go_wp2_with fail
  refine (find13 c h x A cA n ls a z s _ (HX.out.below ((Below.refl _ w).alloc (Nat.le_refl _) _)) LX.out hn).mono ?_
  rintro e w1 ⟨V, rfl, hV, hb⟩
  have B1 := Lib.hid (chain ((Below.refl w.heap.size w).alloc (Nat.le_refl _) _) hb)
  have N1 := Lib.hid ((NB.new w c h x (.slice A n cA)).below hb)
  have TV := Lib.hid hV
  obtain ⟨is, his⟩ : ∃ is, is = isSt ⟨c, h, x, ls⟩ s := ⟨_, rfl⟩
  rw [← his]
  have IS := Lib.hid his
  clear hb hV his
  obtain ⟨c0, c1, c2, c3⟩ := N1.out.cells
  go_wp2_with fail
  refine (all_any c h x A cA n ls _ (HX.out.below B1.out) LX.out hn1).mono ?_
  rintro e w2 ⟨rfl, hb⟩
  rw [← HTW.out]
  have B2 := Lib.hid (chain B1.out hb)
  clear hb B1 N1 c0 c1 c2 c3
  rcases TV.out with ⟨hst, rfl⟩ | ⟨hst, hsl, rfl⟩ | ⟨hst, k, rfl, hks, rfl⟩
  · obtain rfl : is = false := IS.out.trans hst
    have E0 : Hid (okLn ⟨c, h, x, ls⟩ s xs ws = false) := decide_eq_false fun q => by rw [hst] at q; cases q.1
    clear hst
    have E1 := Lib.hid (NO.out E0.out)
    go_wp2_with fail
    go_ret2
    rw [E0.out, E1.out]
    exact ⟨none, 0, 0, rfl, rfl, Rg.nil _ _ _, B2.out, Nat.le_refl _, Nat.zero_le _⟩
  · obtain rfl : is = true := IS.out.trans hst
    obtain ⟨kn, hkn⟩ : ∃ kn, kn = inN ⟨c, h, x, ls⟩ s := ⟨_, rfl⟩
    rw [← hkn]
    have HKN := Lib.hid hkn
    have he := (isSt_out hst).1
    unfold lastV
    clear hkn TV
    have mt := fun w => ml_takes kn w
    have mn := fun w => ml_line kn w
    have CT : Hid (∀ w, Calls Tryz.prog 134 #[.agg #[.int .i64 kn]] w fun e w' => e = .returned (.int .i64 kn) ∧ Below w.heap.size w w') := fun w => ltakes13 kn w
    go_wp2_with fail
    refine (CT.out _).mono ?_
    rintro e w3 ⟨rfl, hb⟩
    have B3 := Lib.hid (chain B2.out hb)
    clear hb B2
    by_cases hxn : ¬ (nx : Int) = kn
    · have b1 : ((nx : Int) != kn) = true := by simpa using hxn
      have E0 : Hid (okLn ⟨c, h, x, ls⟩ s xs ws = false) := decide_eq_false fun q => hxn (by rw [LXX.out, HKN.out]; exact q.2.1)
      have E1 := Lib.hid (NO.out E0.out)
      clear hxn
      go_wp2_with fail
      go_ret2
      rw [E0.out, E1.out]
      exact ⟨none, 0, 0, rfl, rfl, Rg.nil _ _ _, B3.out, Nat.le_refl _, Nat.zero_le _⟩
    have hxn : (nx : Int) = kn := Decidable.not_not.1 hxn
    have b1 : ((nx : Int) != kn) = false := by rw [hxn]; simp
    by_cases hwn : ¬ (nw : Int) = tw
    · have b2 : ((nw : Int) != tw) = true := by simpa using hwn
      have E0 : Hid (okLn ⟨c, h, x, ls⟩ s xs ws = false) := decide_eq_false fun q => hwn (by rw [LWW.out, HTW.out]; exact q.2.2)
      have E1 := Lib.hid (NO.out E0.out)
      clear hwn hxn
      go_wp2_with fail
      go_ret2
      rw [E0.out, E1.out]
      exact ⟨none, 0, 0, rfl, rfl, Rg.nil _ _ _, B3.out, Nat.le_refl _, Nat.zero_le _⟩
    have hwn : (nw : Int) = tw := Decidable.not_not.1 hwn
    have b2 : ((nw : Int) != tw) = false := by rw [hwn]; simp
    have hok : okLn ⟨c, h, x, ls⟩ s xs ws = true := decide_eq_true ⟨hst, by rw [← LXX.out, hxn]; exact HKN.out, by rw [← LWW.out, hwn]; exact HTW.out⟩
    have HOK := Lib.hid hok
    have kb : 1 ≤ kn ∧ kn ≤ 128 := by
      have q := HKN.out
      rw [hsl, in_last he] at q
      obtain ⟨r, f3, t, _⟩ := ok_all he
      have er : (endS ⟨c, h, x⟩ ls).r = true := end_right _ _ r f3 t
      have := size_pos er
      have := (size_bd (endS ⟨c, h, x⟩ ls)).2
      omega
    have E1 : Hid (lineU ⟨c, h, x, ls⟩ a z s xs ws = xs) := by show _ = _; unfold lineU; rw [if_pos hok, if_pos hsl]
    have nx0 : 0 < nx := by omega
    have nx1 : nx ≤ 100000 := by omega
    have CL : Hid (∀ w', Rg ucells w' X xs → Calls Tryz.prog 133 #[.agg #[.int .i64 kn], .slice X nx cX, .slice W nw cW] w' (RowTo ucells xs w')) := fun w' q => lline13 kn X W nx cX nw cW xs w' q LXX.out nx0 nx1
    clear hok hst hsl he hxn hwn kb nx0 nx1
    go_wp2_with fail
    refine (CL.out _ (HXR.out.below B3.out)).mono ?_
    rintro e w4 ⟨A4, k4, n4, rfl, p1, p2, hb, p3, p4⟩
    have B4 := Lib.hid (chain B3.out hb)
    have P1 := Lib.hid p1; have P2 := Lib.hid p2; have P3 := Lib.hid p3; have P4 := Lib.hid p4
    clear p1 p2 p3 p4 hb B3
    go_wp2_with fail
    go_ret2
    rw [HOK.out, E1.out]
    exact ⟨A4, k4, n4, rfl, P1.out, P2.out, B4.out, P3.out, P4.out⟩
  · obtain rfl : is = true := IS.out.trans hst
    obtain ⟨kn, hkn⟩ : ∃ kn, kn = inN ⟨c, h, x, ls⟩ (k : Int) := ⟨_, rfl⟩
    obtain ⟨l, hl⟩ : ∃ l, l = stgN ⟨c, h, x, ls⟩ k := ⟨_, rfl⟩
    obtain ⟨f, hf⟩ : ∃ f, f = fromN ⟨c, h, x, ls⟩ k := ⟨_, rfl⟩
    obtain ⟨u, hu⟩ : ∃ u : Nat, (atN ⟨c, h, x, ls⟩ (l : Int)).u.n = (u : Int) := ⟨(atN ⟨c, h, x, ls⟩ (l : Int)).u.n.toNat, by have := size_bd (atN ⟨c, h, x, ls⟩ (l : Int)).u; omega⟩
    rw [← hkn, ← hl, ← hf, hu]
    have HKN := Lib.hid hkn
    have he := (isSt_out hst).1
    have HLH := Lib.hid hl; have HFH := Lib.hid hf; have HUH := Lib.hid hu; have HKS := Lib.hid hks
    unfold prodV
    clear hkn TV hl hf hu hks
    have mt := fun w => mp_takes c h x A n cA a z ((l : Nat) : Int) ((f : Nat) : Int) kn (u : Int) w
    have mn := fun w => mp_line c h x A n cA a z ((l : Nat) : Int) ((f : Nat) : Int) kn (u : Int) w
    have CT : Hid (∀ w, Calls Tryz.prog 137 #[.agg #[.int .i64 c, .int .i64 h, .int .i64 x, .slice A n cA, .int .i64 a, .int .u64 (uz z), .int .i64 (l : Int), .int .i64 (f : Int), .int .i64 kn, .int .i64 (u : Int)]] w fun e w' => e = .returned (.int .i64 kn) ∧ Below w.heap.size w w') := fun w => ptakes13 c h x A n cA a z (l : Int) (f : Int) kn (u : Int) w
    go_wp2_with fail
    refine (CT.out _).mono ?_
    rintro e w3 ⟨rfl, hb⟩
    have B3 := Lib.hid (chain B2.out hb)
    clear hb B2
    by_cases hxn : ¬ (nx : Int) = kn
    · have b1 : ((nx : Int) != kn) = true := by simpa using hxn
      have E0 : Hid (okLn ⟨c, h, x, ls⟩ (k : Int) xs ws = false) := decide_eq_false fun q => hxn (by rw [LXX.out, HKN.out]; exact q.2.1)
      have E1 := Lib.hid (NO.out E0.out)
      clear hxn
      go_wp2_with fail
      go_ret2
      rw [E0.out, E1.out]
      exact ⟨none, 0, 0, rfl, rfl, Rg.nil _ _ _, B3.out, Nat.le_refl _, Nat.zero_le _⟩
    have hxn : (nx : Int) = kn := Decidable.not_not.1 hxn
    have b1 : ((nx : Int) != kn) = false := by rw [hxn]; simp
    by_cases hwn : ¬ (nw : Int) = tw
    · have b2 : ((nw : Int) != tw) = true := by simpa using hwn
      have E0 : Hid (okLn ⟨c, h, x, ls⟩ (k : Int) xs ws = false) := decide_eq_false fun q => hwn (by rw [LWW.out, HTW.out]; exact q.2.2)
      have E1 := Lib.hid (NO.out E0.out)
      clear hwn hxn
      go_wp2_with fail
      go_ret2
      rw [E0.out, E1.out]
      exact ⟨none, 0, 0, rfl, rfl, Rg.nil _ _ _, B3.out, Nat.le_refl _, Nat.zero_le _⟩
    have hwn : (nw : Int) = tw := Decidable.not_not.1 hwn
    have b2 : ((nw : Int) != tw) = false := by rw [hwn]; simp
    have hok : okLn ⟨c, h, x, ls⟩ (k : Int) xs ws = true := decide_eq_true ⟨hst, by rw [← LXX.out, hxn]; exact HKN.out, by rw [← LWW.out, hwn]; exact HTW.out⟩
    have HOK := Lib.hid hok
    have E1 : Hid (lineU ⟨c, h, x, ls⟩ a z (k : Int) xs ws = goesU ⟨c, h, x, ls⟩ a z k xs ws) := by show _ = _; unfold lineU; rw [if_pos hok, if_neg (by have := HKS.out; omega), Int.toNat_natCast]
    have hxi : (xs.length : Int) = inN ⟨c, h, x, ls⟩ (k : Nat) := by rw [← LXX.out, hxn]; exact HKN.out
    have hwi : (ws.length : Int) = totW (knN ⟨c, h, x, ls⟩) := by rw [← LWW.out, hwn]; exact HTW.out
    have CL : Hid (∀ w', Rl w' A ls → Rg ucells w' X xs → Rg ucells w' W ws → Calls Tryz.prog 136 #[.agg #[.int .i64 c, .int .i64 h, .int .i64 x, .slice A n cA, .int .i64 a, .int .u64 (uz z), .int .i64 (l : Int), .int .i64 (f : Int), .int .i64 kn, .int .i64 (u : Int)], .slice X nx cX, .slice W nw cW] w' (RowTo ucells (goesU ⟨c, h, x, ls⟩ a z k xs ws) w')) := fun w' q1 q2 q3 => pline13 c h x A X W cA n nx cX nw cW ls xs ws a z k l f u kn w' q1 LX.out hn q2 LXX.out q3 LWW.out he HKS.out HLH.out HFH.out HUH.out hxi hwi
    clear hok hst he hxn hwn hxi hwi
    go_wp2_with fail
    refine (CL.out _ (HX.out.below B3.out) (HXR.out.below B3.out) (HWR.out.below B3.out)).mono ?_
    rintro e w4 ⟨A4, k4, n4, rfl, p1, p2, hb, p3, p4⟩
    have B4 := Lib.hid (chain B3.out hb)
    have P1 := Lib.hid p1; have P2 := Lib.hid p2; have P3 := Lib.hid p3; have P4 := Lib.hid p4
    clear p1 p2 p3 p4 hb B3
    go_wp2_with fail
    go_ret2
    rw [HOK.out, E1.out]
    exact ⟨A4, k4, n4, rfl, P1.out, P2.out, B4.out, P3.out, P4.out⟩

set_option maxHeartbeats 4000000 in
set_option maxRecDepth 100000 in
theorem next13 (c h x : Int) (A X Y : Option Addr) (cA n cX nx cY ny : Nat) (ls : List Ly) (ms ts : List UInt64) (a : Int) (z : UInt64) (s : Int) (w : World) (hx : Rl w A ls) (ln : n = ls.length) (hn : n ≤ 60) (hX : Rg ucells w X ms) (lx : nx = ms.length) (hY : Rg ucells w Y ts) (ly : ny = ts.length) :
    Calls Tryz.prog 15 #[.agg #[.int .i64 c, .int .i64 h, .int .i64 x, .slice A n cA], .int .i64 a, .int .u64 (uz z), .int .i64 s, .slice X nx cX, .slice Y ny cY] w (PairTo (nextU ⟨c, h, x, ls⟩ a z s ms ts) (okNx ⟨c, h, x, ls⟩ s ms ts) w) := by
  have HX := Lib.hid hx; have LX := Lib.hid ln; have HXR := Lib.hid hX; have LXX := Lib.hid lx; have HYR := Lib.hid hY; have LYY := Lib.hid ly
  have NO : Hid (okNx ⟨c, h, x, ls⟩ s ms ts = false → nextU ⟨c, h, x, ls⟩ a z s ms ts = []) := fun e => if_neg (by rw [e]; decide)
  have hn1 : n ≤ 1000 := by omega
  obtain ⟨la, hla⟩ : ∃ la, la = (lineN ⟨c, h, x, ls⟩ s).1 := ⟨_, rfl⟩
  obtain ⟨lb, hlb⟩ : ∃ lb, lb = (lineN ⟨c, h, x, ls⟩ s).2 := ⟨_, rfl⟩
  have HLB := Lib.hid hlb
  have LN : Hid (lineN ⟨c, h, x, ls⟩ s = (la, lb)) := by show _ = _; rw [hla, hlb]
  clear hx ln hX lx hY ly hla hlb
  go_enter Tryz.func15, Tryz.ntmps15
  go_wp2_with fail
  refine (find13 c h x A cA n ls a z s _ (HX.out.below ((Below.refl _ w).alloc (Nat.le_refl _) _)) LX.out hn).mono ?_
  rintro e w1 ⟨V, rfl, hV, hb⟩
  have B1 := Lib.hid (chain ((Below.refl w.heap.size w).alloc (Nat.le_refl _) _) hb)
  have N1 := Lib.hid ((NB.new w c h x (.slice A n cA)).below hb)
  have TV := Lib.hid hV
  obtain ⟨is, his⟩ : ∃ is, is = isSt ⟨c, h, x, ls⟩ s := ⟨_, rfl⟩
  rw [← his]
  have IS := Lib.hid his
  clear hb hV his
  obtain ⟨c0, c1, c2, c3⟩ := N1.out.cells
  go_wp2_with fail
  refine (gline8 c h x A cA n ls s la lb LN.out _ (HX.out.below B1.out) LX.out hn).mono ?_
  rintro e w2 ⟨rfl, hb⟩
  have B2 := Lib.hid (chain B1.out hb)
  clear hb B1 N1 c0 c1 c2 c3
  by_cases hst : isSt ⟨c, h, x, ls⟩ s = false
  · obtain rfl : is = false := IS.out.trans hst
    have E0 : Hid (okNx ⟨c, h, x, ls⟩ s ms ts = false) := decide_eq_false fun q => by rw [hst] at q; cases q.1
    clear hst
    have E1 := Lib.hid (NO.out E0.out)
    go_wp2_with fail
    go_ret2
    rw [E0.out, E1.out]
    exact ⟨none, 0, 0, rfl, rfl, Rg.nil _ _ _, B2.out, Nat.le_refl _, Nat.zero_le _⟩
  have hst : isSt ⟨c, h, x, ls⟩ s = true := by simpa using hst
  obtain rfl : is = true := IS.out.trans hst
  have HST := Lib.hid hst
  clear hst
  by_cases hxn : ¬ (nx : Int) = lb
  · have b1 : ((nx : Int) != lb) = true := by simpa using hxn
    have E0 : Hid (okNx ⟨c, h, x, ls⟩ s ms ts = false) := decide_eq_false fun q => hxn (by rw [LXX.out, HLB.out]; exact q.2.1)
    clear hxn
    have E1 := Lib.hid (NO.out E0.out)
    go_wp2_with fail
    go_ret2
    rw [E0.out, E1.out]
    exact ⟨none, 0, 0, rfl, rfl, Rg.nil _ _ _, B2.out, Nat.le_refl _, Nat.zero_le _⟩
  have hxn : (nx : Int) = lb := Decidable.not_not.1 hxn
  have b1 : ((nx : Int) != lb) = false := by rw [hxn]; simp
  by_cases hyn : ¬ (ny : Int) = lb
  · have b2 : ((ny : Int) != lb) = true := by simpa using hyn
    have E0 : Hid (okNx ⟨c, h, x, ls⟩ s ms ts = false) := decide_eq_false fun q => hyn (by rw [LYY.out, HLB.out]; exact q.2.2)
    clear hxn hyn
    have E1 := Lib.hid (NO.out E0.out)
    go_wp2_with fail
    go_ret2
    rw [E0.out, E1.out]
    exact ⟨none, 0, 0, rfl, rfl, Rg.nil _ _ _, B2.out, Nat.le_refl _, Nat.zero_le _⟩
  have hyn : (ny : Int) = lb := Decidable.not_not.1 hyn
  have b2 : ((ny : Int) != lb) = false := by rw [hyn]; simp
  have HOK : Hid (okNx ⟨c, h, x, ls⟩ s ms ts = true) := decide_eq_true ⟨HST.out, by rw [← LXX.out, hxn]; exact HLB.out, by rw [← LYY.out, hyn]; exact HLB.out⟩
  have HXN := Lib.hid hxn; have HYN := Lib.hid hyn
  have he := (isSt_out HST.out).1
  have HE := Lib.hid he
  have nb : nx ≤ 1000000 := by
    rcases TV.out with ⟨q, _⟩ | ⟨_, hsl, _⟩ | ⟨_, k, hk, hks, _⟩
    · have := HST.out; rw [q] at this; cases this
    · have q := HLB.out
      rw [hsl, line_last he] at q
      have := (size_bd (endS ⟨c, h, x⟩ ls)).2
      omega
    · have q := HLB.out
      rw [hk, line_many he hks] at q
      have bd := many_bd he hks
      have gb := gates_bd (c := c) (h := h) (x := x) (ls := ls)
      omega
  have xy : nx = ny := by omega
  have CA : Hid (∀ w', Rg ucells w' X ms → Rg ucells w' Y ts → Calls Tryz.prog 39 #[.slice X nx cX, .slice Y ny cY] w' (RowNew ucells (addU ms ts) w')) := fun w' q1 q2 => add10 X Y cX cY nx ny ms ts w' q1 q2 LXX.out LYY.out nb
  have XY : Hid (ms.length = ts.length) := by show _ = _; rw [← LXX.out, ← LYY.out]; exact xy
  clear hxn hyn he nb xy
  rcases TV.out with ⟨q, _⟩ | ⟨_, hsl, rfl⟩ | ⟨_, k, rfl, hks, rfl⟩
  · have := HST.out; rw [q] at this; cases this
  · obtain ⟨kn, hkn⟩ : ∃ kn, kn = inN ⟨c, h, x, ls⟩ s := ⟨_, rfl⟩
    rw [← hkn]
    have mb := fun w => ml_behind kn w
    have na := fun w => na_last kn w
    have E1 : Hid (nextU ⟨c, h, x, ls⟩ a z s ms ts = addU ms ts) := by show _ = _; unfold nextU; rw [if_pos HOK.out, if_pos hsl]
    have CB : Hid (∀ w' A' n' k', n' = (addU ms ts).length → n' ≤ k' → k' ≤ maxLen → Rl w' A ls → Rg ucells w' A' (addU ms ts) → Calls Tryz.prog 132 #[.agg #[.int .i64 kn], .slice A' n' k'] w' (RowTo ucells (addU ms ts) w')) := fun w' A' n' k' q1 q2 q3 q4 q5 => (lbehind13 kn A' n' k' w').mono fun e w'' q => ⟨A', k', n', q.1, q1, q5.below q.2, q.2, q2, q3⟩
    unfold lastV
    clear hkn TV hsl
    go_wp2_with fail
    refine wp_region_noPanic ?_
    refine wp_region_held_drew (S := fun w' => True) (by kernel_rfl) trivial (fun hHeld => ?_)
    have hd := below_drew w2
    generalize w2.drew = wq1 at hHeld hd ⊢
    have BD : Hid (Below wq1.heap.size wq1 wq1) := Below.refl _ _
    refine wpAnyH_take (i := 0) (v := ?vv3001) (by simp only [List.getElem?_toArray, List.getElem?_cons_zero]; rfl) (by kernel_rfl) (by kernel_rfl) (by kernel_rfl) (fun _ _ _ h => h) (Or.inl ⟨by rfl, ?yy3001⟩) (by assumption) ?rr3001
    case yy3001 => (intro w hSw; (try dsimp only at hSw); go_simp; first | done | with_reducible rfl)
    simp only [Act.put, List.setIfInBounds_toArray, List.set_cons_zero, List.set_cons_succ]
    refine wpAnyH_take (i := 1) (v := ?vv3002) (by simp only [List.getElem?_toArray, List.getElem?_cons_zero, List.getElem?_cons_succ]; rfl) (by kernel_rfl) (by kernel_rfl) (by kernel_rfl) (fun _ _ _ h => h) (Or.inl ⟨by rfl, ?yy3002⟩) (by assumption) ?rr3002
    case yy3002 => (intro w hSw; (try dsimp only at hSw); go_simp; first | done | with_reducible rfl)
    simp only [Act.put, List.setIfInBounds_toArray, List.set_cons_zero, List.set_cons_succ]
    refine wpAnyH_take (i := 2) (v := ?vv3003) (by simp only [List.getElem?_toArray, List.getElem?_cons_zero, List.getElem?_cons_succ]; rfl) (by kernel_rfl) (by kernel_rfl) (by kernel_rfl) (fun _ _ _ h => h) (Or.inl ⟨by rfl, ?yy3003⟩) (by assumption) ?rr3003
    case yy3003 => (intro w hSw; (try dsimp only at hSw); go_simp; first | done | with_reducible rfl)
    simp only [Act.put, List.setIfInBounds_toArray, List.set_cons_zero, List.set_cons_succ]
    refine wpAnyH_take (i := 4) (v := ?vv3004) (by simp only [List.getElem?_toArray, List.getElem?_cons_zero, List.getElem?_cons_succ]; rfl) (by kernel_rfl) (by kernel_rfl) (by kernel_rfl) (fun _ _ _ h => h) (Or.inl ⟨by rfl, ?yy3004⟩) (by assumption) ?rr3004
    case yy3004 => (intro w hSw; (try dsimp only at hSw); go_simp; first | done | with_reducible rfl)
    simp only [Act.put, List.setIfInBounds_toArray, List.set_cons_zero, List.set_cons_succ]
    refine wpAnyH_take (i := 5) (v := ?vv3005) (by simp only [List.getElem?_toArray, List.getElem?_cons_zero, List.getElem?_cons_succ]; rfl) (by kernel_rfl) (by kernel_rfl) (by kernel_rfl) (fun _ _ _ h => h) (Or.inl ⟨by rfl, ?yy3005⟩) (by assumption) ?rr3005
    case yy3005 => (intro w hSw; (try dsimp only at hSw); go_simp; first | done | with_reducible rfl)
    simp only [Act.put, List.setIfInBounds_toArray, List.set_cons_zero, List.set_cons_succ]
    refine wpAnyH_take (i := 6) (v := ?vv3006) (by simp only [List.getElem?_toArray, List.getElem?_cons_zero, List.getElem?_cons_succ]; rfl) (by kernel_rfl) (by kernel_rfl) (by kernel_rfl) (fun _ _ _ h => h) (Or.inl ⟨by rfl, ?yy3006⟩) (by assumption) ?rr3006
    case yy3006 => (intro w hSw; (try dsimp only at hSw); go_simp; first | done | with_reducible rfl)
    simp only [Act.put, List.setIfInBounds_toArray, List.set_cons_zero, List.set_cons_succ]
    refine wpAnyH_ready (rs := [3]) (by kernel_rfl) (by simp) ?_
    refine AllReadyH.cons (by simp only [List.getElem?_toArray, List.getElem?_cons_zero, List.getElem?_cons_succ]; rfl) (fun K hK => ?_) ?_
    · skip
      go_simp
      (with_reducible refine (CA.out _ (HXR.out.below (chain B2.out (chain hd BD.out))) (HYR.out.below (chain B2.out (chain hd BD.out)))).mono ?_)
      rintro e wq2 ⟨A3, k3, n3, rfl, r1, r2, hb, r3, r4, _⟩
      have P1 := Lib.hid r1; have P2 := Lib.hid r2; have P3 := Lib.hid r3; have P4 := Lib.hid r4
      clear hHeld r1 r2 r3 r4
      replace BD := Lib.hid (chain BD.out hb)
      clear hb
      go_wp2_with fail
      refine hK.out _ _ trivial (fun hHeld => ?_)
      clear hK K
      try simp only [Act.put, List.setIfInBounds_toArray, List.set_cons_zero, List.set_cons_succ]
      refine wpAnyH_ready (rs := [7]) (by kernel_rfl) (by simp) ?_
      refine AllReadyH.cons (by simp only [List.getElem?_toArray, List.getElem?_cons_zero, List.getElem?_cons_succ]; rfl) (fun K hK => ?_) ?_
      · skip
        go_simp
        (with_reducible refine (CB.out _ A3 n3 k3 P1.out P3.out P4.out (HX.out.below (chain B2.out (chain hd BD.out))) P2.out).mono ?_)
        rintro e wq3 ⟨A4, k4, n4, rfl, r1, r2, hb, r3, r4⟩
        have R1 := Lib.hid r1; have R2 := Lib.hid r2; have R3 := Lib.hid r3; have R4 := Lib.hid r4
        clear hHeld r1 r2 r3 r4
        replace BD := Lib.hid (chain BD.out hb)
        clear hb
        go_wp2_with fail
        refine hK.out _ _ trivial (fun hHeld => ?_)
        clear hK K
        try simp only [Act.put, List.setIfInBounds_toArray, List.set_cons_zero, List.set_cons_succ]
        refine wpAnyH_take (i := 8) (v := ?vv3007) (by simp only [List.getElem?_toArray, List.getElem?_cons_zero, List.getElem?_cons_succ]; rfl) (by kernel_rfl) (by kernel_rfl) (by kernel_rfl) (fun _ _ _ h => h) (Or.inl ⟨by rfl, ?yy3007⟩) (by assumption) ?rr3007
        case yy3007 => (intro w hSw; (try dsimp only at hSw); go_simp; first | done | with_reducible rfl)
        simp only [Act.put, List.setIfInBounds_toArray, List.set_cons_zero, List.set_cons_succ]
        refine wpAnyH_take (i := 9) (v := ?vv3008) (by simp only [List.getElem?_toArray, List.getElem?_cons_zero, List.getElem?_cons_succ]; rfl) (by kernel_rfl) (by kernel_rfl) (by kernel_rfl) (fun _ _ _ h => h) (Or.inl ⟨by rfl, ?yy3008⟩) (by assumption) ?rr3008
        case yy3008 => (intro w hSw; (try dsimp only at hSw); go_simp; first | done | with_reducible rfl)
        simp only [Act.put, List.setIfInBounds_toArray, List.set_cons_zero, List.set_cons_succ]
        refine wpAnyH_done (by kernel_rfl) ?_ _
        refine NoPanic.normal ?_
        clear hHeld
        have BF := Lib.hid (chain B2.out (chain hd BD.out))
        clear hd BD
        go_wp2_with fail
        go_ret2
        rw [HOK.out, E1.out]
        exact ⟨A4, k4, n4, rfl, R1.out, R2.out, BF.out, R3.out, R4.out⟩
      exact AllReadyH.nil
    exact AllReadyH.nil
  · obtain ⟨kn, hkn⟩ : ∃ kn, kn = inN ⟨c, h, x, ls⟩ (k : Int) := ⟨_, rfl⟩
    obtain ⟨l, hl⟩ : ∃ l, l = stgN ⟨c, h, x, ls⟩ k := ⟨_, rfl⟩
    obtain ⟨f, hf⟩ : ∃ f, f = fromN ⟨c, h, x, ls⟩ k := ⟨_, rfl⟩
    obtain ⟨u, hu⟩ : ∃ u : Nat, (atN ⟨c, h, x, ls⟩ (l : Int)).u.n = (u : Int) := ⟨(atN ⟨c, h, x, ls⟩ (l : Int)).u.n.toNat, by have := size_bd (atN ⟨c, h, x, ls⟩ (l : Int)).u; omega⟩
    rw [← hkn, ← hl, ← hf, hu]
    have mb := fun w => mp_behind c h x A n cA a z ((l : Nat) : Int) ((f : Nat) : Int) kn (u : Int) w
    have na := fun w => na_products c h x A n cA a z ((l : Nat) : Int) ((f : Nat) : Int) kn (u : Int) w
    obtain ⟨us, hus⟩ : ∃ us, us = poolsU ⟨c, h, x, ls⟩ (l + 1) (sumsU ⟨c, h, x, ls⟩ a z k ms ts) := ⟨_, rfl⟩
    have E1 : Hid (nextU ⟨c, h, x, ls⟩ a z (k : Int) ms ts = us) := by show _ = _; unfold nextU; rw [if_pos HOK.out, if_neg (by omega), Int.toNat_natCast, hus, hl]
    have lmm : ms.length = 2 * manyN ⟨c, h, x, ls⟩ k := by
      have q := HLB.out
      rw [line_many HE.out hks, ← HXN.out, LXX.out] at q
      omega
    have ltt : ts.length = 2 * manyN ⟨c, h, x, ls⟩ k := by rw [← XY.out]; exact lmm
    have CB : Hid (∀ w' A' n' k', n' = (addU ms ts).length → n' ≤ k' → k' ≤ maxLen → Rl w' A ls → Rg ucells w' A' (addU ms ts) → Calls Tryz.prog 135 #[.agg #[.int .i64 c, .int .i64 h, .int .i64 x, .slice A n cA, .int .i64 a, .int .u64 (uz z), .int .i64 (l : Int), .int .i64 (f : Int), .int .i64 kn, .int .i64 (u : Int)], .slice A' n' k'] w' (RowTo ucells us w')) := fun w' A' n' k' q1 q2 q3 q4 q5 => by
      rw [hus]
      exact pbehind13 c h x A A' cA n n' k' ls ms ts a z k l f u kn w' q4 LX.out hn q5 q1 q2 HE.out hks hl hf hu lmm ltt
    unfold prodV
    clear hkn TV hks hl hf hu hus lmm ltt
    go_wp2_with fail
    refine wp_region_noPanic ?_
    refine wp_region_held_drew (S := fun w' => True) (by kernel_rfl) trivial (fun hHeld => ?_)
    have hd := below_drew w2
    generalize w2.drew = wq1 at hHeld hd ⊢
    have BD : Hid (Below wq1.heap.size wq1 wq1) := Below.refl _ _
    refine wpAnyH_take (i := 0) (v := ?vv4001) (by simp only [List.getElem?_toArray, List.getElem?_cons_zero]; rfl) (by kernel_rfl) (by kernel_rfl) (by kernel_rfl) (fun _ _ _ h => h) (Or.inl ⟨by rfl, ?yy4001⟩) (by assumption) ?rr4001
    case yy4001 => (intro w hSw; (try dsimp only at hSw); go_simp; first | done | with_reducible rfl)
    simp only [Act.put, List.setIfInBounds_toArray, List.set_cons_zero, List.set_cons_succ]
    refine wpAnyH_take (i := 1) (v := ?vv4002) (by simp only [List.getElem?_toArray, List.getElem?_cons_zero, List.getElem?_cons_succ]; rfl) (by kernel_rfl) (by kernel_rfl) (by kernel_rfl) (fun _ _ _ h => h) (Or.inl ⟨by rfl, ?yy4002⟩) (by assumption) ?rr4002
    case yy4002 => (intro w hSw; (try dsimp only at hSw); go_simp; first | done | with_reducible rfl)
    simp only [Act.put, List.setIfInBounds_toArray, List.set_cons_zero, List.set_cons_succ]
    refine wpAnyH_take (i := 2) (v := ?vv4003) (by simp only [List.getElem?_toArray, List.getElem?_cons_zero, List.getElem?_cons_succ]; rfl) (by kernel_rfl) (by kernel_rfl) (by kernel_rfl) (fun _ _ _ h => h) (Or.inl ⟨by rfl, ?yy4003⟩) (by assumption) ?rr4003
    case yy4003 => (intro w hSw; (try dsimp only at hSw); go_simp; first | done | with_reducible rfl)
    simp only [Act.put, List.setIfInBounds_toArray, List.set_cons_zero, List.set_cons_succ]
    refine wpAnyH_take (i := 4) (v := ?vv4004) (by simp only [List.getElem?_toArray, List.getElem?_cons_zero, List.getElem?_cons_succ]; rfl) (by kernel_rfl) (by kernel_rfl) (by kernel_rfl) (fun _ _ _ h => h) (Or.inl ⟨by rfl, ?yy4004⟩) (by assumption) ?rr4004
    case yy4004 => (intro w hSw; (try dsimp only at hSw); go_simp; first | done | with_reducible rfl)
    simp only [Act.put, List.setIfInBounds_toArray, List.set_cons_zero, List.set_cons_succ]
    refine wpAnyH_take (i := 5) (v := ?vv4005) (by simp only [List.getElem?_toArray, List.getElem?_cons_zero, List.getElem?_cons_succ]; rfl) (by kernel_rfl) (by kernel_rfl) (by kernel_rfl) (fun _ _ _ h => h) (Or.inl ⟨by rfl, ?yy4005⟩) (by assumption) ?rr4005
    case yy4005 => (intro w hSw; (try dsimp only at hSw); go_simp; first | done | with_reducible rfl)
    simp only [Act.put, List.setIfInBounds_toArray, List.set_cons_zero, List.set_cons_succ]
    refine wpAnyH_take (i := 6) (v := ?vv4006) (by simp only [List.getElem?_toArray, List.getElem?_cons_zero, List.getElem?_cons_succ]; rfl) (by kernel_rfl) (by kernel_rfl) (by kernel_rfl) (fun _ _ _ h => h) (Or.inl ⟨by rfl, ?yy4006⟩) (by assumption) ?rr4006
    case yy4006 => (intro w hSw; (try dsimp only at hSw); go_simp; first | done | with_reducible rfl)
    simp only [Act.put, List.setIfInBounds_toArray, List.set_cons_zero, List.set_cons_succ]
    refine wpAnyH_ready (rs := [3]) (by kernel_rfl) (by simp) ?_
    refine AllReadyH.cons (by simp only [List.getElem?_toArray, List.getElem?_cons_zero, List.getElem?_cons_succ]; rfl) (fun K hK => ?_) ?_
    · skip
      go_simp
      (with_reducible refine (CA.out _ (HXR.out.below (chain B2.out (chain hd BD.out))) (HYR.out.below (chain B2.out (chain hd BD.out)))).mono ?_)
      rintro e wq2 ⟨A3, k3, n3, rfl, r1, r2, hb, r3, r4, _⟩
      have P1 := Lib.hid r1; have P2 := Lib.hid r2; have P3 := Lib.hid r3; have P4 := Lib.hid r4
      clear hHeld r1 r2 r3 r4
      replace BD := Lib.hid (chain BD.out hb)
      clear hb
      go_wp2_with fail
      refine hK.out _ _ trivial (fun hHeld => ?_)
      clear hK K
      try simp only [Act.put, List.setIfInBounds_toArray, List.set_cons_zero, List.set_cons_succ]
      refine wpAnyH_ready (rs := [7]) (by kernel_rfl) (by simp) ?_
      refine AllReadyH.cons (by simp only [List.getElem?_toArray, List.getElem?_cons_zero, List.getElem?_cons_succ]; rfl) (fun K hK => ?_) ?_
      · skip
        go_simp
        (with_reducible refine (CB.out _ A3 n3 k3 P1.out P3.out P4.out (HX.out.below (chain B2.out (chain hd BD.out))) P2.out).mono ?_)
        rintro e wq3 ⟨A4, k4, n4, rfl, r1, r2, hb, r3, r4⟩
        have R1 := Lib.hid r1; have R2 := Lib.hid r2; have R3 := Lib.hid r3; have R4 := Lib.hid r4
        clear hHeld r1 r2 r3 r4
        replace BD := Lib.hid (chain BD.out hb)
        clear hb
        go_wp2_with fail
        refine hK.out _ _ trivial (fun hHeld => ?_)
        clear hK K
        try simp only [Act.put, List.setIfInBounds_toArray, List.set_cons_zero, List.set_cons_succ]
        refine wpAnyH_take (i := 8) (v := ?vv4007) (by simp only [List.getElem?_toArray, List.getElem?_cons_zero, List.getElem?_cons_succ]; rfl) (by kernel_rfl) (by kernel_rfl) (by kernel_rfl) (fun _ _ _ h => h) (Or.inl ⟨by rfl, ?yy4007⟩) (by assumption) ?rr4007
        case yy4007 => (intro w hSw; (try dsimp only at hSw); go_simp; first | done | with_reducible rfl)
        simp only [Act.put, List.setIfInBounds_toArray, List.set_cons_zero, List.set_cons_succ]
        refine wpAnyH_take (i := 9) (v := ?vv4008) (by simp only [List.getElem?_toArray, List.getElem?_cons_zero, List.getElem?_cons_succ]; rfl) (by kernel_rfl) (by kernel_rfl) (by kernel_rfl) (fun _ _ _ h => h) (Or.inl ⟨by rfl, ?yy4008⟩) (by assumption) ?rr4008
        case yy4008 => (intro w hSw; (try dsimp only at hSw); go_simp; first | done | with_reducible rfl)
        simp only [Act.put, List.setIfInBounds_toArray, List.set_cons_zero, List.set_cons_succ]
        refine wpAnyH_done (by kernel_rfl) ?_ _
        refine NoPanic.normal ?_
        clear hHeld
        have BF := Lib.hid (chain B2.out (chain hd BD.out))
        clear hd BD
        go_wp2_with fail
        go_ret2
        rw [HOK.out, E1.out]
        exact ⟨A4, k4, n4, rfl, R1.out, R2.out, BF.out, R3.out, R4.out⟩
      exact AllReadyH.nil
    exact AllReadyH.nil

end Go.Proofs.YtklgjhldebdegaaGreat

namespace Go.Proofs.YtklgjhldebdegaaGreat
open Go.RowKit

set_option maxHeartbeats 1000000 in
set_option maxRecDepth 100000 in
theorem great13 (c h x : Int) (A : Option Addr) (cA n : Nat) (R : Option Addr) (m cR : Nat) (ps : List Sl) (w : World) (r : Bool) (hr : (anyB ps || decide (60 < (n : Int))) = r) (hR : Rg slcells w R ps) (lm : m = ps.length) (hm : m ≤ 10) :
    Calls Tryz.prog 10 #[.agg #[.int .i64 c, .int .i64 h, .int .i64 x, .slice A n cA], .slice R m cR] w fun e w' => e = .returned (.bool r) ∧ Below w.heap.size w w' := by
  have HR := Lib.hid hR; have LM := Lib.hid lm; have HRR := Lib.hid hr
  have N0 := Lib.hid (NB.new w c h x (.slice A n cA))
  have B0 : Hid (Below w.heap.size w (w.alloc (.cells #[.int .i64 c, .int .i64 h, .int .i64 x, .slice A n cA] 26))) := (Below.refl _ w).alloc (Nat.le_refl _) _
  clear hR lm hr
  go_enter Tryz.func10, Tryz.ntmps10
  go_wp2_with fail
  generalize w.alloc (.cells #[.int .i64 c, .int .i64 h, .int .i64 x, .slice A n cA] 26) = W at N0 B0 ⊢
  go_loopg [5] m (fun g s5 wx => ∃ k : Nat, k ≤ m ∧ Hid (g = m - k) ∧ s5 = .int .i64 (k : Int) ∧ Hid (∀ j p, j < k → ps[j]? = some p → p.n ≤ 3000) ∧ Hid (Below W.heap.size W wx))
  case atStart => exact ⟨0, by omega, by show _ = _; omega, rfl, fun j p hj => absurd hj (by omega), Below.refl _ _⟩
  case round =>
    obtain ⟨k, hk, HG, rfl, AL, BK⟩ := hrel
    have BW := Lib.hid (chain B0.out BK.out)
    by_cases km : k < m
    · have ki : (k : Int) < (m : Int) := by omega
      obtain ⟨b1, o1, rfl, l1, q1⟩ := HR.out (by rw [← LM.out]; omega)
      obtain ⟨p, hp⟩ : ∃ p, ps[k]? = some p := ⟨_, List.getElem?_eq_getElem (by rw [← LM.out]; exact km)⟩
      have z0 := (BW.out.cell (p := ⟨b1, o1 + k, none⟩) l1).trans (sl_cell q1 hp)
      have HP := Lib.hid hp
      clear q1 hp
      by_cases big : 3000 < p.n
      · have d : decide (3000 < (p.n : Int)) = true := decide_eq_true (by omega)
        obtain rfl : r = true := by
          rw [← HRR.out, show anyB ps = true from List.any_eq_true.2 ⟨p, List.mem_of_getElem? HP.out, decide_eq_true big⟩]; rfl
        clear big
        go_wp2_with fail
        go_ret
        exact ⟨rfl, BW.out⟩
      · have d : decide (3000 < (p.n : Int)) = false := decide_eq_false (by omega)
        have AL2 : Hid (∀ j p, j < k + 1 → ps[j]? = some p → p.n ≤ 3000) := fun j p' hj hp' => by
          by_cases e : j = k
          · subst e
            rw [HP.out] at hp'
            rw [← Option.some.inj hp']; omega
          · exact AL.out j p' (by omega) hp'
        clear big
        go_wp2_with fail
        go_roundg (m - (k + 1))
        case measure => have := HG.out; omega
        case rel => exact ⟨k + 1, by omega, rfl, by go_num, AL2, BK⟩
    · obtain rfl : k = m := by omega
      obtain ⟨g, hg⟩ : ∃ g, decide (60 < (n : Int)) = g := ⟨_, rfl⟩
      obtain rfl : g = r := by
        rw [← HRR.out, show anyB ps = false from ?_, hg]; rfl
        unfold anyB
        rw [List.any_eq_false]
        intro p hp
        obtain ⟨j, hj, e⟩ := List.getElem_of_mem hp
        have := AL.out j p (by rw [LM.out]; exact hj) (by rw [List.getElem?_eq_getElem hj, e])
        simp; omega
      have GR := Lib.hid (great_any c h x A cA n wr g hg)
      have NW := Lib.hid (N0.out.below BK.out)
      obtain ⟨c0, c1, c2, c3⟩ := NW.out.cells
      clear hg
      go_wp2_with fail
      refine (GR.out).mono ?_
      rintro e w2 ⟨rfl, hb⟩
      have B2 := Lib.hid (chain BW.out hb)
      clear hb c0 c1 c2 c3
      go_wp2_with fail
      go_ret
      exact ⟨rfl, B2.out⟩

/-! ### The fixed questions -/

def h13 : List Ly := [⟨3, 0, 2, 0⟩, ⟨2, 0, 0, 0⟩]
def hN13 : Nt := ⟨1, 2, 2, h13⟩
def ha13 : List UInt64 := lineU hN13 0 9 0 [1] []
def hc13 : List UInt64 := lineU hN13 1 9 0 [2] []
def he13 : List UInt64 := nextU hN13 0 9 0 ha13 hc13
def hg13 : List UInt64 := nextU hN13 1 9 0 hc13 ha13
def ho13 : List UInt64 := lineU hN13 0 9 1 he13 []
def hq13 : List UInt64 := nextU hN13 1 9 1 hg13 ho13
theorem h13x : firstU hN13 [1, 0, 0, 0] = [1] ∧ okFi hN13 [1, 0, 0, 0] = true := by decide +kernel
theorem h13y : firstU hN13 [0, 0, 1, 1] = [2] ∧ okFi hN13 [0, 0, 1, 1] = true := by decide +kernel
theorem h13a : ha13.length = 2 ∧ okLn hN13 0 [1] [] = true := by decide +kernel
theorem h13c : hc13.length = 2 ∧ okLn hN13 0 [2] [] = true := by decide +kernel
theorem h13e : okNx hN13 0 ha13 hc13 = true ∧ okNx hN13 0 hc13 ha13 = true := by decide +kernel
theorem h13s : addR he13 hg13 = [9] := by decide +kernel
theorem h13l : he13.length = 1 ∧ hg13.length = 1 ∧ ho13.length = 1 ∧ hq13.length = 1 := by decide +kernel
theorem h13o : okLn hN13 1 he13 [] = true ∧ okNx hN13 1 hg13 ho13 = true := by decide +kernel
theorem h13q : hq13 = [9] := by decide +kernel
theorem h13n : okLn hN13 2 [1] [] = false := by decide +kernel

set_option maxHeartbeats 8000000 in
set_option maxRecDepth 100000 in
theorem head13_any (w : World) : Calls Tryz.prog 9 #[] w fun e w' => e = .returned (.bool true) ∧ Below w.heap.size w w' := by
  go_enter Tryz.func9, Tryz.ntmps9
  go_upto_region 2 with fail
  obtain ⟨bl, hbl⟩ : ∃ b, b = w.heap.size := ⟨_, rfl⟩
  rw [← hbl]
  obtain ⟨bn, hbn⟩ : ∃ b, b = bl + 1 := ⟨_, rfl⟩
  obtain ⟨w1, hw1⟩ : ∃ W, W = (w.alloc (.cells #[.int .i64 3, .int .i64 0, .int .i64 2, .int .i64 0, .int .i64 2, .int .i64 0, .int .i64 0, .int .i64 0] 53)).alloc (.cells #[.int .i64 1, .int .i64 2, .int .i64 2, .slice (some ⟨bl, 0, none⟩) 2 2] 26) := ⟨_, rfl⟩
  have RL : Hid (Rl w1 (some ⟨bl, 0, none⟩) h13) := by rw [hw1, hbl]; exact rl_blk (by repeat first | (refine new_at ?_; simp; done) | refine old_at ?_) (by rfl)
  have RN : Hid (NB w1 bn 1 2 2 (.slice (some ⟨bl, 0, none⟩) 2 2)) := by rw [hw1, hbn, hbl]; exact (by repeat first | (refine new_at ?_; simp; done) | refine old_at ?_)
  have B1 : Hid (Below w.heap.size w w1) := by rw [hw1]; exact chain_alloc (chain_alloc (Below.refl _ w) _) _
  rw [← hw1, ← hbn]
  clear hw1 hbn hbl
  obtain ⟨c0, c1, c2, c3⟩ := RN.out.cells
  have nl := RN.out.lt
  go_wp2_with fail
  have ha : Below w1.heap.size w1 (w1.alloc (.cells #[.int .u64 1, .int .u64 0, .int .u64 0, .int .u64 0] 27)) := (Below.refl _ _).alloc (Nat.le_refl _) _
  refine (first13 1 2 2 (some ⟨bl, 0, none⟩) (some ⟨w1.heap.size, 0, none⟩) 2 2 4 4 h13 [1, 0, 0, 0] _ (RL.out.below ha) rfl (by decide) (rg_block (heap_alloc_new w1 _) (by kernel_rfl)) rfl).mono ?_
  rintro e w2 ⟨Ax, kx, nx, rfl, h1, h2, hb, h4, h5⟩
  replace hb := chain ha hb
  clear h4 h5 ha
  rw [show firstU ⟨1, 2, 2, h13⟩ [1, 0, 0, 0] = [1] from h13x.1] at h1 h2
  rw [show okFi ⟨1, 2, 2, h13⟩ [1, 0, 0, 0] = true from h13x.2]
  obtain rfl : nx = 1 := h1
  have Rx := Lib.hid h2
  clear h2
  have B2 := Lib.hid (chain B1.out hb)
  replace RL := Lib.hid (RL.out.below hb)
  replace RN := Lib.hid (RN.out.below hb)
  clear hb B1 c0 c1 c2 c3 nl
  obtain ⟨c0, c1, c2, c3⟩ := RN.out.cells
  have nl := RN.out.lt
  go_wp2_with fail
  have ha : Below w2.heap.size w2 (w2.alloc (.cells #[.int .u64 0, .int .u64 0, .int .u64 1, .int .u64 1] 27)) := (Below.refl _ _).alloc (Nat.le_refl _) _
  refine (first13 1 2 2 (some ⟨bl, 0, none⟩) (some ⟨w2.heap.size, 0, none⟩) 2 2 4 4 h13 [0, 0, 1, 1] _ (RL.out.below ha) rfl (by decide) (rg_block (heap_alloc_new w2 _) (by kernel_rfl)) rfl).mono ?_
  rintro e w3 ⟨Ay, ky, ny, rfl, h1, h2, hb, h4, h5⟩
  replace hb := chain ha hb
  clear h4 h5 ha
  rw [show firstU ⟨1, 2, 2, h13⟩ [0, 0, 1, 1] = [2] from h13y.1] at h1 h2
  rw [show okFi ⟨1, 2, 2, h13⟩ [0, 0, 1, 1] = true from h13y.2]
  obtain rfl : ny = 1 := h1
  have Ry := Lib.hid h2
  clear h2
  have B3 := Lib.hid (chain B2.out hb)
  replace RL := Lib.hid (RL.out.below hb)
  replace RN := Lib.hid (RN.out.below hb)
  replace Rx := Lib.hid (Rx.out.below hb)
  clear hb B2 c0 c1 c2 c3 nl
  obtain ⟨c0, c1, c2, c3⟩ := RN.out.cells
  have nl := RN.out.lt
  go_wp2_with fail
  refine (line13 1 2 2 (some ⟨bl, 0, none⟩) Ax none 2 2 kx 1 0 0 h13 [1] [] 0 9 0 _ RL.out rfl (by decide) Rx.out rfl (Rg.nil _ _ _) rfl).mono ?_
  rintro e w4 ⟨Aa, ka, na, rfl, h1, h2, hb, h4, h5⟩
  clear h4 h5
  rw [show okLn ⟨1, 2, 2, h13⟩ 0 [1] [] = true from h13a.2]
  rw [show lineU ⟨1, 2, 2, h13⟩ 0 9 0 [1] [] = ha13 from rfl] at h1 h2
  obtain rfl : na = 2 := h1.trans h13a.1
  clear h1
  have Ra := Lib.hid h2
  clear h2
  have B4 := Lib.hid (chain B3.out hb)
  replace RL := Lib.hid (RL.out.below hb)
  replace RN := Lib.hid (RN.out.below hb)
  replace Rx := Lib.hid (Rx.out.below hb)
  replace Ry := Lib.hid (Ry.out.below hb)
  clear hb B3 c0 c1 c2 c3 nl
  obtain ⟨c0, c1, c2, c3⟩ := RN.out.cells
  have nl := RN.out.lt
  go_wp2_with fail
  refine (line13 1 2 2 (some ⟨bl, 0, none⟩) Ay none 2 2 ky 1 0 0 h13 [2] [] 1 9 0 _ RL.out rfl (by decide) Ry.out rfl (Rg.nil _ _ _) rfl).mono ?_
  rintro e w5 ⟨Ac, kc, nc, rfl, h1, h2, hb, h4, h5⟩
  clear h4 h5
  rw [show okLn ⟨1, 2, 2, h13⟩ 0 [2] [] = true from h13c.2]
  rw [show lineU ⟨1, 2, 2, h13⟩ 1 9 0 [2] [] = hc13 from rfl] at h1 h2
  obtain rfl : nc = 2 := h1.trans h13c.1
  clear h1
  have Rc := Lib.hid h2
  clear h2
  have B5 := Lib.hid (chain B4.out hb)
  replace RL := Lib.hid (RL.out.below hb)
  replace RN := Lib.hid (RN.out.below hb)
  replace Rx := Lib.hid (Rx.out.below hb)
  replace Ry := Lib.hid (Ry.out.below hb)
  replace Ra := Lib.hid (Ra.out.below hb)
  clear hb B4 c0 c1 c2 c3 nl
  obtain ⟨c0, c1, c2, c3⟩ := RN.out.cells
  have nl := RN.out.lt
  go_wp2_with fail
  refine (next13 1 2 2 (some ⟨bl, 0, none⟩) Aa Ac 2 2 ka 2 kc 2 h13 ha13 hc13 0 9 0 _ RL.out rfl (by decide) Ra.out h13a.1.symm Rc.out h13c.1.symm).mono ?_
  rintro e w6 ⟨Ae, ke, ne, rfl, h1, h2, hb, h4, h5⟩
  clear h4 h5
  rw [show okNx ⟨1, 2, 2, h13⟩ 0 ha13 hc13 = true from h13e.1]
  rw [show nextU ⟨1, 2, 2, h13⟩ 0 9 0 ha13 hc13 = he13 from rfl] at h1 h2
  obtain rfl : ne = 1 := h1.trans h13l.1
  clear h1
  have Re := Lib.hid h2
  clear h2
  have B6 := Lib.hid (chain B5.out hb)
  replace RL := Lib.hid (RL.out.below hb)
  replace RN := Lib.hid (RN.out.below hb)
  replace Rx := Lib.hid (Rx.out.below hb)
  replace Ry := Lib.hid (Ry.out.below hb)
  replace Ra := Lib.hid (Ra.out.below hb)
  replace Rc := Lib.hid (Rc.out.below hb)
  clear hb B5 c0 c1 c2 c3 nl
  obtain ⟨c0, c1, c2, c3⟩ := RN.out.cells
  have nl := RN.out.lt
  go_wp2_with fail
  refine (next13 1 2 2 (some ⟨bl, 0, none⟩) Ac Aa 2 2 kc 2 ka 2 h13 hc13 ha13 1 9 0 _ RL.out rfl (by decide) Rc.out h13c.1.symm Ra.out h13a.1.symm).mono ?_
  rintro e w7 ⟨Ag, kg, ng, rfl, h1, h2, hb, h4, h5⟩
  clear h4 h5
  rw [show okNx ⟨1, 2, 2, h13⟩ 0 hc13 ha13 = true from h13e.2]
  rw [show nextU ⟨1, 2, 2, h13⟩ 1 9 0 hc13 ha13 = hg13 from rfl] at h1 h2
  obtain rfl : ng = 1 := h1.trans h13l.2.1
  clear h1
  have Rgg := Lib.hid h2
  clear h2
  have B7 := Lib.hid (chain B6.out hb)
  replace RL := Lib.hid (RL.out.below hb)
  replace RN := Lib.hid (RN.out.below hb)
  replace Rx := Lib.hid (Rx.out.below hb)
  replace Ry := Lib.hid (Ry.out.below hb)
  replace Ra := Lib.hid (Ra.out.below hb)
  replace Rc := Lib.hid (Rc.out.below hb)
  replace Re := Lib.hid (Re.out.below hb)
  clear hb B6 c0 c1 c2 c3 nl
  obtain ⟨c0, c1, c2, c3⟩ := RN.out.cells
  have nl := RN.out.lt
  go_wp2_with fail
  refine (line13 1 2 2 (some ⟨bl, 0, none⟩) Ae none 2 2 ke 1 0 0 h13 he13 [] 0 9 1 _ RL.out rfl (by decide) Re.out h13l.1.symm (Rg.nil _ _ _) rfl).mono ?_
  rintro e w8 ⟨Ao, ko, no, rfl, h1, h2, hb, h4, h5⟩
  clear h4 h5
  rw [show okLn ⟨1, 2, 2, h13⟩ 1 he13 [] = true from h13o.1]
  rw [show lineU ⟨1, 2, 2, h13⟩ 0 9 1 he13 [] = ho13 from rfl] at h1 h2
  obtain rfl : no = 1 := h1.trans h13l.2.2.1
  clear h1
  have Ro := Lib.hid h2
  clear h2
  have B8 := Lib.hid (chain B7.out hb)
  replace RL := Lib.hid (RL.out.below hb)
  replace RN := Lib.hid (RN.out.below hb)
  replace Rx := Lib.hid (Rx.out.below hb)
  replace Ry := Lib.hid (Ry.out.below hb)
  replace Ra := Lib.hid (Ra.out.below hb)
  replace Rc := Lib.hid (Rc.out.below hb)
  replace Re := Lib.hid (Re.out.below hb)
  replace Rgg := Lib.hid (Rgg.out.below hb)
  clear hb B7 c0 c1 c2 c3 nl
  obtain ⟨c0, c1, c2, c3⟩ := RN.out.cells
  have nl := RN.out.lt
  go_wp2_with fail
  refine (next13 1 2 2 (some ⟨bl, 0, none⟩) Ag Ao 2 2 kg 1 ko 1 h13 hg13 ho13 1 9 1 _ RL.out rfl (by decide) Rgg.out h13l.2.1.symm Ro.out h13l.2.2.1.symm).mono ?_
  rintro e w9 ⟨Aq, kq, nq, rfl, h1, h2, hb, h4, h5⟩
  clear h4 h5
  rw [show okNx ⟨1, 2, 2, h13⟩ 1 hg13 ho13 = true from h13o.2]
  rw [show nextU ⟨1, 2, 2, h13⟩ 1 9 1 hg13 ho13 = hq13 from rfl] at h1 h2
  obtain rfl : nq = 1 := h1.trans h13l.2.2.2
  clear h1
  have Rq := Lib.hid h2
  clear h2
  have B9 := Lib.hid (chain B8.out hb)
  replace RL := Lib.hid (RL.out.below hb)
  replace RN := Lib.hid (RN.out.below hb)
  replace Rx := Lib.hid (Rx.out.below hb)
  replace Ry := Lib.hid (Ry.out.below hb)
  replace Ra := Lib.hid (Ra.out.below hb)
  replace Rc := Lib.hid (Rc.out.below hb)
  replace Re := Lib.hid (Re.out.below hb)
  replace Rgg := Lib.hid (Rgg.out.below hb)
  replace Ro := Lib.hid (Ro.out.below hb)
  clear hb B8 c0 c1 c2 c3 nl
  obtain ⟨c0, c1, c2, c3⟩ := RN.out.cells
  have nl := RN.out.lt
  go_wp2_with fail
  refine (line13 1 2 2 (some ⟨bl, 0, none⟩) Ax none 2 2 kx 1 0 0 h13 [1] [] 0 9 2 _ RL.out rfl (by decide) Rx.out rfl (Rg.nil _ _ _) rfl).mono ?_
  rintro e w10 ⟨An, kn, nn, rfl, h1, h2, hb, h4, h5⟩
  clear h4 h5
  rw [show okLn ⟨1, 2, 2, h13⟩ 2 [1] [] = false from h13n]
  clear h1 h2
  have B10 := Lib.hid (chain B9.out hb)
  replace RL := Lib.hid (RL.out.below hb)
  replace RN := Lib.hid (RN.out.below hb)
  replace Rx := Lib.hid (Rx.out.below hb)
  replace Ry := Lib.hid (Ry.out.below hb)
  replace Ra := Lib.hid (Ra.out.below hb)
  replace Rc := Lib.hid (Rc.out.below hb)
  replace Re := Lib.hid (Re.out.below hb)
  replace Rgg := Lib.hid (Rgg.out.below hb)
  replace Ro := Lib.hid (Ro.out.below hb)
  replace Rq := Lib.hid (Rq.out.below hb)
  clear hb B9 c0 c1 c2 c3 nl
  obtain ⟨c0, c1, c2, c3⟩ := RN.out.cells
  have nl := RN.out.lt
  go_wp2_with fail
  have ha : Below w10.heap.size w10 (w10.alloc (.cells #[.int .u64 1] 27)) := (Below.refl _ _).alloc (Nat.le_refl _) _
  refine (ssame Ax (some ⟨w10.heap.size, 0, none⟩) kx 1 1 1 ([1]) [1] _ (Rx.out.below ha) (rg_block (heap_alloc_new w10 _) (by kernel_rfl)) rfl rfl (by decide) rfl).mono ?_
  rintro e w11 ⟨rfl, hb⟩
  replace hb := chain ha hb
  clear ha
  have B11 := Lib.hid (chain B10.out hb)
  replace RL := Lib.hid (RL.out.below hb)
  replace RN := Lib.hid (RN.out.below hb)
  replace Rx := Lib.hid (Rx.out.below hb)
  replace Ry := Lib.hid (Ry.out.below hb)
  replace Ra := Lib.hid (Ra.out.below hb)
  replace Rc := Lib.hid (Rc.out.below hb)
  replace Re := Lib.hid (Re.out.below hb)
  replace Rgg := Lib.hid (Rgg.out.below hb)
  replace Ro := Lib.hid (Ro.out.below hb)
  replace Rq := Lib.hid (Rq.out.below hb)
  clear hb B10 c0 c1 c2 c3 nl
  obtain ⟨c0, c1, c2, c3⟩ := RN.out.cells
  have nl := RN.out.lt
  go_wp2_with fail
  have ha : Below w11.heap.size w11 (w11.alloc (.cells #[.int .u64 2] 27)) := (Below.refl _ _).alloc (Nat.le_refl _) _
  refine (ssame Ay (some ⟨w11.heap.size, 0, none⟩) ky 1 1 1 ([2]) [2] _ (Ry.out.below ha) (rg_block (heap_alloc_new w11 _) (by kernel_rfl)) rfl rfl (by decide) rfl).mono ?_
  rintro e w12 ⟨rfl, hb⟩
  replace hb := chain ha hb
  clear ha
  have B12 := Lib.hid (chain B11.out hb)
  replace RL := Lib.hid (RL.out.below hb)
  replace RN := Lib.hid (RN.out.below hb)
  replace Rx := Lib.hid (Rx.out.below hb)
  replace Ry := Lib.hid (Ry.out.below hb)
  replace Ra := Lib.hid (Ra.out.below hb)
  replace Rc := Lib.hid (Rc.out.below hb)
  replace Re := Lib.hid (Re.out.below hb)
  replace Rgg := Lib.hid (Rgg.out.below hb)
  replace Ro := Lib.hid (Ro.out.below hb)
  replace Rq := Lib.hid (Rq.out.below hb)
  clear hb B11 c0 c1 c2 c3 nl
  obtain ⟨c0, c1, c2, c3⟩ := RN.out.cells
  have nl := RN.out.lt
  go_wp2_with fail
  refine (nadd Ae Ag ke kg 1 1 he13 hg13 _ Re.out Rgg.out h13l.1.symm h13l.2.1.symm (by decide)).mono ?_
  rintro e w13 ⟨As, ks, ns, rfl, h1, h2, hb, h4, h5, h6⟩
  clear h4 h5 h6
  rw [h13s] at h1 h2
  obtain rfl : ns = 1 := h1
  have Rs := Lib.hid h2
  clear h2
  have B13 := Lib.hid (chain B12.out hb)
  replace RL := Lib.hid (RL.out.below hb)
  replace RN := Lib.hid (RN.out.below hb)
  replace Rx := Lib.hid (Rx.out.below hb)
  replace Ry := Lib.hid (Ry.out.below hb)
  replace Ra := Lib.hid (Ra.out.below hb)
  replace Rc := Lib.hid (Rc.out.below hb)
  replace Re := Lib.hid (Re.out.below hb)
  replace Rgg := Lib.hid (Rgg.out.below hb)
  replace Ro := Lib.hid (Ro.out.below hb)
  replace Rq := Lib.hid (Rq.out.below hb)
  clear hb B12 c0 c1 c2 c3 nl
  obtain ⟨c0, c1, c2, c3⟩ := RN.out.cells
  have nl := RN.out.lt
  go_wp2_with fail
  have ha : Below w13.heap.size w13 (w13.alloc (.cells #[.int .u64 9] 27)) := (Below.refl _ _).alloc (Nat.le_refl _) _
  refine (ssame As (some ⟨w13.heap.size, 0, none⟩) ks 1 1 1 ([9]) [9] _ (Rs.out.below ha) (rg_block (heap_alloc_new w13 _) (by kernel_rfl)) rfl rfl (by decide) rfl).mono ?_
  rintro e w14 ⟨rfl, hb⟩
  replace hb := chain ha hb
  clear ha
  have B14 := Lib.hid (chain B13.out hb)
  replace RL := Lib.hid (RL.out.below hb)
  replace RN := Lib.hid (RN.out.below hb)
  replace Rx := Lib.hid (Rx.out.below hb)
  replace Ry := Lib.hid (Ry.out.below hb)
  replace Ra := Lib.hid (Ra.out.below hb)
  replace Rc := Lib.hid (Rc.out.below hb)
  replace Re := Lib.hid (Re.out.below hb)
  replace Rgg := Lib.hid (Rgg.out.below hb)
  replace Ro := Lib.hid (Ro.out.below hb)
  replace Rq := Lib.hid (Rq.out.below hb)
  replace Rs := Lib.hid (Rs.out.below hb)
  clear hb B13 c0 c1 c2 c3 nl
  obtain ⟨c0, c1, c2, c3⟩ := RN.out.cells
  have nl := RN.out.lt
  go_wp2_with fail
  have ha : Below w14.heap.size w14 (w14.alloc (.cells #[.int .u64 9] 27)) := (Below.refl _ _).alloc (Nat.le_refl _) _
  refine (ssame Aq (some ⟨w14.heap.size, 0, none⟩) kq 1 1 1 (hq13) [9] _ (Rq.out.below ha) (rg_block (heap_alloc_new w14 _) (by kernel_rfl)) h13l.2.2.2.symm rfl (by decide) h13q).mono ?_
  rintro e w15 ⟨rfl, hb⟩
  replace hb := chain ha hb
  clear ha
  have B15 := Lib.hid (chain B14.out hb)
  replace RL := Lib.hid (RL.out.below hb)
  replace RN := Lib.hid (RN.out.below hb)
  replace Rx := Lib.hid (Rx.out.below hb)
  replace Ry := Lib.hid (Ry.out.below hb)
  replace Ra := Lib.hid (Ra.out.below hb)
  replace Rc := Lib.hid (Rc.out.below hb)
  replace Re := Lib.hid (Re.out.below hb)
  replace Rgg := Lib.hid (Rgg.out.below hb)
  replace Ro := Lib.hid (Ro.out.below hb)
  replace Rq := Lib.hid (Rq.out.below hb)
  replace Rs := Lib.hid (Rs.out.below hb)
  clear hb B14 c0 c1 c2 c3 nl
  obtain ⟨c0, c1, c2, c3⟩ := RN.out.cells
  have nl := RN.out.lt
  go_wp2_with fail
  go_ret
  exact ⟨rfl, B15.out⟩

end Go.Proofs.YtklgjhldebdegaaGreat

namespace Go.Proofs.YtklgjhldebdegaaGreat
open Go.RowKit

theorem first_bd (N : Nt) (xs : List UInt64) : (firstU N xs).length ≤ 128 := by
  obtain ⟨c, h, x, ls⟩ := N
  by_cases q : okFi ⟨c, h, x, ls⟩ xs = true
  · obtain ⟨e, hl⟩ := okFi_out q
    unfold firstU
    rw [if_pos q]
    have := pools_len e ls.length 0 xs (by omega) (by omega) (by rw [hl]; rfl)
    have := size_bd (endS ⟨c, h, x⟩ (ls.take (skipN ls 0)))
    omega
  · unfold firstU
    rw [if_neg q]; simp
theorem line_bd (N : Nt) (a : Int) (z : UInt64) (s : Int) (xs ws : List UInt64) : (lineU N a z s xs ws).length ≤ 1024 ∨ (lineU N a z s xs ws).length ≤ xs.length := by
  obtain ⟨c, h, x, ls⟩ := N
  by_cases q : okLn ⟨c, h, x, ls⟩ s xs ws = true
  · unfold lineU
    rw [if_pos q]
    split
    · exact .inr (Nat.le_refl _)
    · rename_i ns
      left
      rw [goes_len]
      obtain ⟨e, s0, s1⟩ := isSt_out (okLn_out q).1
      have := many_bd (s := s.toNat) e (by omega)
      have := gates_bd (c := c) (h := h) (x := x) (ls := ls)
      omega
  · unfold lineU
    rw [if_neg q]; simp
theorem next_bd (N : Nt) (a : Int) (z : UInt64) (s : Int) (ms ts : List UInt64) : (nextU N a z s ms ts).length ≤ 128 := by
  obtain ⟨c, h, x, ls⟩ := N
  by_cases q : okNx ⟨c, h, x, ls⟩ s ms ts = true
  · obtain ⟨i1, i2, i3⟩ := okNx_out q
    obtain ⟨e, s0, s1⟩ := isSt_out i1
    obtain ⟨k, rfl⟩ : ∃ k : Nat, s = k := ⟨s.toNat, by omega⟩
    by_cases ns : k = (stagesN ⟨c, h, x, ls⟩).length
    · subst ns
      unfold nextU
      rw [if_pos q, if_pos rfl]
      have := line_last e
      have := size_bd (endS ⟨c, h, x⟩ ls)
      unfold addU
      rw [List.length_zipWith]
      omega
    · have := next_len (who := a) (z := z) (by omega) q
      rw [in_yes e (by omega)] at this
      have := size_bd (endS ⟨c, h, x⟩ (ls.take (stgN ⟨c, h, x, ls⟩ (k + 1))))
      omega
  · unfold nextU
    rw [if_neg q]; simp

end Go.Proofs.YtklgjhldebdegaaGreat

namespace Go.Proofs.YtklgjhldebdegaaGreat
open Go.ChangeShapes Go.WideShapes Go.ChangeAt Go.RowKit Go.Deep

theorem Tryz.own : ownKnob Tryz.prog.godebug = none := by kernel_rfl
theorem Tryz.laidOut : laidOutB Tryz.prog = true := by kernel_rfl
theorem Tryz.cells26 : Tryz.prog.cellsOf 26 = 4 := by kernel_rfl
theorem Tryz.cells23 : Tryz.prog.cellsOf 23 = 3 := by kernel_rfl
theorem Tryz.cells24 : Tryz.prog.cellsOf 24 = 1 := by kernel_rfl
theorem Tryz.cells53 : Tryz.prog.cellsOf 53 = 4 := by kernel_rfl
theorem Tryz.cells3 : Tryz.prog.cellsOf 3 = 1 := by kernel_rfl
theorem two {α : Type} {l : List α} (h : l.length = 2) : ∃ a b, l = [a, b] := by
  match l, h with
  | [a, b], _ => exact ⟨a, b, rfl⟩
theorem three {α : Type} {l : List α} (h : l.length = 3) : ∃ a b c, l = [a, b, c] := by
  match l, h with
  | [a, b, c], _ => exact ⟨a, b, c, rfl⟩
theorem four {α : Type} {l : List α} (h : l.length = 4) : ∃ a b c d, l = [a, b, c, d] := by
  match l, h with
  | [a, b, c, d], _ => exact ⟨a, b, c, d, rfl⟩
theorem ints_open {H : Type} {enc : TypeId × Value → H} {W : World} {fuel : Nat} {v : Value} {y : DataW H × List MemPlace} (h : DataW.trod enc Tryz.prog W 0 (fun _ => true) true fuel 3 [v] = some y) : ∃ n, v = .int .i64 n := by
  obtain ⟨n, hc, _⟩ := DataW.trod_int Tryz.underlying3 h
  exact ⟨n, by simpa using hc⟩
set_option maxRecDepth 100000 in
theorem shape_open {H : Type} {enc : TypeId × Value → H} {W : World} {fuel : Nat} {a b c : Value} {y : DataW H × List MemPlace} (h : DataW.trod enc Tryz.prog W 0 (fun _ => true) true fuel 23 [a, b, c] = some y) :
    ∃ x y z, a = .int .i64 x ∧ b = .int .i64 y ∧ c = .int .i64 z := by
  obtain ⟨xs, n, _, _, _, hlen, hg⟩ := DataW.trod_struct Tryz.underlying23 h
  have g0 := hg 0 _ rfl
  have g1 := hg 1 _ rfl
  have g2 := hg 2 _ rfl
  obtain ⟨y0, y1, y2, rfl⟩ := three hlen
  simp [Tryz.cells3] at g0 g1 g2
  obtain ⟨x, rfl⟩ := ints_open g0
  obtain ⟨y, rfl⟩ := ints_open g1
  obtain ⟨z, rfl⟩ := ints_open g2
  exact ⟨x, y, z, rfl, rfl, rfl⟩
set_option maxRecDepth 100000 in
theorem lay_open {H : Type} {enc : TypeId × Value → H} {W : World} {fuel : Nat} {cs : List Value} {y : DataW H × List MemPlace} (h : DataW.trod enc Tryz.prog W 0 (fun _ => true) true fuel 53 cs = some y) :
    ∃ l : Ly, cs = [.int .i64 l.k, .int .i64 l.o, .int .i64 l.s, .int .i64 l.t] := by
  obtain ⟨xs, n, _, _, hcl, hlen, hg⟩ := DataW.trod_struct Tryz.underlying53 h
  rw [Tryz.cells53] at hcl
  have g0 := hg 0 _ rfl
  have g1 := hg 1 _ rfl
  have g2 := hg 2 _ rfl
  have g3 := hg 3 _ rfl
  obtain ⟨y0, y1, y2, y3, rfl⟩ := four hlen
  obtain ⟨a, b, c, d, rfl⟩ := four hcl
  simp [Tryz.cells3] at g0 g1 g2 g3
  obtain ⟨x, rfl⟩ := ints_open g0
  obtain ⟨y, rfl⟩ := ints_open g1
  obtain ⟨z, rfl⟩ := ints_open g2
  obtain ⟨u, rfl⟩ := ints_open g3
  exact ⟨⟨x, y, z, u⟩, rfl⟩
theorem lays_open {H : Type} {enc : TypeId × Value → H} {W : World} {fuel : Nat} {v : Value} {y : DataW H × List MemPlace} (h : DataW.trod enc Tryz.prog W 0 (fun _ => true) true fuel 24 [v] = some y) :
    ∃ (A : Option Addr) (n cap : Nat) (ls : List Ly), v = .slice A n cap ∧ n = ls.length ∧ Rl W A ls ∧ n ≤ cap ∧ cap ≤ maxLen := by
  rcases Deep.open_slice Tryz.underlying24 h with ⟨hcs, _⟩ | ⟨a, len, cap, m, n, D, Pl, hcs, _, hl, hmx, hm, _, hc⟩
  · simp at hcs
    exact ⟨none, 0, 0, [], hcs, rfl, Rl.nil _ _, Nat.le_refl _, Nat.zero_le _⟩
  · simp at hcs
    simp at hm
    rw [Tryz.cells53] at hc
    have key : ∀ i, i < len → ∃ l : Ly, W.cells? 0 (a.add (i * 4)) 4 = some [.int .i64 l.k, .int .i64 l.o, .int .i64 l.s, .int .i64 l.t] := fun i hi => by
      obtain ⟨cs', h1, h2⟩ := hc i (by omega)
      obtain ⟨l, rfl⟩ := lay_open h2
      exact ⟨l, h1⟩
    obtain ⟨L, hL⟩ : ∃ L : Nat → Ly, ∀ i, i < len → W.cells? 0 (a.add (i * 4)) 4 = some [.int .i64 (L i).k, .int .i64 (L i).o, .int .i64 (L i).s, .int .i64 (L i).t] :=
      ⟨fun i => if hi : i < len then Classical.choose (key i hi) else Ly.z, fun i hi => by simp only [dif_pos hi]; exact Classical.choose_spec (key i hi)⟩
    refine ⟨some a, len, cap, (List.range len).map L, hcs, by simp, fun h0 => ?_, hl, hmx⟩
    simp only [List.length_map, List.length_range] at h0
    obtain ⟨b, off, spot⟩ := a
    have hat : ∀ i, i < len → ∀ j, j < 4 → W.cell? (((⟨b, off, spot⟩ : Addr).add (i * 4)).add j) = [Value.int .i64 (L i).k, .int .i64 (L i).o, .int .i64 (L i).s, .int .i64 (L i).t][j]? := fun i hi j hj => by
      obtain ⟨_, _, hh⟩ := World.cells?_some (hL i hi)
      exact hh j hj
    have hspot : spot = none := by
      have := hat 0 h0 0 (by omega)
      simpa [Addr.add] using World.cell?_spot (this : _ = some _)
    subst hspot
    have hcell : ∀ i, i < len → ∀ j, j < 4 → W.cell? ⟨b, off + i * 4 + j, none⟩ = [Value.int .i64 (L i).k, .int .i64 (L i).o, .int .i64 (L i).s, .int .i64 (L i).t][j]? := fun i hi j hj => by
      rw [← hat i hi j hj, Go.WideShapes.add_plain, Go.WideShapes.add_plain]
    refine ⟨b, off, rfl, World.block_lt_of_cell? W _ (hcell 0 h0 0 (by omega)), fun j hj => ?_⟩
    simp only [List.length_map, List.length_range] at hj
    have e : ((List.range len).map L).getD j Ly.z = L j := by simp [List.getD_eq_getElem?_getD, hj]
    rw [e]
    exact ⟨hcell j hj 0 (by omega), hcell j hj 1 (by omega), hcell j hj 2 (by omega), hcell j hj 3 (by omega)⟩
set_option maxRecDepth 100000 in
theorem net_open {H : Type} {enc : TypeId × Value → H} {W : World} {base : Nat} {v : Value} {d : DataW H} {p : List MemPlace} (hv : Value.okWide Tryz.prog W .any base 26 v)
    (h : DataW.Trod enc Tryz.prog W 0 (fun _ => true) true 26 v d p) : ∃ (c h x : Int) (A : Option Addr) (n cap : Nat) (ls : List Ly), v = .agg #[.int .i64 c, .int .i64 h, .int .i64 x, .slice A n cap] ∧ n = ls.length ∧ Rl W A ls ∧ n ≤ cap ∧ cap ≤ maxLen := by
  obtain ⟨cs, rfl, hsz⟩ := okWide_struct Tryz.underlying26 hv
  obtain ⟨l⟩ := cs
  have hl4 : l.length = 4 := hsz.trans Tryz.cells26
  obtain ⟨v0, v1, v2, v3, rfl⟩ := four hl4
  obtain ⟨fuel, hf⟩ := h
  obtain ⟨xs, n, _, _, _, hlen, hg⟩ := DataW.trod_struct Tryz.underlying26 hf
  have g0 := hg 0 _ rfl
  have g1 := hg 1 _ rfl
  obtain ⟨y0, y1, rfl⟩ := two hlen
  simp [Value.cells, Tryz.cells23, Tryz.cells24] at g0 g1
  obtain ⟨c, h, x, rfl, rfl, rfl⟩ := shape_open g0
  obtain ⟨A, m, cap, ls, rfl, hm, hR, hl, hx⟩ := lays_open g1
  exact ⟨c, h, x, A, m, cap, ls, rfl, hm, hR, hl, hx⟩
end Go.Proofs.YtklgjhldebdegaaGreat

namespace Go.Proofs.YtklgjhldebdegaaGreat
open Go.ChangeShapes Go.WideShapes Go.ChangeAt Go.RowKit Go.Deep

theorem Tryz.cells27 : Tryz.prog.cellsOf 27 = 1 := by kernel_rfl
theorem u64_of_wf {n : Int} (h : (Lit.int .u64 n).wf = true) : ∃ u : UInt64, n = uz u := by
  have h2 := bounds_u64 h
  exact uz_of h2.1 (by omega)
theorem ru_of_cells {w : World} {x : Addr} {len cap : Nat} {zs : List Int} (hl : len ≤ cap) (hz : zs.length = cap)
    (hcell : ∀ i, i < zs.length → w.cell? (x.add i) = some (.int .u64 (zs.getD i 0))) (hwz : ∀ n ∈ zs, (Lit.int .u64 n).wf = true) :
    ∃ us : List UInt64, len = us.length ∧ Rg ucells w (some x) us ∧ len ≤ cap := by
  refine ⟨(zs.take len).map (fun n => UInt64.ofNat n.toNat), by simp; omega, fun h0 => ?_, hl⟩
  simp only [List.length_map, List.length_take] at h0
  obtain ⟨b, off, rfl, hc⟩ := ints_at hcell (by omega)
  refine ⟨b, off, rfl, World.block_lt_of_cell? w _ (hc 0 (by omega)), fun j u hu => ?_⟩
  have hj := (List.getElem?_eq_some_iff.1 hu).1
  rw [flat_len ucells_len, Nat.mul_one] at hj
  have hj2 := hj
  simp only [List.length_map, List.length_take] at hj2
  have g1 := flat_get ucells_len _ j 0 _ (List.getElem?_eq_getElem hj) (by omega)
  rw [Nat.mul_one, Nat.add_zero, hu] at g1
  rw [hc j (by omega), g1]
  have hjz : j < zs.length := by omega
  have hn := bounds_u64 (hwz _ (List.getElem_mem hjz))
  simp only [ucells, List.getElem?_cons_zero, Option.some.injEq, Value.int.injEq, true_and, List.getElem_map, List.getElem_take, List.getD_eq_getElem?_getD, List.getElem?_eq_getElem hjz, Option.getD_some]
  unfold uz
  rw [UInt64.toNat_ofNat']
  omega
theorem ru_open {H : Type} {enc : TypeId × Value → H} {W : World} {a : Option Addr} {len cap : Nat} {d : DataW H} {p : List MemPlace}
    (h : DataW.Trod enc Tryz.prog W 0 (fun _ => true) true 28 (.slice a len cap) d p) : ∃ us : List UInt64, len = us.length ∧ Rg ucells W a us ∧ len ≤ cap := by
  obtain ⟨fuel, hf⟩ := h
  rcases open_ints Tryz.underlying28 Tryz.underlying27 Tryz.cells27 hf with ⟨hcs, _⟩ | ⟨x, l, c, zs, hcs, _, hl, hm, hz, _, hcell, hwz⟩
  · simp [Value.cells] at hcs
    obtain ⟨rfl, rfl, rfl⟩ := hcs
    exact ⟨[], rfl, Rg.nil _ _ _, Nat.le_refl _⟩
  · simp [Value.cells] at hcs
    obtain ⟨rfl, rfl, rfl⟩ := hcs
    exact ru_of_cells hl (by simpa using hz) hcell hwz

end Go.Proofs.YtklgjhldebdegaaGreat

namespace Go.Proofs.YtklgjhldebdegaaGreat
open Go.RowKit

/-- What a stage makes. -/
def throughU (N : Nt) (st : Nat) (xs ws : List UInt64) : List UInt64 := poolsU N (stgN N st + 1) (layK (atN N (stgN N st : Nat)) xs ws)

set_option maxHeartbeats 4000000 in
set_option maxRecDepth 100000 in
theorem through13 (c h x : Int) (A X W : Option Addr) (cA n cX nx cW nw : Nat) (ls : List Ly) (xs ws : List UInt64) (st : Nat) (w : World) (hx : Rl w A ls) (ln : n = ls.length) (hn : n ≤ 60) (hX : Rg ucells w X xs) (lx : nx = xs.length) (hW : Rg ucells w W ws) (lw : nw = ws.length)
    (he : errN ⟨c, h, x, ls⟩ = 0) (hs : st < (stagesN ⟨c, h, x, ls⟩).length) (hxl : (xs.length : Int) = inN ⟨c, h, x, ls⟩ (st : Int)) (hwl : (ws.length : Int) = totW (knN ⟨c, h, x, ls⟩)) :
    Calls Tryz.prog 20 #[.agg #[.int .i64 c, .int .i64 h, .int .i64 x, .slice A n cA], .int .i64 (st : Int), .slice X nx cX, .slice W nw cW] w (RowTo ucells (throughU ⟨c, h, x, ls⟩ st xs ws) w) := by
  obtain ⟨q1, q2, q3, q4⟩ := stg_at he hs
  obtain ⟨ig, hig⟩ : ∃ ig, ig = stgN ⟨c, h, x, ls⟩ st := ⟨_, rfl⟩
  rw [← hig] at q1 q2 q4
  have ok : okL ⟨c, h, x, ls⟩ (ig : Int) xs ws = true := decide_eq_true ⟨⟨he, by omega, by show (ig : Int) < (ls.length : Int); omega⟩, by rw [hxl, in_layer he hs, hig], hwl⟩
  obtain ⟨zs, hzs⟩ : ∃ zs, layN ⟨c, h, x, ls⟩ (ig : Int) xs ws = zs := ⟨_, rfl⟩
  have zl : (zs.length : Int) = (endS ⟨c, h, x⟩ (ls.take (ig + 1))).n := by
    rw [← hzs, lay_yes ok, lay_len, run_end c h x ls (get_ly q1), at_some he (get_ly q1)]
    have := size_bd (outS (endS ⟨c, h, x⟩ (ls.take ig)) (ls.getD ig Ly.z))
    show ((outS _ _).n.toNat : Int) = _
    omega
  have TH : Hid (throughU ⟨c, h, x, ls⟩ st xs ws = poolsU ⟨c, h, x, ls⟩ (ig + 1) zs) := by
    show _ = _
    unfold throughU
    rw [← hzs, lay_yes ok, hig]
  have HX := Lib.hid hx; have LX := Lib.hid ln; have HXR := Lib.hid hX; have LXX := Lib.hid lx; have HWR := Lib.hid hW; have LWW := Lib.hid lw
  have HE := Lib.hid he; have HWL := Lib.hid hwl; have OK := Lib.hid ok; have HZ := Lib.hid hzs; have ZL := Lib.hid zl; have Q4 := Lib.hid q4; have Q1 := Lib.hid q1; have HS := Lib.hid hs
  have hn1 : n ≤ 1000 := by omega
  have sb : (stagesN ⟨c, h, x, ls⟩).length ≤ 60 := by
    rw [show stagesN ⟨c, h, x, ls⟩ = stK ls ls.length from if_pos he]
    have := stK_len ls ls.length
    omega
  have ig60 : ig < 60 := by omega
  clear hx ln hX lx hW lw he hwl ok hzs zl q1 q2 q3 q4 hs hig hxl
  go_enter Tryz.func20, Tryz.ntmps20
  go_wp2_with fail
  refine (rstages8 c h x A cA n ls _ (HX.out.below ((Below.refl _ w).alloc (Nat.le_refl _) _)) LX.out hn).mono ?_
  rintro e w1 ⟨A2, k2, n2, rfl, hn2, hR2, hb, hd1, hd2⟩
  have B1 := Lib.hid (chain ((Below.refl w.heap.size w).alloc (Nat.le_refl _) _) hb)
  have N1 := Lib.hid ((NB.new w c h x (.slice A n cA)).below hb)
  obtain ⟨bT, oT, rfl, hlT, hcT⟩ := hR2 (by have := HS.out; omega)
  have y0 := in_cell hcT Q4.out
  have st0 : (0 : Int) ≤ (st : Int) := by omega
  have st2 : st < n2 := by rw [hn2]; exact HS.out
  clear hb hR2 hn2 hd1 hd2 hcT
  obtain ⟨c0, c1, c2, c3⟩ := N1.out.cells
  go_wp2_with fail
  refine (rlay7_any c h x A X W cA n cX nx cW nw ls xs ws zs (ig : Int) true _ (HX.out.below B1.out) LX.out hn1 (HXR.out.below B1.out) LXX.out (HWR.out.below B1.out) LWW.out HZ.out OK.out).mono ?_
  rintro e w2 ⟨A3, k3, n3, rfl, h1, h2, hb, h4, h5⟩
  have M3 := Lib.hid h1; have R3 := Lib.hid h2; have K3 := Lib.hid h4; have K4 := Lib.hid h5
  have B2 := Lib.hid (chain B1.out hb)
  have N2 := Lib.hid (N1.out.below hb)
  clear h1 h2 hb h4 h5 c0 c1 c2 c3 y0 hlT B1 N1
  obtain ⟨i1, hi1⟩ : ∃ i1, i1 = ig + 1 := ⟨_, rfl⟩
  have v1 : IntKind.i64.wrap ((ig : Int) + 1) = (i1 : Int) := next_i64 hi1 (Nat.lt_succ_self ig) (by omega)
  have v2 : wrap64 ((ig : Int) + 1) = (i1 : Int) := next_wrap hi1 (Nat.lt_succ_self ig) (by omega)
  have HI := Lib.hid hi1
  clear hi1
  obtain ⟨c0, c1, c2, c3⟩ := N2.out.cells
  go_wp2_with fail
  clear v1 v2 c0 c1 c2 c3
  have in1 : i1 ≤ n := by have := HI.out; have := Q1.out; have := LX.out; omega
  have YI : Hid (∃ A' k' n' ys, (Value.slice A3 n3 k3) = .slice A' n' k' ∧ n' = ys.length ∧ Rg ucells w2 A' ys ∧ poolsU ⟨c, h, x, ls⟩ i1 ys = throughU ⟨c, h, x, ls⟩ st xs ws ∧ (ys.length : Int) = (endS ⟨c, h, x⟩ (ls.take i1)).n ∧ n' ≤ k' ∧ k' ≤ maxLen) :=
    ⟨A3, k3, n3, zs, rfl, M3.out, R3.out, by rw [TH.out, HI.out], by rw [HI.out]; exact ZL.out, K3.out, K4.out⟩
  go_loopg [9, 10, 12, 13] (n - i1) (fun g s1 s2 _ _ wx => ∃ k : Nat, i1 ≤ k ∧ k ≤ n ∧ Hid (g = n - k) ∧ s1 = .int .i64 (k : Int) ∧ Hid (∃ A' k' n' ys, s2 = .slice A' n' k' ∧ n' = ys.length ∧ Rg ucells wx A' ys ∧ poolsU ⟨c, h, x, ls⟩ k ys = throughU ⟨c, h, x, ls⟩ st xs ws ∧ (ys.length : Int) = (endS ⟨c, h, x⟩ (ls.take k)).n ∧ n' ≤ k' ∧ k' ≤ maxLen) ∧ Hid (Below w2.heap.size w2 wx))
  case atStart => exact ⟨i1, Nat.le_refl _, in1, by show _ = _; omega, rfl, YI, Below.refl _ _⟩
  case round =>
    obtain ⟨k, hik, hk, HG, rfl, YK, BK⟩ := hrel
    obtain ⟨A6, k6, n6, ys, rfl, h61, h62, h63, h64, h65, h66⟩ := YK.out
    have Y1 := Lib.hid h61; have Y2 := Lib.hid h62; have Y3 := Lib.hid h63; have Y4 := Lib.hid h64; have Y5 := Lib.hid h65; have Y6 := Lib.hid h66
    have BX := Lib.hid (chain B2.out BK.out)
    have NX := Lib.hid (N2.out.below BK.out)
    obtain ⟨c0, c1, c2, c3⟩ := NX.out.cells
    clear h61 h62 h63 h64 h65 h66 YK
    by_cases kn : k < n
    · have ki : (k : Int) < (n : Int) := by omega
      have k0 : (0 : Int) ≤ (k : Int) := Int.natCast_nonneg _
      have kl : k < ls.length := by rw [← LX.out]; exact kn
      obtain ⟨b1, o1, rfl, l1, q⟩ := HX.out (by omega)
      obtain ⟨z0, z1, z2, z3⟩ := (q k kl).below BX.out l1
      obtain ⟨l, hl⟩ : ∃ l, l = ls.getD k Ly.z := ⟨_, rfl⟩
      rw [← hl] at z0 z1 z2 z3
      have HLY := Lib.hid hl
      have KL := Lib.hid kl
      clear q hl kl
      by_cases k3' : l.k = 3
      · have d1 : (l.k == 3) = true := by rw [k3']; rfl
        have K3' := Lib.hid k3'
        clear k3'
        obtain ⟨us, hus⟩ : ∃ us, layN ⟨c, h, x, ls⟩ (k : Nat) ys ws = us := ⟨_, rfl⟩
        obtain ⟨p1, p2, p3⟩ := skip_step HE.out KL.out (by rw [← HLY.out]; exact K3'.out) Y4.out HWL.out
        rw [hus] at p2 p3
        have P1 := Lib.hid p1; have P2 := Lib.hid p2; have P3 := Lib.hid p3; have HU := Lib.hid hus
        clear p1 p2 p3 hus
        go_wp2_with fail
        refine (rlay7_any c h x (some ⟨b1, o1, none⟩) A6 W cA n k6 n6 cW nw ls ys ws us (k : Int) true _ (HX.out.below BX.out) LX.out hn1 Y2.out Y1.out (HWR.out.below BX.out) LWW.out HU.out P1.out).mono ?_
        rintro e w20 ⟨A7, k7, n7, rfl, h71, h72, hb, h74, h75⟩
        have Z1 := Lib.hid h71; have Z2 := Lib.hid h72; have Z4 := Lib.hid h74; have Z5 := Lib.hid h75
        have B7 := Lib.hid (chain BK.out hb)
        have YN : Hid (∃ A' k' n' ys, (Value.slice A7 n7 k7) = .slice A' n' k' ∧ n' = ys.length ∧ Rg ucells w20 A' ys ∧ poolsU ⟨c, h, x, ls⟩ (k + 1) ys = throughU ⟨c, h, x, ls⟩ st xs ws ∧ (ys.length : Int) = (endS ⟨c, h, x⟩ (ls.take (k + 1))).n ∧ n' ≤ k' ∧ k' ≤ maxLen) :=
          ⟨A7, k7, n7, us, rfl, Z1.out, Z2.out, P2.out.symm.trans Y3.out, P3.out, Z4.out, Z5.out⟩
        clear h71 h72 h74 h75 hb c0 c1 c2 c3 z0 z1 z2 z3
        go_wp2_with fail
        go_roundg (n - (k + 1))
        case measure => have := HG.out; omega
        case rel => exact ⟨k + 1, by omega, by omega, rfl, by go_num, YN, B7⟩
      · have d1 : (l.k == 3) = false := by simpa using k3'
        have EQ : Hid (poolsU ⟨c, h, x, ls⟩ k ys = ys) := pools_here (N := ⟨c, h, x, ls⟩) KL.out (by rw [← HLY.out]; exact k3') ys
        clear k3'
        go_wp2_with fail
        go_ret
        exact ⟨A6, k6, n6, rfl, by rw [← Y3.out, EQ.out]; exact Y1.out, by rw [← Y3.out, EQ.out]; exact Y2.out, BX.out, Y5.out, Y6.out⟩
    · obtain rfl : k = n := by omega
      have EQ : Hid (poolsU ⟨c, h, x, ls⟩ k ys = ys) := pools_end (N := ⟨c, h, x, ls⟩) (by show ls.length ≤ k; rw [LX.out]; exact Nat.le_refl _) ys
      go_wp2_with fail
      go_ret
      exact ⟨A6, k6, n6, rfl, by rw [← Y3.out, EQ.out]; exact Y1.out, by rw [← Y3.out, EQ.out]; exact Y2.out, BX.out, Y5.out, Y6.out⟩

end Go.Proofs.YtklgjhldebdegaaGreat

namespace Go.Proofs.YtklgjhldebdegaaGreat
open Go.RowKit

theorem big_err {c h x : Int} {ls : List Ly} (h8 : 8 < ls.length) : errN ⟨c, h, x, ls⟩ = 12 := err_form (form_no2 (c := c) (h := h) (x := x) (ls := ls) h8)

set_option maxHeartbeats 4000000 in
set_option maxRecDepth 100000 in
theorem rform_big (c h x : Int) (A : Option Addr) (cA n : Nat) (w : World) (h8 : 8 < n) :
    Calls Tryz.prog 60 #[.agg #[.int .i64 c, .int .i64 h, .int .i64 x, .slice A n cA]] w fun e w' => e = .returned (.bool false) ∧ Below w.heap.size w w' := by
  have HB := Lib.hid ((Below.refl w.heap.size w).alloc (Nat.le_refl _) (.cells #[.int .i64 c, .int .i64 h, .int .i64 x, .slice A n cA] 26))
  have d8 : decide (8 < n) = true := by simpa using h8
  have e8 : decide ((8 : Int) < (n : Int)) = true := by simp; omega
  clear h8
  go_enter Tryz.func60, Tryz.ntmps60
  go_wp2_with fail
  refine (rwithin_any c _).mono ?_
  rintro e w1 ⟨rfl, rfl⟩
  cases h1 : winB c
  · clear h1
    go_wp2_with fail
    go_ret
    exact ⟨rfl, HB.out⟩
  clear h1
  go_wp2_with fail
  refine (rwithin_any h _).mono ?_
  rintro e w1 ⟨rfl, rfl⟩
  cases h1 : winB h
  · clear h1
    go_wp2_with fail
    go_ret
    exact ⟨rfl, HB.out⟩
  clear h1
  go_wp2_with fail
  refine (rwithin_any x _).mono ?_
  rintro e w1 ⟨rfl, rfl⟩
  cases h1 : winB x
  · clear h1
    go_wp2_with fail
    go_ret
    exact ⟨rfl, HB.out⟩
  clear h1
  go_wp2_with fail
  go_ret
  exact ⟨rfl, HB.out⟩

set_option maxHeartbeats 1000000 in
theorem rshapes_big (c h x : Int) (A : Option Addr) (cA n : Nat) (w : World) (h8 : 8 < n) :
    Calls Tryz.prog 41 #[.agg #[.int .i64 c, .int .i64 h, .int .i64 x, .slice A n cA]] w fun e w' => e = .returned (.tuple #[.slice none 0 0, .int .i64 12]) ∧ Below w.heap.size w w' := by
  have H8 := Lib.hid h8
  clear h8
  go_enter Tryz.func41, Tryz.ntmps41
  go_wp2_with fail
  refine (rform_big c h x A cA n _ H8.out).mono ?_
  rintro e w1 ⟨rfl, hb⟩
  have B1 := Lib.hid (chain ((Below.refl w.heap.size w).alloc (Nat.le_refl _) _) hb)
  clear hb
  go_wp2_with fail
  go_ret2
  exact ⟨rfl, B1.out⟩

set_option maxHeartbeats 1000000 in
theorem rweights_big (c h x : Int) (A : Option Addr) (cA n : Nat) (i : Int) (w : World) (h8 : 8 < n) :
    Calls Tryz.prog 45 #[.agg #[.int .i64 c, .int .i64 h, .int .i64 x, .slice A n cA], .int .i64 i] w fun e w' => e = .returned (.tuple #[.int .i64 0, .int .i64 0]) ∧ Below w.heap.size w w' := by
  have H8 := Lib.hid h8
  clear h8
  go_enter Tryz.func45, Tryz.ntmps45
  go_wp2_with fail
  refine (rshapes_big c h x A cA n _ H8.out).mono ?_
  rintro e w1 ⟨rfl, hb⟩
  have B1 := Lib.hid (chain ((Below.refl w.heap.size w).alloc (Nat.le_refl _) _) hb)
  clear hb
  go_wp2_with fail
  go_ret2
  exact ⟨rfl, B1.out⟩

set_option maxHeartbeats 1000000 in
theorem rproducts_big (c h x : Int) (A : Option Addr) (cA n : Nat) (i : Int) (w : World) (h8 : 8 < n) :
    Calls Tryz.prog 46 #[.agg #[.int .i64 c, .int .i64 h, .int .i64 x, .slice A n cA], .int .i64 i] w fun e w' => e = .returned (.int .i64 0) ∧ Below w.heap.size w w' := by
  have H8 := Lib.hid h8
  clear h8
  go_enter Tryz.func46, Tryz.ntmps46
  go_wp2_with fail
  refine (rshapes_big c h x A cA n _ H8.out).mono ?_
  rintro e w1 ⟨rfl, hb⟩
  have B1 := Lib.hid (chain ((Below.refl w.heap.size w).alloc (Nat.le_refl _) _) hb)
  clear hb
  go_wp2_with fail
  go_ret
  exact ⟨rfl, B1.out⟩

set_option maxHeartbeats 2000000 in
set_option maxRecDepth 100000 in
theorem rall_big (c h x : Int) (A : Option Addr) (cA n : Nat) (w : World) (h8 : 8 < n) :
    Calls Tryz.prog 21 #[.agg #[.int .i64 c, .int .i64 h, .int .i64 x, .slice A n cA]] w fun e w' => e = .returned (.tuple #[.int .i64 0, .int .i64 0]) ∧ Below w.heap.size w w' := by
  have H8 := Lib.hid h8
  clear h8
  obtain ⟨W, hW⟩ : ∃ W, W = w.alloc (.cells #[.int .i64 c, .int .i64 h, .int .i64 x, .slice A n cA] 26) := ⟨_, rfl⟩
  have BW : Hid (Below w.heap.size w W) := by rw [hW]; exact (Below.refl _ w).alloc (Nat.le_refl _) _
  have NW : Hid (NB W w.heap.size c h x (.slice A n cA)) := by rw [hW]; exact NB.new w c h x _
  go_enter Tryz.func21, Tryz.ntmps21
  go_wp2_with fail
  rw [← hW]
  clear hW
  go_loopw [4, 5, 6] (fun a p i wr => ∃ k : Nat, k ≤ 9 ∧ a = .int .i64 0 ∧ p = .int .i64 0 ∧ i = .int .i64 k ∧ Hid (Below W.heap.size W wr)) (fun _ _ i _ => 9 - (intOf i).toNat)
  case atStart => exact ⟨0, Nat.zero_le _, rfl, rfl, rfl, Below.refl _ _⟩
  case round =>
    obtain ⟨k, hk9, rfl, rfl, rfl, BC⟩ := hrel
    have N1 := Lib.hid (NW.out.below BC.out)
    obtain ⟨c0, c1, c2, c3⟩ := N1.out.cells
    by_cases k8 : k ≤ 8
    · have d1 : decide (k < n) = true := decide_eq_true (by have := H8.out; omega)
      have d2 : decide ((k : Int) < (n : Int)) = true := decide_eq_true (by have := H8.out; omega)
      have d3 : decide (k ≤ 8) = true := decide_eq_true k8
      have d4 : decide ((k : Int) ≤ 8) = true := decide_eq_true (by omega)
      go_wp2_with fail
      refine (rweights_big c h x A cA n k _ H8.out).mono ?_
      rintro e w2 ⟨rfl, hb⟩
      have BC2 := Lib.hid (chain BC.out hb)
      have N2 := Lib.hid (N1.out.below hb)
      clear hb c0 c1 c2 c3
      obtain ⟨c0, c1, c2, c3⟩ := N2.out.cells
      go_wp2_with fail
      refine (rproducts_big c h x A cA n k _ H8.out).mono ?_
      rintro e w3 ⟨rfl, hb⟩
      have BC3 := Lib.hid (chain BC2.out hb)
      clear hb c0 c1 c2 c3
      go_wp2_with fail
      go_roundw
      case rel => exact ⟨k + 1, by omega, rfl, rfl, by go_num, BC3⟩
      case measure => simp [intOf]; omega
    · have d3 : decide (k ≤ 8) = false := decide_eq_false k8
      have d4 : decide ((k : Int) ≤ 8) = false := decide_eq_false (by omega)
      by_cases k1 : k < n
      · have d1 : decide (k < n) = true := decide_eq_true k1
        have d2 : decide ((k : Int) < (n : Int)) = true := decide_eq_true (by omega)
        go_wp2_with fail
        go_ret2
        exact ⟨rfl, chain BW.out BC.out⟩
      · have d1 : decide (k < n) = false := decide_eq_false k1
        have d2 : decide ((k : Int) < (n : Int)) = false := decide_eq_false (by omega)
        go_wp2_with fail
        go_ret2
        exact ⟨rfl, chain BW.out BC.out⟩

/-- All, of a network with however many layers. -/
theorem rall_any (c h x : Int) (A : Option Addr) (cA n : Nat) (ls : List Ly) (w : World) (hx : Rl w A ls) (ln : n = ls.length) :
    Calls Tryz.prog 21 #[.agg #[.int .i64 c, .int .i64 h, .int .i64 x, .slice A n cA]] w fun e w' => e = .returned (.tuple #[.int .i64 (totW (knN ⟨c, h, x, ls⟩)), .int .i64 (totP (knN ⟨c, h, x, ls⟩))]) ∧ Below w.heap.size w w' := by
  by_cases h8 : 8 < n
  · have : knN ⟨c, h, x, ls⟩ = [] := knN_no (by rw [big_err (by omega)]; decide)
    rw [this]
    exact rall_big c h x A cA n w h8
  · exact rall_of c h x A cA n ls w hx ln (by omega)

end Go.Proofs.YtklgjhldebdegaaGreat
