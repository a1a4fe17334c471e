/-
  ChunkWhole: what is cut is gathered again, in whatever order its chunks come, and however often; so is any part of it.
-/
import Derived.Test.YtlllinpaclodaaaCHead
import Derived.Deep.LoopGhost
namespace Go.Proofs.Ytlllinpaclodaaa
open Go.RowKit

set_option maxHeartbeats 8000000 in
set_option maxRecDepth 100000 in
theorem law_cwhole (h : Int) (Al : Option Addr) (cl nl : Nat) (xl : List UInt64) (Ao : Option Addr) (co no : Nat) (xo : List UInt8) (f m : Int) (w : World) (bh : 0 ≤ h ∧ h ≤ 65535) (bf : 0 ≤ f ∧ f ≤ 255) (bm : 0 ≤ m ∧ m ≤ 255) (hl : Rg ucells w Al xl) (ll : nl = xl.length) (kl : nl ≤ cl) (ho : Rg bcells w Ao xo) (lo : no = xo.length) (ko : no ≤ co) :
    Calls Try.prog 5 #[.int .u16 h, .slice Al nl cl, .slice Ao no co, .int .u8 f, .int .u8 m] w fun e w' => e = .returned (.bool true) ∧ Below w.heap.size w w' := by
  have Rl := Lib.hid hl; have Ml := Lib.hid ll; have Kl := Lib.hid kl
  have Ro := Lib.hid ho; have Mo := Lib.hid lo; have Ko := Lib.hid ko
  clear hl ll kl ho lo ko
  obtain ⟨i0, hi, hz0, hz1, hz2⟩ := info_parts Try.infoH
  obtain ⟨h0, h1⟩ := bh
  obtain ⟨f0, f1⟩ := bf
  obtain ⟨m0, m1⟩ := bm
  obtain ⟨p, hp⟩ : ∃ p : Nat, h % 60000 = p := ⟨(h % 60000).toNat, by omega⟩
  have p6 : p < 60000 := by omega
  by_cases g0 : 900 < nl
  · skip
    have d0 : decide (900 < (nl : Int)) = true := decide_eq_true (by omega)
    clear g0
    go_enter Try.func5, Try.ntmps5
    go_wp2_with fail
    refine (head14_any _).mono ?_
    rintro e w1 ⟨rfl, hb⟩
    have B1 := Lib.hid hb
    replace Rl := Lib.hid (Rl.out.below hb)
    replace Ro := Lib.hid (Ro.out.below hb)
    clear hb
    go_wp2_with fail
    go_ret
    exact ⟨rfl, B1.out⟩
  have d0 : decide (900 < (nl : Int)) = false := decide_eq_false (by omega)
  by_cases g1 : 200 < no
  · skip
    have d1 : decide (200 < (no : Int)) = true := decide_eq_true (by omega)
    clear g0 g1
    go_enter Try.func5, Try.ntmps5
    go_wp2_with fail
    refine (head14_any _).mono ?_
    rintro e w1 ⟨rfl, hb⟩
    have B1 := Lib.hid hb
    replace Rl := Lib.hid (Rl.out.below hb)
    replace Ro := Lib.hid (Ro.out.below hb)
    clear hb
    go_wp2_with fail
    go_ret
    exact ⟨rfl, B1.out⟩
  have d1 : decide (200 < (no : Int)) = false := decide_eq_false (by omega)
  have l9 : nl ≤ 900 := by omega
  have o9 : no ≤ 200 := by omega
  clear g0 g1
  have OK : Hid (okCut (p : Int) xl.length = true) := ok_cut.2 ⟨by omega, by omega, by rw [← Ml.out]; omega⟩
  obtain ⟨kk, hk⟩ : ∃ kk : Nat, f % ((nl : Int) + 1) = kk := ⟨(f % ((nl : Int) + 1)).toNat, by have := Int.emod_nonneg f (b := (nl : Int) + 1) (by omega); omega⟩
  have kl : kk ≤ nl := by have := Int.emod_lt_of_pos f (b := (nl : Int) + 1) (by omega); omega
  obtain ⟨mm, hmm⟩ : ∃ mm : Nat, m = mm := ⟨m.toNat, by omega⟩
  obtain ⟨nn, hnn⟩ : ∃ nn : Nat, nn = min mm (nl - kk) := ⟨_, rfl⟩
  have hmin : ∀ (ts : Array TypeId) (ty : TypeId) (w : World), (Builtin.min_ ts ty #[.int .i64 m, .int .i64 ((nl : Int) - (kk : Int))]).run Try.prog w = .ok (.int .i64 (nn : Int)) w := by
    intro ts t w
    simp [Builtin.min_, Builtin.min2]
    repeat' split
    all_goals omega
  have n9 : kk + nn ≤ nl := by omega
  obtain ⟨Az, hsl, hRz⟩ := u_mid Al nl cl kk (kk + nn) (by omega) n9 Kl.out
  have esl : ((kk : Int) + (nn : Int)) = ((kk + nn : Nat) : Int) := by omega
  rw [← esl] at hsl
  rw [show kk + nn - kk = nn by omega] at hsl
  have SL := Lib.hid hsl; have HM := Lib.hid hmm
  obtain ⟨ncc, hnc⟩ : ∃ ncc, ncc = (nl + 5) / 6 := ⟨_, rfl⟩
  have nc9 : ncc ≤ 151 := by omega
  have CL : Hid ((cutC (p : Int) xl).length = ncc) := by show _ = _; rw [cut_len OK.out, hnc, Ml.out]
  have HC := Lib.hid hnc
  have HL := Lib.hid (ga_whole OK.out (by rw [← Ml.out]; omega) (fun b hb => hb) (fun k hk => by rw [cut_yes OK.out]; exact List.mem_map.2 ⟨k, List.mem_range.2 hk, rfl⟩) Ml.out)
  have RZ : Hid (∀ w', Rg ucells w' Al xl → Rg ucells w' Az ((xl.drop kk).take nn)) := fun w' h => by
    have := hRz w' xl h Ml.out.symm
    rwa [show kk + nn - kk = nn by omega] at this
  have ZL : Hid (nn = ((xl.drop kk).take nn).length) := by show _ = _; rw [List.length_take, List.length_drop, ← Ml.out]; omega
  clear hsl esl hRz hnc hnn hmm
  rcases Nat.eq_zero_or_pos nl with z | z
  · skip
    obtain rfl : ncc = 0 := by rw [HC.out, z]
    have Z := Lib.hid z
    clear z
    go_enter Try.func5, Try.ntmps5
    go_wp2_with fail
    refine (head14_any _).mono ?_
    rintro e w1 ⟨rfl, hb⟩
    have B1 := Lib.hid hb
    replace Rl := Lib.hid (Rl.out.below hb)
    replace Ro := Lib.hid (Ro.out.below hb)
    clear hb
    go_wp2_with fail
    refine (cut14 (p) Al cl nl (xl) _ Rl.out Ml.out (by omega) Kl.out).mono ?_
    rintro e w2 ⟨Ac, kc, nc, rfl, h1, h2, hb, h4, h5⟩
    rw [CL.out] at h1
    obtain rfl : nc = 0 := h1
    have h1 : Hid (0 = (cutC (p : Int) xl).length) := CL.out.symm
    have Mc := Lib.hid h1; have Rc := Lib.hid h2; have Kc := Lib.hid h4
    clear h1 h2 h4 h5
    have B2 := Lib.hid (chain B1.out hb)
    replace Rl := Lib.hid (Rl.out.below hb)
    replace Ro := Lib.hid (Ro.out.below hb)
    clear hb B1
    go_wp2_with fail
    go_loopg [14, 15] 0 (fun gh v s15 wr => v = .slice none 0 0 ∧ s15 = .int .i64 0 ∧ wr = w2)
    case atStart => exact ⟨rfl, rfl, rfl⟩
    case round =>
      obtain ⟨rfl, rfl, rfl⟩ := hrel
      by_cases on : 0 < no
      · skip
        have oi : (0 : Int) < (no : Int) := by omega
        go_wp2_with fail
        go_loopg [14, 16] 0 (fun gh v s16 wx => v = .slice none 0 0 ∧ s16 = .int .i64 (-1) ∧ wx = wr)
        case atStart => exact ⟨rfl, rfl, rfl⟩
        case round =>
          obtain ⟨rfl, rfl, rfl⟩ := hrel
          have Rs : Hid (BR wr none []) := BR.nil _ _
          have ze : nl = 0 := Z.out
          clear ze
          have G1 := Lib.hid (ga_whole OK.out (by rw [← Ml.out]; omega) (fun b hb => absurd hb List.not_mem_nil) (fun k hk => absurd hk (by rw [← Ml.out]; have := Z.out; omega)) Ml.out)
          have G2 := Lib.hid (ga_all OK.out (by rw [← Ml.out]; omega) (fun b hb => absurd hb List.not_mem_nil) (fun k hk => absurd hk (by rw [← Ml.out]; have := Z.out; omega)) (f := kk) (n := nn) (by rw [← Ml.out]; exact n9))
          have SB : Hid (∀ b ∈ ([] : List (List UInt8)), b.length ≤ 1000000) := fun b hb => Nat.le_trans (cut_small (a := (p : Int)) (l := xl) b (((fun b hb => absurd hb List.not_mem_nil) : ∀ b ∈ ([] : List (List UInt8)), b ∈ cutC (p : Int) xl) b hb)) (by decide)
          go_wp2_with fail
          refine (gather14 (p : Int) (nl : Int) none 0 0 ([]) _ Rs.out rfl (by omega) SB.out).mono ?_
          rintro e w3 ⟨Ax, kx, nx, rfl, h1, h2, hb, h4, h5⟩
          rw [G1.out.2] at h1 h2
          rw [G1.out.1]
          have Mx := Lib.hid h1; have Rx := Lib.hid h2; have Kx := Lib.hid h4
          clear h1 h2 h4 h5
          have B3 := Lib.hid (chain B2.out hb)
          replace Rl := Lib.hid (Rl.out.below hb)
          replace Ro := Lib.hid (Ro.out.below hb)
          replace Rc := Lib.hid (Rc.out.below hb)
          replace Rs := Lib.hid (Rs.out.below hb)
          clear hb B2
          go_wp2_with fail
          refine (gather14 ((p : Int) + (kk : Int)) (nn : Int) none 0 0 ([]) _ Rs.out rfl (by omega) SB.out).mono ?_
          rintro e w4 ⟨Ay, ky, ny, rfl, h1, h2, hb, h4, h5⟩
          rw [G2.out.2] at h1 h2
          rw [G2.out.1]
          have My := Lib.hid h1; have Ry := Lib.hid h2; have Ky := Lib.hid h4
          clear h1 h2 h4 h5
          have B4 := Lib.hid (chain B3.out hb)
          replace Rl := Lib.hid (Rl.out.below hb)
          replace Ro := Lib.hid (Ro.out.below hb)
          replace Rc := Lib.hid (Rc.out.below hb)
          replace Rs := Lib.hid (Rs.out.below hb)
          replace Rx := Lib.hid (Rx.out.below hb)
          clear hb B3
          go_wp2_with fail
          refine (ssame Ax Al kx cl nx nl (xl) (xl) _ Rx.out Rl.out Mx.out Ml.out (by rw [Mx.out, ← Ml.out]; omega) (rfl)).mono ?_
          rintro e w5 ⟨rfl, hb⟩
          have B5 := Lib.hid (chain B4.out hb)
          replace Rl := Lib.hid (Rl.out.below hb)
          replace Ro := Lib.hid (Ro.out.below hb)
          replace Rc := Lib.hid (Rc.out.below hb)
          replace Rs := Lib.hid (Rs.out.below hb)
          replace Rx := Lib.hid (Rx.out.below hb)
          replace Ry := Lib.hid (Ry.out.below hb)
          clear hb B4
          have hsl := SL.out
          go_wp2_with fail
          refine (ssame Ay Az ky (cl - kk) ny nn ((xl.drop kk).take nn) ((xl.drop kk).take nn) _ Ry.out (RZ.out _ Rl.out) My.out ZL.out (by rw [My.out, ← ZL.out]; omega) rfl).mono ?_
          rintro e w6 ⟨rfl, hb⟩
          have B6 := Lib.hid (chain B5.out hb)
          replace Rl := Lib.hid (Rl.out.below hb)
          replace Ro := Lib.hid (Ro.out.below hb)
          replace Rc := Lib.hid (Rc.out.below hb)
          replace Rs := Lib.hid (Rs.out.below hb)
          replace Rx := Lib.hid (Rx.out.below hb)
          replace Ry := Lib.hid (Ry.out.below hb)
          clear hb B5
          have e6 : ((nl : Int) + 5) / 6 = 0 := by have := Z.out; omega
          go_wp2_with fail
          go_ret
          exact ⟨rfl, B6.out⟩
      · skip
        have oi : ¬ (0 : Int) < (no : Int) := by omega
        go_wp2_with fail
        go_loopg [14, 16] 0 (fun gh v s16 wx => v = .slice none 0 0 ∧ s16 = .int .i64 (-1) ∧ wx = wr)
        case atStart => exact ⟨rfl, rfl, rfl⟩
        case round =>
          obtain ⟨rfl, rfl, rfl⟩ := hrel
          have Rs : Hid (BR wr none []) := BR.nil _ _
          have ze : nl = 0 := Z.out
          clear ze
          have G1 := Lib.hid (ga_whole OK.out (by rw [← Ml.out]; omega) (fun b hb => absurd hb List.not_mem_nil) (fun k hk => absurd hk (by rw [← Ml.out]; have := Z.out; omega)) Ml.out)
          have G2 := Lib.hid (ga_all OK.out (by rw [← Ml.out]; omega) (fun b hb => absurd hb List.not_mem_nil) (fun k hk => absurd hk (by rw [← Ml.out]; have := Z.out; omega)) (f := kk) (n := nn) (by rw [← Ml.out]; exact n9))
          have SB : Hid (∀ b ∈ ([] : List (List UInt8)), b.length ≤ 1000000) := fun b hb => Nat.le_trans (cut_small (a := (p : Int)) (l := xl) b (((fun b hb => absurd hb List.not_mem_nil) : ∀ b ∈ ([] : List (List UInt8)), b ∈ cutC (p : Int) xl) b hb)) (by decide)
          go_wp2_with fail
          refine (gather14 (p : Int) (nl : Int) none 0 0 ([]) _ Rs.out rfl (by omega) SB.out).mono ?_
          rintro e w3 ⟨Ax, kx, nx, rfl, h1, h2, hb, h4, h5⟩
          rw [G1.out.2] at h1 h2
          rw [G1.out.1]
          have Mx := Lib.hid h1; have Rx := Lib.hid h2; have Kx := Lib.hid h4
          clear h1 h2 h4 h5
          have B3 := Lib.hid (chain B2.out hb)
          replace Rl := Lib.hid (Rl.out.below hb)
          replace Ro := Lib.hid (Ro.out.below hb)
          replace Rc := Lib.hid (Rc.out.below hb)
          replace Rs := Lib.hid (Rs.out.below hb)
          clear hb B2
          go_wp2_with fail
          refine (gather14 ((p : Int) + (kk : Int)) (nn : Int) none 0 0 ([]) _ Rs.out rfl (by omega) SB.out).mono ?_
          rintro e w4 ⟨Ay, ky, ny, rfl, h1, h2, hb, h4, h5⟩
          rw [G2.out.2] at h1 h2
          rw [G2.out.1]
          have My := Lib.hid h1; have Ry := Lib.hid h2; have Ky := Lib.hid h4
          clear h1 h2 h4 h5
          have B4 := Lib.hid (chain B3.out hb)
          replace Rl := Lib.hid (Rl.out.below hb)
          replace Ro := Lib.hid (Ro.out.below hb)
          replace Rc := Lib.hid (Rc.out.below hb)
          replace Rs := Lib.hid (Rs.out.below hb)
          replace Rx := Lib.hid (Rx.out.below hb)
          clear hb B3
          go_wp2_with fail
          refine (ssame Ax Al kx cl nx nl (xl) (xl) _ Rx.out Rl.out Mx.out Ml.out (by rw [Mx.out, ← Ml.out]; omega) (rfl)).mono ?_
          rintro e w5 ⟨rfl, hb⟩
          have B5 := Lib.hid (chain B4.out hb)
          replace Rl := Lib.hid (Rl.out.below hb)
          replace Ro := Lib.hid (Ro.out.below hb)
          replace Rc := Lib.hid (Rc.out.below hb)
          replace Rs := Lib.hid (Rs.out.below hb)
          replace Rx := Lib.hid (Rx.out.below hb)
          replace Ry := Lib.hid (Ry.out.below hb)
          clear hb B4
          have hsl := SL.out
          go_wp2_with fail
          refine (ssame Ay Az ky (cl - kk) ny nn ((xl.drop kk).take nn) ((xl.drop kk).take nn) _ Ry.out (RZ.out _ Rl.out) My.out ZL.out (by rw [My.out, ← ZL.out]; omega) rfl).mono ?_
          rintro e w6 ⟨rfl, hb⟩
          have B6 := Lib.hid (chain B5.out hb)
          replace Rl := Lib.hid (Rl.out.below hb)
          replace Ro := Lib.hid (Ro.out.below hb)
          replace Rc := Lib.hid (Rc.out.below hb)
          replace Rs := Lib.hid (Rs.out.below hb)
          replace Rx := Lib.hid (Rx.out.below hb)
          replace Ry := Lib.hid (Ry.out.below hb)
          clear hb B5
          have e6 : ((nl : Int) + 5) / 6 = 0 := by have := Z.out; omega
          go_wp2_with fail
          go_ret
          exact ⟨rfl, B6.out⟩
  have nc0 : 0 < ncc := by rw [HC.out]; omega
  clear z
  go_enter Try.func5, Try.ntmps5
  go_wp2_with fail
  refine (head14_any _).mono ?_
  rintro e w1 ⟨rfl, hb⟩
  have B1 := Lib.hid hb
  replace Rl := Lib.hid (Rl.out.below hb)
  replace Ro := Lib.hid (Ro.out.below hb)
  clear hb
  go_wp2_with fail
  refine (cut14 (p) Al cl nl (xl) _ Rl.out Ml.out (by omega) Kl.out).mono ?_
  rintro e w2 ⟨Ac, kc, nc, rfl, h1, h2, hb, h4, h5⟩
  rw [CL.out] at h1
  obtain rfl := h1
  have nci : (0 : Int) < (nc : Int) := by omega
  have h1 : Hid (nc = (cutC (p : Int) xl).length) := CL.out.symm
  have Mc := Lib.hid h1; have Rc := Lib.hid h2; have Kc := Lib.hid h4
  clear h1 h2 h4 h5
  have B2 := Lib.hid (chain B1.out hb)
  replace Rl := Lib.hid (Rl.out.below hb)
  replace Ro := Lib.hid (Ro.out.below hb)
  clear hb B1
  go_wp2_with fail
  go_loopg [14, 15] no (fun gh v s15 wr => ∃ (i k : Nat) (ss : List (List UInt8)), i ≤ no ∧ Hid (gh = no - i) ∧ s15 = .int .i64 (i : Int) ∧ Hid (k ≤ i) ∧ Hid (OR wr w2.heap.size v k ss) ∧ Hid (∀ b ∈ ss, b ∈ cutC (p : Int) xl) ∧ Hid (Below w2.heap.size w2 wr))
  case atStart => exact ⟨0, 0, [], Nat.zero_le _, by show _ = _; omega, rfl, Nat.le_refl _, OR.nil _ _, fun b hb => absurd hb (by simp), Below.refl _ _⟩
  case round =>
    obtain ⟨i, k, ss, hin, HG, rfl, KI, OW, SS, BK⟩ := hrel
    by_cases on : i < no
    · skip
      have oi : (i : Int) < (no : Int) := by omega
      have ia : (0 : Int) ≤ (i : Int) := by omega
      obtain ⟨bo, go⟩ : ∃ bo, xo[i]? = some bo := ⟨_, List.getElem?_eq_getElem (by rw [← Mo.out]; exact on)⟩
      obtain ⟨b0, o0, rfl, l0, q0⟩ := Ro.out (by rw [← Mo.out]; omega)
      have c0 := (BK.out.cell (p := ⟨b0, o0 + i, none⟩) l0).trans (b_cell q0 go)
      have y0 := bz_lo bo
      have y1 := bz_hi bo
      obtain ⟨j, hj⟩ : ∃ j : Nat, bz bo % (nc : Int) = j := ⟨(bz bo % (nc : Int)).toNat, by have := Int.emod_nonneg (bz bo) (b := (nc : Int)) (by omega); omega⟩
      have jn : j < nc := by have := Int.emod_lt_of_pos (bz bo) (b := (nc : Int)) (by omega); omega
      have ji : (j : Int) < (nc : Int) := by omega
      have ja : (0 : Int) ≤ (j : Int) := by omega
      obtain ⟨pb, gc⟩ : ∃ pb, (cutC (p : Int) xl)[j]? = some pb := ⟨_, List.getElem?_eq_getElem (by rw [CL.out]; exact jn)⟩
      have GC := Lib.hid gc
      have ON := Lib.hid on
      have k9 : k ≤ 200 := by have := KI.out; omega
      clear go q0 l0 gc on
      obtain ⟨b1, o1, h, rfl, l1, hc, HB1⟩ := Rc.out.get GC.out
      have c1 := (BK.out.cell (p := ⟨b1, o1 + j, none⟩) l1).trans hc
      obtain ⟨hA, hn0, hc0⟩ := h
      dsimp only at c1
      have HP : Hid (HB wr ⟨hA, hn0, hc0⟩ pb) := HB1.below BK.out
      obtain ⟨hs, ow, hh, hnn⟩ := OW.out
      have HN : Hid (0 < hn0 → ∀ a, hA = some a → u14.ownBlock ≠ some a.block) := fun h0 a ha e => by
        obtain ⟨b2, o2, e2, lt, _⟩ := HB1.block h0
        have e3 : some a = some ⟨b2, o2, none⟩ := ha.symm.trans e2
        have e4 := Option.some.inj e3
        have := (ow.lt _ e).1
        rw [e4] at this
        have : w2.heap.size ≤ b2 := this
        omega
      have O2 := Lib.hid ow; have HH := Lib.hid hh; have HNN := Lib.hid hnn
      have hs2 := BK.out.size
      clear hc HB1 ow hh hnn OW
      go_wp2_with (at_builtin; refine wpList_append_at _ rfl _ _ 24 rfl w2.heap.size 23 i0 (.slice none 0 0) 1 24 Try.underlying24 hi hz0 hz1 hz2 rfl (by decide) _ _ _ rfl (O2.out.alloc _) ⟨wr.heap.size, 0, none⟩ 1 1 (hcells ⟨hA, hn0, hc0⟩) rfl rfl ?c1 (hcells_one _) ?c3 ?c4 ?c5 ?_)
      case c1 => first | exact fun _ _ h => h | exact new_cells
      case c3 => unfold maxLen; omega
      case c4 => omega
      case c5 => first | omega | (simp; omega)
      intro v' w4 hown2 hgrow hat
      have O4 : Hid (OR w4 w2.heap.size v' (k + 1) (ss ++ [pb])) := OR.grow O2.out HH.out HNN.out (HBs.one HP.out) (fun h hh => by rw [List.mem_singleton.1 hh]; exact HN.out) (by simpa using hown2) hgrow hat
      have B4 : Hid (Below w2.heap.size w2 w4) := (BK.out.alloc hs2 _).grown hgrow (by simp; omega) (fun q hqq => (O2.out.lt _ hqq).1)
      clear hown2 hgrow hat O2 hs2
      go_wp2_with fail
      go_roundg (no - (i + 1))
      case measure => have := HG.out; have := ON.out; omega
      case rel => exact ⟨i + 1, k + 1, ss ++ [pb], by have := ON.out; omega, rfl, by go_num, by show k + 1 ≤ i + 1; have := KI.out; omega, O4, fun b hb => by
        rcases List.mem_append.1 hb with q | q
        · exact SS.out b q
        · rw [List.mem_singleton.1 q]; exact List.mem_of_getElem? GC.out, B4⟩
    · skip
      have oi : ¬ (i : Int) < (no : Int) := by omega
      have k9 : k ≤ 200 := by have := KI.out; omega
      have OA := OW; have BA := BK; have SA := SS
      go_wp2_with fail
      go_loopg [14, 16] nc (fun gh v s16 wr => ∃ (j k : Nat) (ss : List (List UInt8)), j ≤ nc ∧ Hid (gh = nc - j) ∧ s16 = .int .i64 ((nc : Int) - 1 - (j : Int)) ∧ Hid (k ≤ 200 + j) ∧ Hid (OR wr w2.heap.size v k ss) ∧ Hid (∀ b ∈ ss, b ∈ cutC (p : Int) xl) ∧ Hid (∀ t, nc - j ≤ t → t < nc → partC (p : Int) xl t ∈ ss) ∧ Hid (Below w2.heap.size w2 wr))
      case atStart => exact ⟨0, k, ss, Nat.zero_le _, by show _ = _; omega, by congr 1; omega, by show k ≤ 200 + 0; omega, OA, SA, fun t h1 h2 => absurd h1 (by omega), BA⟩
      case round =>
        clear OW BK SS OA BA SA k9 KI HG
        obtain ⟨j, k, ss, hjn, HG, rfl, KI, OW, SS, AL, BK⟩ := hrel
        by_cases jn : j < nc
        · skip
          obtain ⟨t, ht⟩ : ∃ t : Nat, (nc : Int) - 1 - (j : Int) = t := ⟨nc - 1 - j, by omega⟩
          have ti : (t : Int) < (nc : Int) := by omega
          have ta : (0 : Int) ≤ (t : Int) := by omega
          have tn : t < nc := by omega
          rw [ht]
          have gc : (cutC (p : Int) xl)[t]? = some (partC (p : Int) xl t) := cut_get OK.out (by rw [← Ml.out, ← HC.out]; exact tn)
          obtain ⟨pb, hpb⟩ : ∃ pb, pb = partC (p : Int) xl t := ⟨_, rfl⟩
          rw [← hpb] at gc
          have GC := Lib.hid gc
          have JN := Lib.hid jn
          have HT := Lib.hid ht
          have HPB := Lib.hid hpb
          have k9 : k ≤ 400 := by have := KI.out; omega
          clear gc ht hpb
          obtain ⟨b1, o1, h, rfl, l1, hc, HB1⟩ := Rc.out.get GC.out
          have c1 := (BK.out.cell (p := ⟨b1, o1 + t, none⟩) l1).trans hc
          obtain ⟨hA, hn0, hc0⟩ := h
          dsimp only at c1
          have HP : Hid (HB wr ⟨hA, hn0, hc0⟩ pb) := HB1.below BK.out
          obtain ⟨hs, ow, hh, hnn⟩ := OW.out
          have HN : Hid (0 < hn0 → ∀ a, hA = some a → u14.ownBlock ≠ some a.block) := fun h0 a ha e => by
            obtain ⟨b2, o2, e2, lt, _⟩ := HB1.block h0
            have e3 : some a = some ⟨b2, o2, none⟩ := ha.symm.trans e2
            have e4 := Option.some.inj e3
            have := (ow.lt _ e).1
            rw [e4] at this
            have : w2.heap.size ≤ b2 := this
            omega
          have O2 := Lib.hid ow; have HH := Lib.hid hh; have HNN := Lib.hid hnn
          have hs2 := BK.out.size
          clear hc HB1 ow hh hnn OW
          go_wp2_with (at_builtin; refine wpList_append_at _ rfl _ _ 24 rfl w2.heap.size 23 i0 (.slice none 0 0) 1 24 Try.underlying24 hi hz0 hz1 hz2 rfl (by decide) _ _ _ rfl (O2.out.alloc _) ⟨wr.heap.size, 0, none⟩ 1 1 (hcells ⟨hA, hn0, hc0⟩) rfl rfl ?c1 (hcells_one _) ?c3 ?c4 ?c5 ?_)
          case c1 => first | exact fun _ _ h => h | exact new_cells
          case c3 => unfold maxLen; omega
          case c4 => omega
          case c5 => first | omega | (simp; omega)
          intro v' w4 hown2 hgrow hat
          have O4 : Hid (OR w4 w2.heap.size v' (k + 1) (ss ++ [pb])) := OR.grow O2.out HH.out HNN.out (HBs.one HP.out) (fun h hh => by rw [List.mem_singleton.1 hh]; exact HN.out) (by simpa using hown2) hgrow hat
          have B4 : Hid (Below w2.heap.size w2 w4) := (BK.out.alloc hs2 _).grown hgrow (by simp; omega) (fun q hqq => (O2.out.lt _ hqq).1)
          clear hown2 hgrow hat O2 hs2
          go_wp2_with fail
          go_roundg (nc - (j + 1))
          case measure => have := HG.out; have := JN.out; omega
          case rel => exact ⟨j + 1, k + 1, ss ++ [pb], by have := JN.out; omega, rfl, by have := HT.out; go_num, by show k + 1 ≤ 200 + (j + 1); have := KI.out; omega, O4, fun b hb => by
            rcases List.mem_append.1 hb with q | q
            · exact SS.out b q
            · rw [List.mem_singleton.1 q]; exact List.mem_of_getElem? GC.out, fun u h1 h2 => by
            by_cases q : nc - j ≤ u
            · exact List.mem_append_left _ (AL.out u q h2)
            · obtain rfl : u = t := by have := HT.out; omega
              rw [← HPB.out]; exact List.mem_append_right _ (by simp), B4⟩
        · skip
          have ti : ¬ (0 : Int) ≤ (nc : Int) - 1 - (j : Int) := by omega
          obtain ⟨As, cs, rfl, zs, hr, e3, e4⟩ := OW.out.row
          have Rs := Lib.hid hr; have Ms := Lib.hid zs; have k9 : k ≤ 400 := by have := KI.out; omega
          have AA : Hid (∀ t, t < (xl.length + 5) / 6 → partC (p : Int) xl t ∈ ss) := fun t ht => AL.out t (by omega) (by rw [HC.out, Ml.out]; exact ht)
          clear hr zs e3 e4
          have hb := BK.out
          have B3 := Lib.hid (chain B2.out hb)
          replace Rl := Lib.hid (Rl.out.below hb)
          replace Ro := Lib.hid (Ro.out.below hb)
          replace Rc := Lib.hid (Rc.out.below hb)
          clear hb B2
          have G1 := Lib.hid (ga_whole OK.out (by rw [← Ml.out]; omega) SS.out AA.out Ml.out)
          have G2 := Lib.hid (ga_all OK.out (by rw [← Ml.out]; omega) SS.out AA.out (f := kk) (n := nn) (by rw [← Ml.out]; exact n9))
          have SB : Hid (∀ b ∈ (ss : List (List UInt8)), b.length ≤ 1000000) := fun b hb => Nat.le_trans (cut_small (a := (p : Int)) (l := xl) b ((SS.out : ∀ b ∈ (ss : List (List UInt8)), b ∈ cutC (p : Int) xl) b hb)) (by decide)
          go_wp2_with fail
          refine (gather14 (p : Int) (nl : Int) As cs k (ss) _ Rs.out Ms.out (by omega) SB.out).mono ?_
          rintro e w4 ⟨Ax, kx, nx, rfl, h1, h2, hb, h4, h5⟩
          rw [G1.out.2] at h1 h2
          rw [G1.out.1]
          have Mx := Lib.hid h1; have Rx := Lib.hid h2; have Kx := Lib.hid h4
          clear h1 h2 h4 h5
          have B4 := Lib.hid (chain B3.out hb)
          replace Rl := Lib.hid (Rl.out.below hb)
          replace Ro := Lib.hid (Ro.out.below hb)
          replace Rc := Lib.hid (Rc.out.below hb)
          replace Rs := Lib.hid (Rs.out.below hb)
          clear hb B3
          go_wp2_with fail
          refine (gather14 ((p : Int) + (kk : Int)) (nn : Int) As cs k (ss) _ Rs.out Ms.out (by omega) SB.out).mono ?_
          rintro e w5 ⟨Ay, ky, ny, rfl, h1, h2, hb, h4, h5⟩
          rw [G2.out.2] at h1 h2
          rw [G2.out.1]
          have My := Lib.hid h1; have Ry := Lib.hid h2; have Ky := Lib.hid h4
          clear h1 h2 h4 h5
          have B5 := Lib.hid (chain B4.out hb)
          replace Rl := Lib.hid (Rl.out.below hb)
          replace Ro := Lib.hid (Ro.out.below hb)
          replace Rc := Lib.hid (Rc.out.below hb)
          replace Rs := Lib.hid (Rs.out.below hb)
          replace Rx := Lib.hid (Rx.out.below hb)
          clear hb B4
          go_wp2_with fail
          refine (ssame Ax Al kx cl nx nl (xl) (xl) _ Rx.out Rl.out Mx.out Ml.out (by rw [Mx.out, ← Ml.out]; omega) (rfl)).mono ?_
          rintro e w6 ⟨rfl, hb⟩
          have B6 := Lib.hid (chain B5.out hb)
          replace Rl := Lib.hid (Rl.out.below hb)
          replace Ro := Lib.hid (Ro.out.below hb)
          replace Rc := Lib.hid (Rc.out.below hb)
          replace Rs := Lib.hid (Rs.out.below hb)
          replace Rx := Lib.hid (Rx.out.below hb)
          replace Ry := Lib.hid (Ry.out.below hb)
          clear hb B5
          have hsl := SL.out
          go_wp2_with fail
          refine (ssame Ay Az ky (cl - kk) ny nn ((xl.drop kk).take nn) ((xl.drop kk).take nn) _ Ry.out (RZ.out _ Rl.out) My.out ZL.out (by rw [My.out, ← ZL.out]; omega) rfl).mono ?_
          rintro e w7 ⟨rfl, hb⟩
          have B7 := Lib.hid (chain B6.out hb)
          replace Rl := Lib.hid (Rl.out.below hb)
          replace Ro := Lib.hid (Ro.out.below hb)
          replace Rc := Lib.hid (Rc.out.below hb)
          replace Rs := Lib.hid (Rs.out.below hb)
          replace Rx := Lib.hid (Rx.out.below hb)
          replace Ry := Lib.hid (Ry.out.below hb)
          clear hb B6
          have e6 : ((nl : Int) + 5) / 6 = (nc : Int) := by rw [HC.out]; omega
          go_wp2_with fail
          go_ret
          exact ⟨rfl, B7.out⟩

end Go.Proofs.Ytlllinpaclodaaa
