/-
  What package chunk answers: Cut.
-/
import Derived.Test.YtlllinpaclodaaaCPub4
namespace Go.Proofs.Ytlllinpaclodaaa
open Go.RowKit

set_option maxHeartbeats 4000000 in
set_option maxRecDepth 100000 in
theorem cut14 (a : Int) (A : Option Addr) (cA n : Nat) (xs : List UInt64) (w : World) (hx : Rg ucells w A xs) (lx : n = xs.length) (hn : n ≤ 1000000) (hc : n ≤ cA) (ia : I64 a := by first | assumption | exact I64.pos _ | exact I64.small (by omega) (by omega)) :
    Calls Try.prog 20 #[.int .i64 a, .slice A n cA] w (BRTo (cutC a xs) w) := by
  obtain ⟨i0, hi, hz0, hz1, hz2⟩ := info_parts Try.infoH
  have HX := Lib.hid hx; have LX := Lib.hid lx
  have CR := Lib.hid (stand14 a n w hn ia.out.1 ia.out.2)
  clear ia
  by_cases ok : standC a n = true
  case neg =>
    have ok : standC a n = false := by simpa using ok
    have E : Hid (cutC a xs = []) := by
      show _ = _
      by_cases n0 : n = 0
      · have : xs = [] := List.length_eq_zero_iff.1 (by omega)
        subst this
        unfold cutC; split <;> rfl
      · refine cut_no ?_
        rw [Bool.eq_false_iff]
        intro e
        have := ok_cut.1 e
        rw [← lx] at this
        have : standC a n = true := stand_iff.2 ⟨by omega, by omega, by omega⟩
        rw [ok] at this; cases this
    rw [ok] at CR
    clear ok hx lx
    go_enter Try.func20, Try.ntmps20
    go_wp2_with fail
    refine CR.out.mono ?_
    rintro e w1 ⟨rfl, rfl⟩
    go_wp2_with fail
    go_ret
    exact ⟨none, 0, 0, rfl, by rw [E.out]; rfl, by rw [E.out]; exact BR.nil _ _, Below.refl _ _, Nat.le_refl _, Nat.zero_le _⟩
  obtain ⟨h1, h2, h3⟩ := stand_iff.1 ok
  obtain ⟨p, rfl⟩ : ∃ p : Nat, a = p := ⟨a.toNat, by omega⟩
  have p6 : p ≤ 65535 := by omega
  have OK : Hid (okCut p n = true) := ok_cut.2 ⟨by omega, by omega, by omega⟩
  have E : Hid (cutC p xs = (List.range ((n + 5) / 6)).map (partC p xs)) := by show _ = _; rw [LX.out]; exact cut_yes (by rw [← LX.out]; exact OK.out)
  have pn : p + n ≤ 65536 := by omega
  rw [ok] at CR
  clear h1 h2 h3 ok hx lx
  go_enter Try.func20, Try.ntmps20
  go_wp2_with fail
  refine CR.out.mono ?_
  rintro e w1 ⟨rfl, rfl⟩
  go_wp2_with fail
  go_loopg [5, 6] ((n + 5) / 6) (fun gh v s6 wr => ∃ k : Nat, k ≤ (n + 5) / 6 ∧ Hid (gh = (n + 5) / 6 - k) ∧ s6 = .int .i64 ((6 * k : Nat) : Int) ∧ Hid (OR wr w1.heap.size v k ((List.range k).map (partC p xs))) ∧ Hid (Below w1.heap.size w1 wr))
  case atStart => exact ⟨0, by omega, by show _ = _; omega, rfl, OR.nil _ _, Below.refl _ _⟩
  case round =>
    obtain ⟨k, hk, HG, rfl, OW, BK⟩ := hrel
    obtain ⟨t, ht⟩ : ∃ t, t = 6 * k := ⟨_, rfl⟩
    rw [← ht]
    by_cases tn : t < n
    · obtain ⟨b1, o1, rfl, l1, q1⟩ := HX.out (by rw [← LX.out]; omega)
      obtain ⟨u, hu⟩ : ∃ u, u = min (t + 6) n := ⟨_, rfl⟩
      have hmin : ∀ (ts : Array TypeId) (ty : TypeId) (w : World), (Builtin.min_ ts ty #[.int .i64 ((t : Int) + 6), .int .i64 (n : Int)]).run Try.prog w = .ok (.int .i64 (u : Int)) w := by
        intro ts t w
        simp [Builtin.min_, Builtin.min2]
        repeat' split
        all_goals omega
      have ti : (t : Int) < (n : Int) := by omega
      have tu : t ≤ u := by omega
      have un : u ≤ n := by omega
      have HT := Lib.hid ht; have HU := Lib.hid hu
      clear ht hu
      obtain ⟨ys, hys⟩ : ∃ ys, ys = (xs.drop t).take 6 := ⟨_, rfl⟩
      obtain ⟨ps, hps⟩ : ∃ ps, ps = putC ((p : Int) + (t : Int)) ys := ⟨_, rfl⟩
      have RY : Hid (Rg ucells w1 (some ⟨b1, o1 + t, none⟩) ys) := by show Rg _ _ _ _; rw [hys]; exact rg_part l1 q1 t 6
      have LY : Hid (u - t = ys.length) := by show _ = _; rw [hys, List.length_take, List.length_drop, ← LX.out]; have := HU.out; omega
      have PP : Hid (partC p xs k = ps) := by show _ = _; rw [hps, hys, HT.out]; rfl
      have ut : u - t ≤ 1000000 := by omega
      have CP : Hid (∀ w' cA, Rg ucells w' (some ⟨b1, o1 + t, none⟩) ys → Calls Try.prog 16 #[.int .i64 ((p : Int) + (t : Int)), .slice (some ⟨b1, o1 + t, none⟩) (u - t) cA] w' (RowNew bcells ps w')) := fun w' cA h => by rw [hps]; exact put14 _ _ cA _ ys w' h LY.out ut
      have HLP : Hid (ps.length ≤ 50) := by show ps.length ≤ 50; rw [hps]; exact put_max _ _
      have K6 : Hid (k < (n + 5) / 6) := by show k < (n + 5) / 6; have := HT.out; omega
      clear hys hps
      go_wp2_with fail
      refine (CP.out _ _ (RY.out.below BK.out)).mono ?_
      rintro e w2 ⟨A2, k2, n2, rfl, h1, h2, hb, h4, h5, h6⟩
      obtain ⟨xs0, ow0⟩ := OW.out.own
      have HN : Hid (0 < n2 → ∀ a, A2 = some a → u5.ownBlock ≠ some a.block) := fun _ a ha e => by
        have := h6 a ha
        have := (ow0.lt _ e).2
        omega
      obtain ⟨hs, ow, hh, hnn⟩ := OW.out.below hb
      have B2 := Lib.hid (chain BK.out hb)
      have O2 := Lib.hid ow
      have HH := Lib.hid hh
      have HNN := Lib.hid hnn
      have HP : Hid (HB w2 ⟨A2, n2, k2⟩ ps) := ⟨h1, h4, h2⟩
      have hs2 := B2.out.size
      have kb : k ≤ 200000 := by have := K6.out; omega
      clear h1 h2 h4 h5 h6 hb ow hh hnn ow0 OW BK
      go_wp2_with (at_builtin; refine wpList_append_at _ rfl _ _ 24 rfl w1.heap.size 23 i0 (.slice none 0 0) 1 24 Try.underlying24 hi hz0 hz1 hz2 rfl (by decide) _ _ _ rfl (O2.out.alloc _) ⟨w2.heap.size, 0, none⟩ 1 1 (hcells ⟨A2, n2, k2⟩) rfl rfl ?c1 (hcells_one _) ?c3 ?c4 ?c5 ?_)
      case c1 => first | exact fun _ _ h => h | exact new_cells
      case c3 => unfold maxLen; omega
      case c4 => omega
      case c5 => first | omega | (simp; omega)
      intro v' w4 hown2 hgrow hat
      have O4 : Hid (OR w4 w1.heap.size v' (k + 1) ((List.range (k + 1)).map (partC p xs))) := by
        show OR _ _ _ _ _
        rw [part_next, PP.out]
        exact OR.grow O2.out HH.out HNN.out (HBs.one HP.out) (fun h hh => by rw [List.mem_singleton.1 hh]; exact HN.out) (by simpa using hown2) hgrow hat
      have B4 : Hid (Below w1.heap.size w1 w4) := (B2.out.alloc hs2 _).grown hgrow (by simp; omega) (fun q hqq => (O2.out.lt _ hqq).1)
      clear hown2 hgrow hat O2 hs2
      go_wp2_with fail
      go_roundg ((n + 5) / 6 - (k + 1))
      case measure => have := HG.out; have := K6.out; omega
      case rel => exact ⟨k + 1, by have := K6.out; omega, rfl, by have := HT.out; go_num, O4, B4⟩
    · obtain rfl : k = (n + 5) / 6 := by omega
      have ti : ¬ (t : Int) < (n : Int) := by omega
      obtain ⟨A', c', rfl, z1, hr, e3, e4⟩ := OW.out.row
      have HR := Lib.hid hr; have E3 := Lib.hid e3; have E4 := Lib.hid e4; have Z1 := Lib.hid z1
      clear hr z1 e3 e4 ht
      go_wp2_with fail
      go_ret
      exact ⟨A', c', _, rfl, by rw [E.out]; exact Z1.out, by rw [E.out]; exact HR.out, BK.out, E3.out, E4.out⟩

end Go.Proofs.Ytlllinpaclodaaa
