/-
  DiskOwn: the walk.
-/
import Derived.Test.YtpdedeaejlkokaaDHead2
namespace Go.Proofs.Ytpdedeaejlkokaa
open Go.RowKit

def dkO (c : UInt8) : Dk := ⟨[fillB 0], [false], [(0, fillB c)], -1⟩
def dkS (c : UInt8) : Dk := ⟨[fillB c], [false], [], -1⟩
theorem own_w (c : UInt8) : dkWrite (dkNew 1) 0 (fillB c) = (dkO c, 0) := write_yes (d := dkNew 1) rfl (fill_len c) rfl
theorem own_s (c : UInt8) : dkSync (dkO c) = (dkS c, 0) := rfl
theorem own_r1 (c : UInt8) : dkRead (dkO c) 0 = (fillB c, 0) := rfl
theorem own_r2 (c : UInt8) : dkRead (dkS c) 0 = (fillB c, 0) := rfl
theorem own_ok1 (c : UInt8) : DkOk 1 (dkO c) := by have := (dk_new 1).write 0 (fillB c); rw [own_w] at this; exact this
theorem own_ok2 (c : UInt8) : DkOk 1 (dkS c) := by have := (own_ok1 c).sync; rw [own_s] at this; exact this
theorem own_b1 (c : UInt8) : (dkO c).p.length ≤ 100000 := show (1 : Nat) ≤ 100000 by decide
theorem own_b2 (c : UInt8) : (dkS c).p.length ≤ 100000 := show (0 : Nat) ≤ 100000 by decide
theorem own_f1 (c : UInt8) : (dkO c).f ≤ 9223372036854775807 := show (-1 : Int) ≤ _ by decide
theorem fill_0 (c : UInt8) : ((fillB c).flatMap bcells)[0]? = some (.int .u8 (bz c)) := rfl

set_option maxHeartbeats 8000000 in
set_option maxRecDepth 100000 in
theorem law_down (c : UInt8) (sync : Bool) (w : World) : Calls Try.prog 8 #[.int .u8 (bz c), .bool sync] w fun e w' => e = .returned (.bool true) ∧ Below w.heap.size w w' := by
  obtain ⟨z, hz⟩ : ∃ z, z = bz c := ⟨_, rfl⟩
  have CF : Hid (∀ v : World, Calls Try.prog 24 #[.int .u8 z] v (BOwn (fillB c) v)) := fun v => by rw [hz]; exact fill15 c v
  have CN : Hid (∀ v : World, Calls Try.prog 24 #[.int .u8 z] v (RowNew bcells (fillB c) v)) := fun v => by rw [hz]; exact fill15n c v
  have HZ := Lib.hid hz
  rw [← hz]
  clear hz
  go_enter Try.func8, Try.ntmps8
  go_wp2_with fail
  refine (head15 _).mono ?_
  rintro e w1 ⟨rfl, hb⟩
  have B1 := Lib.hid hb
  clear hb
  go_wp2_with fail
  refine (new15_yes 1 (by omega) _).mono ?_
  rintro e w2 ⟨g, O, rfl, hD, hb⟩
  have B2 := Lib.hid (chain B1.out hb)
  have S2 := Lib.hid hb.size
  have D2 := Lib.hid hD
  clear hD hb
  go_wp2_with fail
  refine (CF.out _).mono ?_
  rintro e w3 ⟨v, rfl, hv, hb⟩
  obtain ⟨p, cp, rfl, p1, p2⟩ := World.ownsRow.form hv (by rw [fill_len]; decide)
  have NP : Hid (¬ O p) := fun q => by have := (D2.out.lt p q).2; omega
  have B3 := Lib.hid (chain B2.out hb)
  have D3 := Lib.hid (D2.out.below hb)
  have S3 := Lib.hid (Nat.le_trans S2.out hb.size)
  have W3 := Lib.hid hv
  have P3 := Lib.hid p2
  have PW : Hid (w.heap.size ≤ p) := Nat.le_trans B2.out.size p1
  obtain ⟨Ax, cx, re, rl, rr⟩ := own_rg (f := bcells) (xs := fillB c) bcells_len (by decide) hv
  injection re with re re2 re3
  subst re
  have R3 := Lib.hid rr
  clear hv hb p1 p2 rr rl re2 re3
  go_wp2_with fail
  refine (write15 _ O g (dkNew 1) 0 (some ⟨p, 0, none⟩) _ cp (fillB c) _ D3.out S3.out R3.out rfl (fun _ a q => by obtain rfl := Option.some.inj q; exact NP.out) ⟨by decide, by decide⟩ ⟨by decide, by decide⟩).mono ?_
  rintro e w4 ⟨rfl, hD, hK⟩
  rw [own_w] at hD ⊢
  dsimp only at hD
  have B4 := Lib.hid (B3.out.trans (hK.1.mono B1.out.size))
  have W4 := Lib.hid (own_stay W3.out fun b q => by obtain rfl := Option.some.inj q; exact hK.2 p P3.out NP.out)
  have S4 := Lib.hid (Nat.le_trans S3.out hK.1.size)
  have P4 := Lib.hid (Nat.lt_of_lt_of_le P3.out hK.1.size)
  obtain ⟨O4, hO⟩ : ∃ O4, O4 = Grow O w3 w4 := ⟨_, rfl⟩
  have N4 : Hid (¬ O4 p) := fun q => by rw [hO] at q; rcases q with q | q; exact NP.out q; have := P3.out; omega
  rw [← hO] at hD
  have D4 := Lib.hid hD
  clear hD hK hO B3 W3 S3 P3 R3 D3 NP
  obtain ⟨y, hy⟩ : ∃ y, IntKind.u8.wrap (z + 1) = y := ⟨_, rfl⟩
  cases sync with
  | true =>
    go_wp2_with fail
    refine (sync15 _ O4 g 1 (dkO c) _ D4.out S4.out (own_ok1 c) (by decide) (own_b1 c) (own_f1 c)).mono ?_
    rintro e w5 ⟨rfl, hD, hK⟩
    rw [own_s] at hD ⊢
    dsimp only at hD
    have B5 := Lib.hid (B4.out.trans (hK.1.mono B1.out.size))
    have W5 := Lib.hid (own_stay W4.out fun b q => by obtain rfl := Option.some.inj q; exact hK.2 p P4.out N4.out)
    have S5 := Lib.hid (Nat.le_trans S4.out hK.1.size)
    obtain ⟨O5, hO⟩ : ∃ O5, O5 = Grow O4 w4 w5 := ⟨_, rfl⟩
    have N5 : Hid (¬ O5 p) := fun q => by rw [hO] at q; rcases q with q | q; exact N4.out q; have := P4.out; omega
    rw [← hO] at hD
    have D5 := Lib.hid hD
    clear hD hK hO B4 W4 S4 P4 N4 D4
    have c0 := World.ownsRow.cellAt W5.out 0 (by rw [fill_len]; decide)
    rw [fill_0, ← HZ.out] at c0
    have f0 := World.ownsRow.frozenAt W5.out 0
    have n0 : 0 < (fillB c).length := by rw [fill_len]; decide
    have n1 : (0 : Int) < ((fillB c).length : Int) := by omega
    go_wp2_with fail
    have D6 := Lib.hid (D5.out.other (b := p) (j := 0) N5.out (.int .u8 y))
    have B6 : Hid (Below w.heap.size w (w5.setCell ⟨p, 0, none⟩ (.int .u8 y))) := B5.out.setCell (p := ⟨p, 0, none⟩) PW.out _
    have S6 : Hid (w1.heap.size ≤ (w5.setCell ⟨p, 0, none⟩ (.int .u8 y)).heap.size) := by show _ ≤ _; rw [World.size_setCell]; exact S5.out
    generalize w5.setCell ⟨p, 0, none⟩ (.int .u8 y) = w6 at D6 B6 S6 ⊢
    clear c0 f0 n0 n1 D5 B5 S5 W5
    refine (read15 _ O5 g 1 (dkS c) 0 _ D6.out (own_ok2 c) (by decide) (own_b2 c)).mono ?_
    rintro e w7 ⟨A7, n7, c7, rfl, h1, h2, hb, h3, h4, T7, h5⟩
    rw [own_r2] at h1 h2 h5 ⊢
    dsimp only at h1 h2 h5
    obtain ⟨q, cq, e7, q1, q2⟩ := World.ownsRow.form h5 (by rw [fill_len]; decide)
    injection e7 with e7 e8 e9
    subst e7 e8 e9
    have B7 := Lib.hid (chain B6.out hb)
    have D7 := Lib.hid (D6.out.below hb)
    have NQ : Hid (¬ O5 q) := fun z => by have := (D6.out.lt q z).2; omega
    have QW : Hid (w.heap.size ≤ q) := Nat.le_trans B6.out.size q1
    have X7 : Hid (∃ xs, w7.ownsRow w6.heap.size T7 1 (.slice (some ⟨q, 0, none⟩) (fillB c).length c7) (fillB c).length xs) := ⟨_, h5⟩
    obtain ⟨n, hn⟩ : ∃ n, n = (fillB c).length := ⟨_, rfl⟩
    rw [← hn] at X7 ⊢
    have nb : n ≤ 1000 := by rw [hn, fill_len]; decide
    clear h1 h2 hb h3 h4 h5 q1 q2 B6 D6 S6 hn
    go_wp2_with fail
    go_loopg [10] n (fun gh s10 wx => ∃ k : Nat, k ≤ n ∧ Hid (gh = n - k) ∧ s10 = .int .i64 (k : Int) ∧ Hid (DI w1.heap.size O5 (dkS c) g wx) ∧ Hid (∃ xs, wx.ownsRow w6.heap.size T7 1 (.slice (some ⟨q, 0, none⟩) n c7) n xs) ∧ Hid (Below w.heap.size w wx))
    case atStart => exact ⟨0, by omega, by show _ = _; omega, rfl, D7, X7, B7⟩
    case round =>
      obtain ⟨k, hk, HG, rfl, DK, XK, BK⟩ := hrel
      by_cases kn : k < n
      · have ki : (k : Int) < (n : Int) := by omega
        have k0 : (0 : Int) ≤ (k : Int) := by omega
        obtain ⟨xs, hx⟩ := XK.out
        have c0 := World.ownsRow.cellAt hx k (by omega)
        obtain ⟨u, hu⟩ : ∃ u, xs[k]? = some u := ⟨_, List.getElem?_eq_getElem (by have := hx.1; omega)⟩
        rw [hu] at c0
        have f0 := World.ownsRow.frozenAt hx k
        have X8 : Hid (∃ xs, (wr.setCell ⟨q, k, none⟩ (.int .u8 77)).ownsRow w6.heap.size T7 1 (.slice (some ⟨q, 0, none⟩) n c7) n xs) := ⟨_, (World.ownsRow.stored hx k (.int .u8 77)).1⟩
        have D8 := Lib.hid (DK.out.other (b := q) (j := k) NQ.out (.int .u8 77))
        have B8 : Hid (Below w.heap.size w (wr.setCell ⟨q, k, none⟩ (.int .u8 77))) := BK.out.setCell (p := ⟨q, k, none⟩) QW.out _
        clear hx hu
        go_wp2_with fail
        go_roundg (n - (k + 1))
        case measure => have := HG.out; omega
        case rel => exact ⟨k + 1, by omega, rfl, by go_num, D8, X8, B8⟩
      · obtain rfl : k = n := by omega
        have dk : decide ((k : Int) < (k : Int)) = false := decide_eq_false (Int.lt_irrefl _)
        clear kn hk
        go_wp2_with fail
        refine (read15 _ O5 g 1 (dkS c) 0 _ DK.out (own_ok2 c) (by decide) (own_b2 c)).mono ?_
        rintro e w9 ⟨Ay, ny, cy, rfl, h1, h2, hb, h3, h4, h5⟩
        rw [own_r2] at h1 h2 ⊢
        dsimp only at h1 h2
        have B9 := Lib.hid (chain BK.out hb)
        have Ry := Lib.hid h2; have My := Lib.hid h1
        clear h1 h2 hb h3 h4 h5 BK DK XK
        go_wp2_with fail
        have ty := text_of (c := cy) Ry.out My.out
        refine wp_region_noPanic ?_
        refine wp_region_held_drew (S := fun w' => Below w9.drew.heap.size w9.drew w') (by kernel_rfl) (Below.refl _ _) (fun hHeld => ?_)
        have hb := below_drew w9
        generalize w9.drew = w10 at hb hHeld ⊢
        have B10 := Lib.hid (chain B9.out hb)
        replace Ry := Lib.hid (Ry.out.below hb)
        clear ty
        clear hb B9
        clear hHeld
        have hHeld : Below w10.heap.size w10 w10 := Below.refl _ _
        refine wpAnyH_take (i := 0) (v := ?vv1) (by simp only [List.getElem?_toArray, List.getElem?_cons_zero]; rfl) (by kernel_rfl) (by kernel_rfl) (by kernel_rfl) (fun _ _ _ h => h) (Or.inl ⟨by rfl, ?yy1⟩) (by assumption) ?rr1
        case yy1 => (intro w' hSw; go_simp; first | done | with_reducible rfl)
        simp only [Act.put, List.setIfInBounds_toArray, List.set_cons_zero, List.set_cons_succ]
        refine wpAnyH_take (i := 1) (v := ?vv2) (by simp only [List.getElem?_toArray, List.getElem?_cons_zero, List.getElem?_cons_succ]; rfl) (by kernel_rfl) (by kernel_rfl) (by kernel_rfl) (fun _ _ _ h => h) (Or.inl ⟨by rfl, ?yy2⟩) (by assumption) ?rr2
        case yy2 => (intro w' hSw; go_simp; first | done | with_reducible rfl)
        simp only [Act.put, List.setIfInBounds_toArray, List.set_cons_zero, List.set_cons_succ]
        refine wpAnyH_take (i := 2) (v := ?vv3) (by simp only [List.getElem?_toArray, List.getElem?_cons_zero, List.getElem?_cons_succ]; rfl) (by kernel_rfl) (by kernel_rfl) (by kernel_rfl) (fun _ _ _ h => h) (Or.inl ⟨by rfl, ?yy3⟩) (by assumption) ?rr3
        case yy3 => (intro w' hSw; go_simp; first | done | with_reducible rfl)
        simp only [Act.put, List.setIfInBounds_toArray, List.set_cons_zero, List.set_cons_succ]
        refine wpAnyH_take (i := 3) (v := ?vv4) (by simp only [List.getElem?_toArray, List.getElem?_cons_zero, List.getElem?_cons_succ]; rfl) (by kernel_rfl) (by kernel_rfl) (by kernel_rfl) (fun _ _ _ h => h) (Or.inl ⟨by rfl, ?yy4⟩) (by assumption) ?rr4
        case yy4 => (intro w' hSw; go_simp; first | done | with_reducible rfl)
        simp only [Act.put, List.setIfInBounds_toArray, List.set_cons_zero, List.set_cons_succ]
        refine wpAnyH_take (i := 4) (v := ?vv5) (by simp only [List.getElem?_toArray, List.getElem?_cons_zero, List.getElem?_cons_succ]; rfl) (by kernel_rfl) (by kernel_rfl) (by kernel_rfl) (fun _ _ _ h => h) (Or.inl ⟨by rfl, ?yy5⟩) (by assumption) ?rr5
        case yy5 => (intro w' hSw; go_simp; first | done | with_reducible rfl)
        simp only [Act.put, List.setIfInBounds_toArray, List.set_cons_zero, List.set_cons_succ]
        refine wpAnyH_take (i := 5) (v := ?vv6) (by simp only [List.getElem?_toArray, List.getElem?_cons_zero, List.getElem?_cons_succ]; rfl) (by kernel_rfl) (by kernel_rfl) (by kernel_rfl) (fun _ _ _ h => h) (Or.inl ⟨by rfl, ?yy6⟩) (by assumption) ?rr6
        case yy6 => (intro w' hSw; go_simp; first | done | with_reducible rfl)
        simp only [Act.put, List.setIfInBounds_toArray, List.set_cons_zero, List.set_cons_succ]
        refine wpAnyH_take (i := 6) (v := ?vv7) (by simp only [List.getElem?_toArray, List.getElem?_cons_zero, List.getElem?_cons_succ]; rfl) (by kernel_rfl) (by kernel_rfl) (by kernel_rfl) (fun _ _ _ h => h) (Or.inl ⟨by rfl, ?yy7⟩) (by assumption) ?rr7
        case yy7 => (intro w' hSw; go_simp; first | done | with_reducible rfl)
        simp only [Act.put, List.setIfInBounds_toArray, List.set_cons_zero, List.set_cons_succ]
        refine wpAnyH_take (i := 7) (v := ?vv8) (by simp only [List.getElem?_toArray, List.getElem?_cons_zero, List.getElem?_cons_succ]; rfl) (by kernel_rfl) (by kernel_rfl) (by kernel_rfl) (fun _ _ _ h => h) (Or.inl ⟨by rfl, ?yy8⟩) (by assumption) ?rr8
        case yy8 => (intro w' hSw; have ty := text_of (c := cy) (Ry.out.below hSw) My.out; go_simp; first | done | with_reducible rfl)
        simp only [Act.put, List.setIfInBounds_toArray, List.set_cons_zero, List.set_cons_succ]
        refine wpAnyH_take (i := 8) (v := ?vv9) (by simp only [List.getElem?_toArray, List.getElem?_cons_zero, List.getElem?_cons_succ]; rfl) (by kernel_rfl) (by kernel_rfl) (by kernel_rfl) (fun _ _ _ h => h) (Or.inl ⟨by rfl, ?yy9⟩) (by assumption) ?rr9
        case yy9 => (intro w' hSw; go_simp; first | done | with_reducible rfl)
        simp only [Act.put, List.setIfInBounds_toArray, List.set_cons_zero, List.set_cons_succ]
        refine wpAnyH_ready (rs := [9]) (by kernel_rfl) (by simp) ?_
        refine AllReadyH.cons (by simp only [List.getElem?_toArray, List.getElem?_cons_zero, List.getElem?_cons_succ]; rfl) (fun K hK => ?_) AllReadyH.nil
        go_simp
        go_at_call 24
        (with_reducible refine (CN.out _).mono ?_)
        rintro e w11 ⟨Af, kf, nf, rfl, h1, h2, hb, h4, h5, h6⟩
        have Mf := Lib.hid h1; have Rf := Lib.hid h2; have Kf := Lib.hid h4
        clear h1 h2 h4 h5 h6
        have hb0 := hb
        go_wp2_with fail
        refine hK.out _ _ hb0 (fun hHeld => ?_)
        clear hK K hHeld
        refine wpAnyH_more (S' := fun w' => Below w11.heap.size w11 w') (fun _ h => chain hb0 h) _ _ _ _ ?_
        clear hb0
        have hHeld : Below w11.heap.size w11 w11 := Below.refl _ _
        try simp only [Act.put, List.setIfInBounds_toArray, List.set_cons_zero, List.set_cons_succ]
        have B11 := Lib.hid (chain B10.out hb)
        replace Ry := Lib.hid (Ry.out.below hb)
        clear hb B10
        refine wpAnyH_take (i := 10) (v := ?vv10) (by simp only [List.getElem?_toArray, List.getElem?_cons_zero, List.getElem?_cons_succ]; rfl) (by kernel_rfl) (by kernel_rfl) (by kernel_rfl) (fun _ _ _ h => h) (Or.inl ⟨by rfl, ?yy10⟩) (by assumption) ?rr10
        case yy10 => (intro w' hSw; have ty := text_of (c := cy) (Ry.out.below hSw) My.out; have tf := text_of (c := kf) (Rf.out.below hSw) Mf.out; go_simp; first | done | with_reducible rfl)
        simp only [Act.put, List.setIfInBounds_toArray, List.set_cons_zero, List.set_cons_succ]
        refine wpAnyH_take (i := 11) (v := ?vv11) (by simp only [List.getElem?_toArray, List.getElem?_cons_zero, List.getElem?_cons_succ]; rfl) (by kernel_rfl) (by kernel_rfl) (by kernel_rfl) (fun _ _ _ h => h) (Or.inl ⟨by rfl, ?yy11⟩) (by assumption) ?rr11
        case yy11 => (intro w' hSw; go_simp; first | done | with_reducible rfl)
        simp only [Act.put, List.setIfInBounds_toArray, List.set_cons_zero, List.set_cons_succ]
        refine wpAnyH_take (i := 12) (v := ?vv12) (by simp only [List.getElem?_toArray, List.getElem?_cons_zero, List.getElem?_cons_succ]; rfl) (by kernel_rfl) (by kernel_rfl) (by kernel_rfl) (fun _ _ _ h => h) (Or.inl ⟨by rfl, ?yy12⟩) (by assumption) ?rr12
        case yy12 => (intro w' hSw; go_simp; first | done | with_reducible rfl)
        simp only [Act.put, List.setIfInBounds_toArray, List.set_cons_zero, List.set_cons_succ]
        refine wpAnyH_take (i := 13) (v := ?vv13) (by simp only [List.getElem?_toArray, List.getElem?_cons_zero, List.getElem?_cons_succ]; rfl) (by kernel_rfl) (by kernel_rfl) (by kernel_rfl) (fun _ _ _ h => h) (Or.inl ⟨by rfl, ?yy13⟩) (by assumption) ?rr13
        case yy13 => (intro w' hSw; go_simp; first | done | with_reducible rfl)
        simp only [Act.put, List.setIfInBounds_toArray, List.set_cons_zero, List.set_cons_succ]
        refine wpAnyH_done (by kernel_rfl) ?_ _
        refine NoPanic.normal ?_
        clear hHeld
        have ty := text_of (c := cy) Ry.out My.out
        have tf := text_of (c := kf) Rf.out Mf.out
        go_wp2_with fail
        go_ret
        exact ⟨rfl, B11.out⟩
  | false =>
    have c0 := World.ownsRow.cellAt W4.out 0 (by rw [fill_len]; decide)
    rw [fill_0, ← HZ.out] at c0
    have f0 := World.ownsRow.frozenAt W4.out 0
    have n0 : 0 < (fillB c).length := by rw [fill_len]; decide
    have n1 : (0 : Int) < ((fillB c).length : Int) := by omega
    go_wp2_with fail
    have D6 := Lib.hid (D4.out.other (b := p) (j := 0) N4.out (.int .u8 y))
    have B6 : Hid (Below w.heap.size w (w4.setCell ⟨p, 0, none⟩ (.int .u8 y))) := B4.out.setCell (p := ⟨p, 0, none⟩) PW.out _
    have S6 : Hid (w1.heap.size ≤ (w4.setCell ⟨p, 0, none⟩ (.int .u8 y)).heap.size) := by show _ ≤ _; rw [World.size_setCell]; exact S4.out
    generalize w4.setCell ⟨p, 0, none⟩ (.int .u8 y) = w6 at D6 B6 S6 ⊢
    clear c0 f0 n0 n1 D4 B4 S4 W4 P4
    refine (read15 _ O4 g 1 (dkO c) 0 _ D6.out (own_ok1 c) (by decide) (own_b1 c)).mono ?_
    rintro e w7 ⟨A7, n7, c7, rfl, h1, h2, hb, h3, h4, T7, h5⟩
    rw [own_r1] at h1 h2 h5 ⊢
    dsimp only at h1 h2 h5
    obtain ⟨q, cq, e7, q1, q2⟩ := World.ownsRow.form h5 (by rw [fill_len]; decide)
    injection e7 with e7 e8 e9
    subst e7 e8 e9
    have B7 := Lib.hid (chain B6.out hb)
    have D7 := Lib.hid (D6.out.below hb)
    have NQ : Hid (¬ O4 q) := fun z => by have := (D6.out.lt q z).2; omega
    have QW : Hid (w.heap.size ≤ q) := Nat.le_trans B6.out.size q1
    have X7 : Hid (∃ xs, w7.ownsRow w6.heap.size T7 1 (.slice (some ⟨q, 0, none⟩) (fillB c).length c7) (fillB c).length xs) := ⟨_, h5⟩
    obtain ⟨n, hn⟩ : ∃ n, n = (fillB c).length := ⟨_, rfl⟩
    rw [← hn] at X7 ⊢
    have nb : n ≤ 1000 := by rw [hn, fill_len]; decide
    clear h1 h2 hb h3 h4 h5 q1 q2 B6 D6 S6 hn
    go_wp2_with fail
    go_loopg [10] n (fun gh s10 wx => ∃ k : Nat, k ≤ n ∧ Hid (gh = n - k) ∧ s10 = .int .i64 (k : Int) ∧ Hid (DI w1.heap.size O4 (dkO c) g wx) ∧ Hid (∃ xs, wx.ownsRow w6.heap.size T7 1 (.slice (some ⟨q, 0, none⟩) n c7) n xs) ∧ Hid (Below w.heap.size w wx))
    case atStart => exact ⟨0, by omega, by show _ = _; omega, rfl, D7, X7, B7⟩
    case round =>
      obtain ⟨k, hk, HG, rfl, DK, XK, BK⟩ := hrel
      by_cases kn : k < n
      · have ki : (k : Int) < (n : Int) := by omega
        have k0 : (0 : Int) ≤ (k : Int) := by omega
        obtain ⟨xs, hx⟩ := XK.out
        have c0 := World.ownsRow.cellAt hx k (by omega)
        obtain ⟨u, hu⟩ : ∃ u, xs[k]? = some u := ⟨_, List.getElem?_eq_getElem (by have := hx.1; omega)⟩
        rw [hu] at c0
        have f0 := World.ownsRow.frozenAt hx k
        have X8 : Hid (∃ xs, (wr.setCell ⟨q, k, none⟩ (.int .u8 77)).ownsRow w6.heap.size T7 1 (.slice (some ⟨q, 0, none⟩) n c7) n xs) := ⟨_, (World.ownsRow.stored hx k (.int .u8 77)).1⟩
        have D8 := Lib.hid (DK.out.other (b := q) (j := k) NQ.out (.int .u8 77))
        have B8 : Hid (Below w.heap.size w (wr.setCell ⟨q, k, none⟩ (.int .u8 77))) := BK.out.setCell (p := ⟨q, k, none⟩) QW.out _
        clear hx hu
        go_wp2_with fail
        go_roundg (n - (k + 1))
        case measure => have := HG.out; omega
        case rel => exact ⟨k + 1, by omega, rfl, by go_num, D8, X8, B8⟩
      · obtain rfl : k = n := by omega
        have dk : decide ((k : Int) < (k : Int)) = false := decide_eq_false (Int.lt_irrefl _)
        clear kn hk
        go_wp2_with fail
        refine (read15 _ O4 g 1 (dkO c) 0 _ DK.out (own_ok1 c) (by decide) (own_b1 c)).mono ?_
        rintro e w9 ⟨Ay, ny, cy, rfl, h1, h2, hb, h3, h4, h5⟩
        rw [own_r1] at h1 h2 ⊢
        dsimp only at h1 h2
        have B9 := Lib.hid (chain BK.out hb)
        have Ry := Lib.hid h2; have My := Lib.hid h1
        clear h1 h2 hb h3 h4 h5 BK DK XK
        go_wp2_with fail
        have ty := text_of (c := cy) Ry.out My.out
        refine wp_region_noPanic ?_
        refine wp_region_held_drew (S := fun w' => Below w9.drew.heap.size w9.drew w') (by kernel_rfl) (Below.refl _ _) (fun hHeld => ?_)
        have hb := below_drew w9
        generalize w9.drew = w10 at hb hHeld ⊢
        have B10 := Lib.hid (chain B9.out hb)
        replace Ry := Lib.hid (Ry.out.below hb)
        clear ty
        clear hb B9
        clear hHeld
        have hHeld : Below w10.heap.size w10 w10 := Below.refl _ _
        refine wpAnyH_take (i := 0) (v := ?vv14) (by simp only [List.getElem?_toArray, List.getElem?_cons_zero]; rfl) (by kernel_rfl) (by kernel_rfl) (by kernel_rfl) (fun _ _ _ h => h) (Or.inl ⟨by rfl, ?yy14⟩) (by assumption) ?rr14
        case yy14 => (intro w' hSw; go_simp; first | done | with_reducible rfl)
        simp only [Act.put, List.setIfInBounds_toArray, List.set_cons_zero, List.set_cons_succ]
        refine wpAnyH_take (i := 1) (v := ?vv15) (by simp only [List.getElem?_toArray, List.getElem?_cons_zero, List.getElem?_cons_succ]; rfl) (by kernel_rfl) (by kernel_rfl) (by kernel_rfl) (fun _ _ _ h => h) (Or.inl ⟨by rfl, ?yy15⟩) (by assumption) ?rr15
        case yy15 => (intro w' hSw; go_simp; first | done | with_reducible rfl)
        simp only [Act.put, List.setIfInBounds_toArray, List.set_cons_zero, List.set_cons_succ]
        refine wpAnyH_take (i := 2) (v := ?vv16) (by simp only [List.getElem?_toArray, List.getElem?_cons_zero, List.getElem?_cons_succ]; rfl) (by kernel_rfl) (by kernel_rfl) (by kernel_rfl) (fun _ _ _ h => h) (Or.inl ⟨by rfl, ?yy16⟩) (by assumption) ?rr16
        case yy16 => (intro w' hSw; go_simp; first | done | with_reducible rfl)
        simp only [Act.put, List.setIfInBounds_toArray, List.set_cons_zero, List.set_cons_succ]
        refine wpAnyH_take (i := 3) (v := ?vv17) (by simp only [List.getElem?_toArray, List.getElem?_cons_zero, List.getElem?_cons_succ]; rfl) (by kernel_rfl) (by kernel_rfl) (by kernel_rfl) (fun _ _ _ h => h) (Or.inl ⟨by rfl, ?yy17⟩) (by assumption) ?rr17
        case yy17 => (intro w' hSw; go_simp; first | done | with_reducible rfl)
        simp only [Act.put, List.setIfInBounds_toArray, List.set_cons_zero, List.set_cons_succ]
        refine wpAnyH_take (i := 4) (v := ?vv18) (by simp only [List.getElem?_toArray, List.getElem?_cons_zero, List.getElem?_cons_succ]; rfl) (by kernel_rfl) (by kernel_rfl) (by kernel_rfl) (fun _ _ _ h => h) (Or.inl ⟨by rfl, ?yy18⟩) (by assumption) ?rr18
        case yy18 => (intro w' hSw; go_simp; first | done | with_reducible rfl)
        simp only [Act.put, List.setIfInBounds_toArray, List.set_cons_zero, List.set_cons_succ]
        refine wpAnyH_take (i := 5) (v := ?vv19) (by simp only [List.getElem?_toArray, List.getElem?_cons_zero, List.getElem?_cons_succ]; rfl) (by kernel_rfl) (by kernel_rfl) (by kernel_rfl) (fun _ _ _ h => h) (Or.inl ⟨by rfl, ?yy19⟩) (by assumption) ?rr19
        case yy19 => (intro w' hSw; go_simp; first | done | with_reducible rfl)
        simp only [Act.put, List.setIfInBounds_toArray, List.set_cons_zero, List.set_cons_succ]
        refine wpAnyH_take (i := 6) (v := ?vv20) (by simp only [List.getElem?_toArray, List.getElem?_cons_zero, List.getElem?_cons_succ]; rfl) (by kernel_rfl) (by kernel_rfl) (by kernel_rfl) (fun _ _ _ h => h) (Or.inl ⟨by rfl, ?yy20⟩) (by assumption) ?rr20
        case yy20 => (intro w' hSw; go_simp; first | done | with_reducible rfl)
        simp only [Act.put, List.setIfInBounds_toArray, List.set_cons_zero, List.set_cons_succ]
        refine wpAnyH_take (i := 7) (v := ?vv21) (by simp only [List.getElem?_toArray, List.getElem?_cons_zero, List.getElem?_cons_succ]; rfl) (by kernel_rfl) (by kernel_rfl) (by kernel_rfl) (fun _ _ _ h => h) (Or.inl ⟨by rfl, ?yy21⟩) (by assumption) ?rr21
        case yy21 => (intro w' hSw; have ty := text_of (c := cy) (Ry.out.below hSw) My.out; go_simp; first | done | with_reducible rfl)
        simp only [Act.put, List.setIfInBounds_toArray, List.set_cons_zero, List.set_cons_succ]
        refine wpAnyH_take (i := 8) (v := ?vv22) (by simp only [List.getElem?_toArray, List.getElem?_cons_zero, List.getElem?_cons_succ]; rfl) (by kernel_rfl) (by kernel_rfl) (by kernel_rfl) (fun _ _ _ h => h) (Or.inl ⟨by rfl, ?yy22⟩) (by assumption) ?rr22
        case yy22 => (intro w' hSw; go_simp; first | done | with_reducible rfl)
        simp only [Act.put, List.setIfInBounds_toArray, List.set_cons_zero, List.set_cons_succ]
        refine wpAnyH_ready (rs := [9]) (by kernel_rfl) (by simp) ?_
        refine AllReadyH.cons (by simp only [List.getElem?_toArray, List.getElem?_cons_zero, List.getElem?_cons_succ]; rfl) (fun K hK => ?_) AllReadyH.nil
        go_simp
        go_at_call 24
        (with_reducible refine (CN.out _).mono ?_)
        rintro e w11 ⟨Af, kf, nf, rfl, h1, h2, hb, h4, h5, h6⟩
        have Mf := Lib.hid h1; have Rf := Lib.hid h2; have Kf := Lib.hid h4
        clear h1 h2 h4 h5 h6
        have hb0 := hb
        go_wp2_with fail
        refine hK.out _ _ hb0 (fun hHeld => ?_)
        clear hK K hHeld
        refine wpAnyH_more (S' := fun w' => Below w11.heap.size w11 w') (fun _ h => chain hb0 h) _ _ _ _ ?_
        clear hb0
        have hHeld : Below w11.heap.size w11 w11 := Below.refl _ _
        try simp only [Act.put, List.setIfInBounds_toArray, List.set_cons_zero, List.set_cons_succ]
        have B11 := Lib.hid (chain B10.out hb)
        replace Ry := Lib.hid (Ry.out.below hb)
        clear hb B10
        refine wpAnyH_take (i := 10) (v := ?vv23) (by simp only [List.getElem?_toArray, List.getElem?_cons_zero, List.getElem?_cons_succ]; rfl) (by kernel_rfl) (by kernel_rfl) (by kernel_rfl) (fun _ _ _ h => h) (Or.inl ⟨by rfl, ?yy23⟩) (by assumption) ?rr23
        case yy23 => (intro w' hSw; have ty := text_of (c := cy) (Ry.out.below hSw) My.out; have tf := text_of (c := kf) (Rf.out.below hSw) Mf.out; go_simp; first | done | with_reducible rfl)
        simp only [Act.put, List.setIfInBounds_toArray, List.set_cons_zero, List.set_cons_succ]
        refine wpAnyH_take (i := 11) (v := ?vv24) (by simp only [List.getElem?_toArray, List.getElem?_cons_zero, List.getElem?_cons_succ]; rfl) (by kernel_rfl) (by kernel_rfl) (by kernel_rfl) (fun _ _ _ h => h) (Or.inl ⟨by rfl, ?yy24⟩) (by assumption) ?rr24
        case yy24 => (intro w' hSw; go_simp; first | done | with_reducible rfl)
        simp only [Act.put, List.setIfInBounds_toArray, List.set_cons_zero, List.set_cons_succ]
        refine wpAnyH_take (i := 12) (v := ?vv25) (by simp only [List.getElem?_toArray, List.getElem?_cons_zero, List.getElem?_cons_succ]; rfl) (by kernel_rfl) (by kernel_rfl) (by kernel_rfl) (fun _ _ _ h => h) (Or.inl ⟨by rfl, ?yy25⟩) (by assumption) ?rr25
        case yy25 => (intro w' hSw; go_simp; first | done | with_reducible rfl)
        simp only [Act.put, List.setIfInBounds_toArray, List.set_cons_zero, List.set_cons_succ]
        refine wpAnyH_take (i := 13) (v := ?vv26) (by simp only [List.getElem?_toArray, List.getElem?_cons_zero, List.getElem?_cons_succ]; rfl) (by kernel_rfl) (by kernel_rfl) (by kernel_rfl) (fun _ _ _ h => h) (Or.inl ⟨by rfl, ?yy26⟩) (by assumption) ?rr26
        case yy26 => (intro w' hSw; go_simp; first | done | with_reducible rfl)
        simp only [Act.put, List.setIfInBounds_toArray, List.set_cons_zero, List.set_cons_succ]
        refine wpAnyH_done (by kernel_rfl) ?_ _
        refine NoPanic.normal ?_
        clear hHeld
        have ty := text_of (c := cy) Ry.out My.out
        have tf := text_of (c := kf) Rf.out Mf.out
        go_wp2_with fail
        go_ret
        exact ⟨rfl, B11.out⟩

end Go.Proofs.Ytpdedeaejlkokaa
