/-
  ChunkBack: a chunk is got from its bytes; bytes that are one's are those of what is got.
-/
import Derived.Test.YtlllinpaclodaaaCHead
namespace Go.Proofs.Ytlllinpaclodaaa
open Go.RowKit

set_option maxHeartbeats 8000000 in
set_option maxRecDepth 100000 in
theorem law_cback (a : Int) (Al : Option Addr) (cl nl : Nat) (xl : List UInt64) (Ab : Option Addr) (cb nb : Nat) (xb : List UInt8) (w : World) (hl : Rg ucells w Al xl) (ll : nl = xl.length) (kl : nl ≤ cl) (hb : Rg bcells w Ab xb) (lb : nb = xb.length) (kb : nb ≤ cb) (ia : I64 a) :
    Calls Try.prog 4 #[.int .i64 a, .slice Al nl cl, .slice Ab nb cb] w fun e w' => e = .returned (.bool true) ∧ Below w.heap.size w w' := by
  have Rl := Lib.hid hl; have Ml := Lib.hid ll; have Kl := Lib.hid kl
  have Rb := Lib.hid hb; have Mb := Lib.hid lb; have Kb := Lib.hid kb
  clear hl ll kl hb lb kb
  by_cases g0 : 900 < nl
  · skip
    have d0 : decide (900 < (nl : Int)) = true := decide_eq_true (by omega)
    clear g0
    go_enter Try.func4, Try.ntmps4
    go_wp2_with fail
    refine (head14_any _).mono ?_
    rintro e w1 ⟨rfl, hb⟩
    have B1 := Lib.hid hb
    replace Rl := Lib.hid (Rl.out.below hb)
    replace Rb := Lib.hid (Rb.out.below hb)
    clear hb
    go_wp2_with fail
    go_ret
    exact ⟨rfl, B1.out⟩
  have d0 : decide (900 < (nl : Int)) = false := decide_eq_false (by omega)
  by_cases g1 : 900 < nb
  · skip
    have d1 : decide (900 < (nb : Int)) = true := decide_eq_true (by omega)
    clear g0 g1
    go_enter Try.func4, Try.ntmps4
    go_wp2_with fail
    refine (head14_any _).mono ?_
    rintro e w1 ⟨rfl, hb⟩
    have B1 := Lib.hid hb
    replace Rl := Lib.hid (Rl.out.below hb)
    replace Rb := Lib.hid (Rb.out.below hb)
    clear hb
    go_wp2_with fail
    go_ret
    exact ⟨rfl, B1.out⟩
  have d1 : decide (900 < (nb : Int)) = false := decide_eq_false (by omega)
  have l9 : nl ≤ 900 := by omega
  have b9 : nb ≤ 900 := by omega
  clear g0 g1
  by_cases c0 : a < 0
  · skip
    have e0 : decide (0 ≤ a) = false := decide_eq_false (by omega)
    have okp : okPut a nl = false := ok_put_no (by omega)
    clear c0
    have PN := Lib.hid (put_no (a := a) (l := xl) (by rw [← Ml.out]; exact okp))
    clear okp
    go_enter Try.func4, Try.ntmps4
    go_wp2_with fail
    refine (head14_any _).mono ?_
    rintro e w1 ⟨rfl, hb⟩
    have B1 := Lib.hid hb
    replace Rl := Lib.hid (Rl.out.below hb)
    replace Rb := Lib.hid (Rb.out.below hb)
    clear hb
    go_wp2_with fail
    refine (put14 (a) Al cl nl (xl) _ Rl.out Ml.out (by omega)).mono ?_
    rintro e w2 ⟨Ap, kp, np, rfl, h1, h2, hb, h4, h5, h6⟩
    rw [PN.out] at h1 h2
    have Mp := Lib.hid h1; have Rp := Lib.hid h2; have Kp := Lib.hid h4
    clear h1 h2 h4 h5 h6
    have B2 := Lib.hid (chain B1.out hb)
    replace Rl := Lib.hid (Rl.out.below hb)
    replace Rb := Lib.hid (Rb.out.below hb)
    clear hb B1
    obtain rfl : np = 0 := Mp.out
    go_wp2_with fail
    refine (get14 Ap kp 0 [] _ Rp.out rfl (by decide)).mono ?_
    rintro e w3 ⟨Ax, kx, nx, rfl, h1, h2, hb, h4, h5⟩
    obtain ⟨z1, z2⟩ := get_no get_nil
    rw [z2] at h1 h2
    rw [z1, get_nil]
    clear z1 z2
    have Mx := Lib.hid h1; have Rx := Lib.hid h2; have Kx := Lib.hid h4
    clear h1 h2 h4 h5
    have B3 := Lib.hid (chain B2.out hb)
    replace Rl := Lib.hid (Rl.out.below hb)
    replace Rb := Lib.hid (Rb.out.below hb)
    replace Rp := Lib.hid (Rp.out.below hb)
    clear hb B2
    obtain rfl : nx = 0 := Mx.out
    clear Rp
    clear Rx
    have tb := text_of (c := cb) Rb.out Mb.out
    rcases okb : okGet xb with _ | _
    · skip
      have Z := get_no okb
      have Z1 := Lib.hid Z.1; have Z2 := Lib.hid Z.2; have Z3 := Lib.hid okb
      clear Z okb
      go_wp2_with fail
      refine (get14 Ab cb nb (xb) _ Rb.out Mb.out (by omega)).mono ?_
      rintro e w4 ⟨Ay, ky, ny, rfl, h1, h2, hb, h4, h5⟩
      rw [Z2.out] at h1 h2
      rw [Z1.out, Z3.out]
      have My := Lib.hid h1; have Ry := Lib.hid h2; have Ky := Lib.hid h4
      clear h1 h2 h4 h5
      have B4 := Lib.hid (chain B3.out hb)
      replace Rl := Lib.hid (Rl.out.below hb)
      replace Rb := Lib.hid (Rb.out.below hb)
      clear tb
      clear hb B3
      have tb := text_of (c := cb) Rb.out Mb.out
      obtain rfl : ny = 0 := My.out
      go_wp2_with fail
      go_ret
      exact ⟨rfl, B4.out⟩
    · skip
      have Z := get_yes okb
      obtain ⟨z1, z2⟩ := put_get okb
      have Z1 := Lib.hid Z.1; have Z2 := Lib.hid Z.2; have Z3 := Lib.hid okb; have Z4 := Lib.hid z2
      have LM : Hid ((listC xb).length ≤ 6) := by have := getl_max xb; rw [Z2.out] at this; exact this
      clear Z okb z1 z2
      go_wp2_with fail
      refine (get14 Ab cb nb (xb) _ Rb.out Mb.out (by omega)).mono ?_
      rintro e w4 ⟨Ay, ky, ny, rfl, h1, h2, hb, h4, h5⟩
      rw [Z2.out] at h1 h2
      rw [Z1.out, Z3.out]
      have My := Lib.hid h1; have Ry := Lib.hid h2; have Ky := Lib.hid h4
      clear h1 h2 h4 h5
      have B4 := Lib.hid (chain B3.out hb)
      replace Rl := Lib.hid (Rl.out.below hb)
      replace Rb := Lib.hid (Rb.out.below hb)
      clear tb
      clear hb B3
      have tb := text_of (c := cb) Rb.out Mb.out
      have q1 : ((tx xb).toList == (tx xb).toList) = true := by simp
      have y9 : ny ≤ 1000000 := by rw [My.out]; exact Nat.le_trans LM.out (by decide)
      go_wp2_with fail
      refine wp_region_noPanic ?_
      refine wp_region_held_drew (S := fun w' => Below w4.drew.heap.size w4.drew w') (by kernel_rfl) (Below.refl _ _) (fun hHeld => ?_)
      have hb := below_drew w4
      generalize w4.drew = w5 at hb hHeld ⊢
      have B5 := Lib.hid (chain B4.out hb)
      replace Rl := Lib.hid (Rl.out.below hb)
      replace Rb := Lib.hid (Rb.out.below hb)
      replace Ry := Lib.hid (Ry.out.below hb)
      clear tb
      clear hb B4
      clear hHeld
      have hHeld : Below w5.heap.size w5 w5 := Below.refl _ _
      refine wpAnyH_take (i := 0) (v := ?vv41) (by simp only [List.getElem?_toArray, List.getElem?_cons_zero]; rfl) (by kernel_rfl) (by kernel_rfl) (by kernel_rfl) (fun _ _ _ h => h) (Or.inl ⟨by rfl, ?yy41⟩) (by assumption) ?rr41
      case yy41 => (intro w' hSw; go_simp; first | done | with_reducible rfl)
      simp only [Act.put, List.setIfInBounds_toArray, List.set_cons_zero, List.set_cons_succ]
      refine wpAnyH_take (i := 1) (v := ?vv42) (by simp only [List.getElem?_toArray, List.getElem?_cons_zero, List.getElem?_cons_succ]; rfl) (by kernel_rfl) (by kernel_rfl) (by kernel_rfl) (fun _ _ _ h => h) (Or.inl ⟨by rfl, ?yy42⟩) (by assumption) ?rr42
      case yy42 => (intro w' hSw; go_simp; first | done | with_reducible rfl)
      simp only [Act.put, List.setIfInBounds_toArray, List.set_cons_zero, List.set_cons_succ]
      refine wpAnyH_take (i := 2) (v := ?vv43) (by simp only [List.getElem?_toArray, List.getElem?_cons_zero, List.getElem?_cons_succ]; rfl) (by kernel_rfl) (by kernel_rfl) (by kernel_rfl) (fun _ _ _ h => h) (Or.inl ⟨by rfl, ?yy43⟩) (by assumption) ?rr43
      case yy43 => (intro w' hSw; go_simp; first | done | with_reducible rfl)
      simp only [Act.put, List.setIfInBounds_toArray, List.set_cons_zero, List.set_cons_succ]
      refine wpAnyH_take (i := 3) (v := ?vv44) (by simp only [List.getElem?_toArray, List.getElem?_cons_zero, List.getElem?_cons_succ]; rfl) (by kernel_rfl) (by kernel_rfl) (by kernel_rfl) (fun _ _ _ h => h) (Or.inl ⟨by rfl, ?yy44⟩) (by assumption) ?rr44
      case yy44 => (intro w' hSw; go_simp; first | done | with_reducible rfl)
      simp only [Act.put, List.setIfInBounds_toArray, List.set_cons_zero, List.set_cons_succ]
      refine wpAnyH_take (i := 6) (v := ?vv45) (by simp only [List.getElem?_toArray, List.getElem?_cons_zero, List.getElem?_cons_succ]; rfl) (by kernel_rfl) (by kernel_rfl) (by kernel_rfl) (fun _ _ _ h => h) (Or.inl ⟨by rfl, ?yy45⟩) (by assumption) ?rr45
      case yy45 => (intro w' hSw; go_simp; first | done | with_reducible rfl)
      simp only [Act.put, List.setIfInBounds_toArray, List.set_cons_zero, List.set_cons_succ]
      refine wpAnyH_take (i := 7) (v := ?vv46) (by simp only [List.getElem?_toArray, List.getElem?_cons_zero, List.getElem?_cons_succ]; rfl) (by kernel_rfl) (by kernel_rfl) (by kernel_rfl) (fun _ _ _ h => h) (Or.inl ⟨by rfl, ?yy46⟩) (by assumption) ?rr46
      case yy46 => (intro w' hSw; have tb := text_of (c := cb) (Rb.out.below hSw) Mb.out; go_simp; first | done | with_reducible rfl)
      simp only [Act.put, List.setIfInBounds_toArray, List.set_cons_zero, List.set_cons_succ]
      refine wpAnyH_ready (rs := [4]) (by kernel_rfl) (by simp) ?_
      refine AllReadyH.cons (by simp only [List.getElem?_toArray, List.getElem?_cons_zero, List.getElem?_cons_succ]; rfl) (fun K hK => ?_) AllReadyH.nil
      go_simp
      go_at_call 16
      (with_reducible refine (put14 (posC xb : Int) Ay ky ny (listC xb) _ Ry.out My.out y9).mono ?_)
      rintro e w6 ⟨Aq, kq, nq, rfl, h1, h2, hb, h4, h5, h6⟩
      rw [Z4.out] at h1 h2
      have Mq := Lib.hid h1; have Rq := Lib.hid h2
      clear h1 h2 h4 h5 h6
      have hb0 := hb
      go_wp2_with fail
      refine hK.out _ _ hb0 (fun hHeld => ?_)
      clear hK K hHeld
      refine wpAnyH_more (S' := fun w' => Below w6.heap.size w6 w') (fun _ h => chain hb0 h) _ _ _ _ ?_
      clear hb0
      have hHeld : Below w6.heap.size w6 w6 := Below.refl _ _
      try simp only [Act.put, List.setIfInBounds_toArray, List.set_cons_zero, List.set_cons_succ]
      have B6 := Lib.hid (chain B5.out hb)
      replace Rl := Lib.hid (Rl.out.below hb)
      replace Rb := Lib.hid (Rb.out.below hb)
      replace Ry := Lib.hid (Ry.out.below hb)
      clear hb B5
      refine wpAnyH_take (i := 5) (v := ?vv47) (by simp only [List.getElem?_toArray, List.getElem?_cons_zero, List.getElem?_cons_succ]; rfl) (by kernel_rfl) (by kernel_rfl) (by kernel_rfl) (fun _ _ _ h => h) (Or.inl ⟨by rfl, ?yy47⟩) (by assumption) ?rr47
      case yy47 => (intro w' hSw; have tb := text_of (c := cb) (Rb.out.below hSw) Mb.out; have tq := text_of (c := kq) (Rq.out.below hSw) Mq.out; go_simp; first | done | with_reducible rfl)
      simp only [Act.put, List.setIfInBounds_toArray, List.set_cons_zero, List.set_cons_succ]
      refine wpAnyH_take (i := 8) (v := ?vv48) (by simp only [List.getElem?_toArray, List.getElem?_cons_zero, List.getElem?_cons_succ]; rfl) (by kernel_rfl) (by kernel_rfl) (by kernel_rfl) (fun _ _ _ h => h) (Or.inl ⟨by rfl, ?yy48⟩) (by assumption) ?rr48
      case yy48 => (intro w' hSw; go_simp; first | done | with_reducible rfl)
      simp only [Act.put, List.setIfInBounds_toArray, List.set_cons_zero, List.set_cons_succ]
      refine wpAnyH_take (i := 9) (v := ?vv49) (by simp only [List.getElem?_toArray, List.getElem?_cons_zero, List.getElem?_cons_succ]; rfl) (by kernel_rfl) (by kernel_rfl) (by kernel_rfl) (fun _ _ _ h => h) (Or.inl ⟨by rfl, ?yy49⟩) (by assumption) ?rr49
      case yy49 => (intro w' hSw; go_simp; first | done | with_reducible rfl)
      simp only [Act.put, List.setIfInBounds_toArray, List.set_cons_zero, List.set_cons_succ]
      refine wpAnyH_take (i := 10) (v := ?vv50) (by simp only [List.getElem?_toArray, List.getElem?_cons_zero, List.getElem?_cons_succ]; rfl) (by kernel_rfl) (by kernel_rfl) (by kernel_rfl) (fun _ _ _ h => h) (Or.inl ⟨by rfl, ?yy50⟩) (by assumption) ?rr50
      case yy50 => (intro w' hSw; go_simp; first | done | with_reducible rfl)
      simp only [Act.put, List.setIfInBounds_toArray, List.set_cons_zero, List.set_cons_succ]
      refine wpAnyH_done (by kernel_rfl) ?_ _
      refine NoPanic.normal ?_
      clear hHeld
      have tb := text_of (c := cb) Rb.out Mb.out
      have tq := text_of (c := kq) Rq.out Mq.out
      go_wp2_with fail
      go_ret
      exact ⟨rfl, B6.out⟩
  have e0 : decide (0 ≤ a) = true := decide_eq_true (by omega)
  by_cases c1 : 65535 < a
  · skip
    have e1 : decide (a ≤ 65535) = false := decide_eq_false (by omega)
    have okp : okPut a nl = false := ok_put_no (by omega)
    clear c0 c1
    have PN := Lib.hid (put_no (a := a) (l := xl) (by rw [← Ml.out]; exact okp))
    clear okp
    go_enter Try.func4, Try.ntmps4
    go_wp2_with fail
    refine (head14_any _).mono ?_
    rintro e w1 ⟨rfl, hb⟩
    have B1 := Lib.hid hb
    replace Rl := Lib.hid (Rl.out.below hb)
    replace Rb := Lib.hid (Rb.out.below hb)
    clear hb
    go_wp2_with fail
    refine (put14 (a) Al cl nl (xl) _ Rl.out Ml.out (by omega)).mono ?_
    rintro e w2 ⟨Ap, kp, np, rfl, h1, h2, hb, h4, h5, h6⟩
    rw [PN.out] at h1 h2
    have Mp := Lib.hid h1; have Rp := Lib.hid h2; have Kp := Lib.hid h4
    clear h1 h2 h4 h5 h6
    have B2 := Lib.hid (chain B1.out hb)
    replace Rl := Lib.hid (Rl.out.below hb)
    replace Rb := Lib.hid (Rb.out.below hb)
    clear hb B1
    obtain rfl : np = 0 := Mp.out
    go_wp2_with fail
    refine (get14 Ap kp 0 [] _ Rp.out rfl (by decide)).mono ?_
    rintro e w3 ⟨Ax, kx, nx, rfl, h1, h2, hb, h4, h5⟩
    obtain ⟨z1, z2⟩ := get_no get_nil
    rw [z2] at h1 h2
    rw [z1, get_nil]
    clear z1 z2
    have Mx := Lib.hid h1; have Rx := Lib.hid h2; have Kx := Lib.hid h4
    clear h1 h2 h4 h5
    have B3 := Lib.hid (chain B2.out hb)
    replace Rl := Lib.hid (Rl.out.below hb)
    replace Rb := Lib.hid (Rb.out.below hb)
    replace Rp := Lib.hid (Rp.out.below hb)
    clear hb B2
    obtain rfl : nx = 0 := Mx.out
    clear Rp
    clear Rx
    have tb := text_of (c := cb) Rb.out Mb.out
    rcases okb : okGet xb with _ | _
    · skip
      have Z := get_no okb
      have Z1 := Lib.hid Z.1; have Z2 := Lib.hid Z.2; have Z3 := Lib.hid okb
      clear Z okb
      go_wp2_with fail
      refine (get14 Ab cb nb (xb) _ Rb.out Mb.out (by omega)).mono ?_
      rintro e w4 ⟨Ay, ky, ny, rfl, h1, h2, hb, h4, h5⟩
      rw [Z2.out] at h1 h2
      rw [Z1.out, Z3.out]
      have My := Lib.hid h1; have Ry := Lib.hid h2; have Ky := Lib.hid h4
      clear h1 h2 h4 h5
      have B4 := Lib.hid (chain B3.out hb)
      replace Rl := Lib.hid (Rl.out.below hb)
      replace Rb := Lib.hid (Rb.out.below hb)
      clear tb
      clear hb B3
      have tb := text_of (c := cb) Rb.out Mb.out
      obtain rfl : ny = 0 := My.out
      go_wp2_with fail
      go_ret
      exact ⟨rfl, B4.out⟩
    · skip
      have Z := get_yes okb
      obtain ⟨z1, z2⟩ := put_get okb
      have Z1 := Lib.hid Z.1; have Z2 := Lib.hid Z.2; have Z3 := Lib.hid okb; have Z4 := Lib.hid z2
      have LM : Hid ((listC xb).length ≤ 6) := by have := getl_max xb; rw [Z2.out] at this; exact this
      clear Z okb z1 z2
      go_wp2_with fail
      refine (get14 Ab cb nb (xb) _ Rb.out Mb.out (by omega)).mono ?_
      rintro e w4 ⟨Ay, ky, ny, rfl, h1, h2, hb, h4, h5⟩
      rw [Z2.out] at h1 h2
      rw [Z1.out, Z3.out]
      have My := Lib.hid h1; have Ry := Lib.hid h2; have Ky := Lib.hid h4
      clear h1 h2 h4 h5
      have B4 := Lib.hid (chain B3.out hb)
      replace Rl := Lib.hid (Rl.out.below hb)
      replace Rb := Lib.hid (Rb.out.below hb)
      clear tb
      clear hb B3
      have tb := text_of (c := cb) Rb.out Mb.out
      have q1 : ((tx xb).toList == (tx xb).toList) = true := by simp
      have y9 : ny ≤ 1000000 := by rw [My.out]; exact Nat.le_trans LM.out (by decide)
      go_wp2_with fail
      refine wp_region_noPanic ?_
      refine wp_region_held_drew (S := fun w' => Below w4.drew.heap.size w4.drew w') (by kernel_rfl) (Below.refl _ _) (fun hHeld => ?_)
      have hb := below_drew w4
      generalize w4.drew = w5 at hb hHeld ⊢
      have B5 := Lib.hid (chain B4.out hb)
      replace Rl := Lib.hid (Rl.out.below hb)
      replace Rb := Lib.hid (Rb.out.below hb)
      replace Ry := Lib.hid (Ry.out.below hb)
      clear tb
      clear hb B4
      clear hHeld
      have hHeld : Below w5.heap.size w5 w5 := Below.refl _ _
      refine wpAnyH_take (i := 0) (v := ?vv51) (by simp only [List.getElem?_toArray, List.getElem?_cons_zero]; rfl) (by kernel_rfl) (by kernel_rfl) (by kernel_rfl) (fun _ _ _ h => h) (Or.inl ⟨by rfl, ?yy51⟩) (by assumption) ?rr51
      case yy51 => (intro w' hSw; go_simp; first | done | with_reducible rfl)
      simp only [Act.put, List.setIfInBounds_toArray, List.set_cons_zero, List.set_cons_succ]
      refine wpAnyH_take (i := 1) (v := ?vv52) (by simp only [List.getElem?_toArray, List.getElem?_cons_zero, List.getElem?_cons_succ]; rfl) (by kernel_rfl) (by kernel_rfl) (by kernel_rfl) (fun _ _ _ h => h) (Or.inl ⟨by rfl, ?yy52⟩) (by assumption) ?rr52
      case yy52 => (intro w' hSw; go_simp; first | done | with_reducible rfl)
      simp only [Act.put, List.setIfInBounds_toArray, List.set_cons_zero, List.set_cons_succ]
      refine wpAnyH_take (i := 2) (v := ?vv53) (by simp only [List.getElem?_toArray, List.getElem?_cons_zero, List.getElem?_cons_succ]; rfl) (by kernel_rfl) (by kernel_rfl) (by kernel_rfl) (fun _ _ _ h => h) (Or.inl ⟨by rfl, ?yy53⟩) (by assumption) ?rr53
      case yy53 => (intro w' hSw; go_simp; first | done | with_reducible rfl)
      simp only [Act.put, List.setIfInBounds_toArray, List.set_cons_zero, List.set_cons_succ]
      refine wpAnyH_take (i := 3) (v := ?vv54) (by simp only [List.getElem?_toArray, List.getElem?_cons_zero, List.getElem?_cons_succ]; rfl) (by kernel_rfl) (by kernel_rfl) (by kernel_rfl) (fun _ _ _ h => h) (Or.inl ⟨by rfl, ?yy54⟩) (by assumption) ?rr54
      case yy54 => (intro w' hSw; go_simp; first | done | with_reducible rfl)
      simp only [Act.put, List.setIfInBounds_toArray, List.set_cons_zero, List.set_cons_succ]
      refine wpAnyH_take (i := 6) (v := ?vv55) (by simp only [List.getElem?_toArray, List.getElem?_cons_zero, List.getElem?_cons_succ]; rfl) (by kernel_rfl) (by kernel_rfl) (by kernel_rfl) (fun _ _ _ h => h) (Or.inl ⟨by rfl, ?yy55⟩) (by assumption) ?rr55
      case yy55 => (intro w' hSw; go_simp; first | done | with_reducible rfl)
      simp only [Act.put, List.setIfInBounds_toArray, List.set_cons_zero, List.set_cons_succ]
      refine wpAnyH_take (i := 7) (v := ?vv56) (by simp only [List.getElem?_toArray, List.getElem?_cons_zero, List.getElem?_cons_succ]; rfl) (by kernel_rfl) (by kernel_rfl) (by kernel_rfl) (fun _ _ _ h => h) (Or.inl ⟨by rfl, ?yy56⟩) (by assumption) ?rr56
      case yy56 => (intro w' hSw; have tb := text_of (c := cb) (Rb.out.below hSw) Mb.out; go_simp; first | done | with_reducible rfl)
      simp only [Act.put, List.setIfInBounds_toArray, List.set_cons_zero, List.set_cons_succ]
      refine wpAnyH_ready (rs := [4]) (by kernel_rfl) (by simp) ?_
      refine AllReadyH.cons (by simp only [List.getElem?_toArray, List.getElem?_cons_zero, List.getElem?_cons_succ]; rfl) (fun K hK => ?_) AllReadyH.nil
      go_simp
      go_at_call 16
      (with_reducible refine (put14 (posC xb : Int) Ay ky ny (listC xb) _ Ry.out My.out y9).mono ?_)
      rintro e w6 ⟨Aq, kq, nq, rfl, h1, h2, hb, h4, h5, h6⟩
      rw [Z4.out] at h1 h2
      have Mq := Lib.hid h1; have Rq := Lib.hid h2
      clear h1 h2 h4 h5 h6
      have hb0 := hb
      go_wp2_with fail
      refine hK.out _ _ hb0 (fun hHeld => ?_)
      clear hK K hHeld
      refine wpAnyH_more (S' := fun w' => Below w6.heap.size w6 w') (fun _ h => chain hb0 h) _ _ _ _ ?_
      clear hb0
      have hHeld : Below w6.heap.size w6 w6 := Below.refl _ _
      try simp only [Act.put, List.setIfInBounds_toArray, List.set_cons_zero, List.set_cons_succ]
      have B6 := Lib.hid (chain B5.out hb)
      replace Rl := Lib.hid (Rl.out.below hb)
      replace Rb := Lib.hid (Rb.out.below hb)
      replace Ry := Lib.hid (Ry.out.below hb)
      clear hb B5
      refine wpAnyH_take (i := 5) (v := ?vv57) (by simp only [List.getElem?_toArray, List.getElem?_cons_zero, List.getElem?_cons_succ]; rfl) (by kernel_rfl) (by kernel_rfl) (by kernel_rfl) (fun _ _ _ h => h) (Or.inl ⟨by rfl, ?yy57⟩) (by assumption) ?rr57
      case yy57 => (intro w' hSw; have tb := text_of (c := cb) (Rb.out.below hSw) Mb.out; have tq := text_of (c := kq) (Rq.out.below hSw) Mq.out; go_simp; first | done | with_reducible rfl)
      simp only [Act.put, List.setIfInBounds_toArray, List.set_cons_zero, List.set_cons_succ]
      refine wpAnyH_take (i := 8) (v := ?vv58) (by simp only [List.getElem?_toArray, List.getElem?_cons_zero, List.getElem?_cons_succ]; rfl) (by kernel_rfl) (by kernel_rfl) (by kernel_rfl) (fun _ _ _ h => h) (Or.inl ⟨by rfl, ?yy58⟩) (by assumption) ?rr58
      case yy58 => (intro w' hSw; go_simp; first | done | with_reducible rfl)
      simp only [Act.put, List.setIfInBounds_toArray, List.set_cons_zero, List.set_cons_succ]
      refine wpAnyH_take (i := 9) (v := ?vv59) (by simp only [List.getElem?_toArray, List.getElem?_cons_zero, List.getElem?_cons_succ]; rfl) (by kernel_rfl) (by kernel_rfl) (by kernel_rfl) (fun _ _ _ h => h) (Or.inl ⟨by rfl, ?yy59⟩) (by assumption) ?rr59
      case yy59 => (intro w' hSw; go_simp; first | done | with_reducible rfl)
      simp only [Act.put, List.setIfInBounds_toArray, List.set_cons_zero, List.set_cons_succ]
      refine wpAnyH_take (i := 10) (v := ?vv60) (by simp only [List.getElem?_toArray, List.getElem?_cons_zero, List.getElem?_cons_succ]; rfl) (by kernel_rfl) (by kernel_rfl) (by kernel_rfl) (fun _ _ _ h => h) (Or.inl ⟨by rfl, ?yy60⟩) (by assumption) ?rr60
      case yy60 => (intro w' hSw; go_simp; first | done | with_reducible rfl)
      simp only [Act.put, List.setIfInBounds_toArray, List.set_cons_zero, List.set_cons_succ]
      refine wpAnyH_done (by kernel_rfl) ?_ _
      refine NoPanic.normal ?_
      clear hHeld
      have tb := text_of (c := cb) Rb.out Mb.out
      have tq := text_of (c := kq) Rq.out Mq.out
      go_wp2_with fail
      go_ret
      exact ⟨rfl, B6.out⟩
  have e1 : decide (a ≤ 65535) = true := decide_eq_true (by omega)
  by_cases c2 : nl < 1
  · skip
    have e2 : decide (1 ≤ (nl : Int)) = false := decide_eq_false (by omega)
    have okp : okPut a nl = false := ok_put_no (by omega)
    clear c0 c1 c2
    have PN := Lib.hid (put_no (a := a) (l := xl) (by rw [← Ml.out]; exact okp))
    clear okp
    go_enter Try.func4, Try.ntmps4
    go_wp2_with fail
    refine (head14_any _).mono ?_
    rintro e w1 ⟨rfl, hb⟩
    have B1 := Lib.hid hb
    replace Rl := Lib.hid (Rl.out.below hb)
    replace Rb := Lib.hid (Rb.out.below hb)
    clear hb
    go_wp2_with fail
    refine (put14 (a) Al cl nl (xl) _ Rl.out Ml.out (by omega)).mono ?_
    rintro e w2 ⟨Ap, kp, np, rfl, h1, h2, hb, h4, h5, h6⟩
    rw [PN.out] at h1 h2
    have Mp := Lib.hid h1; have Rp := Lib.hid h2; have Kp := Lib.hid h4
    clear h1 h2 h4 h5 h6
    have B2 := Lib.hid (chain B1.out hb)
    replace Rl := Lib.hid (Rl.out.below hb)
    replace Rb := Lib.hid (Rb.out.below hb)
    clear hb B1
    obtain rfl : np = 0 := Mp.out
    go_wp2_with fail
    refine (get14 Ap kp 0 [] _ Rp.out rfl (by decide)).mono ?_
    rintro e w3 ⟨Ax, kx, nx, rfl, h1, h2, hb, h4, h5⟩
    obtain ⟨z1, z2⟩ := get_no get_nil
    rw [z2] at h1 h2
    rw [z1, get_nil]
    clear z1 z2
    have Mx := Lib.hid h1; have Rx := Lib.hid h2; have Kx := Lib.hid h4
    clear h1 h2 h4 h5
    have B3 := Lib.hid (chain B2.out hb)
    replace Rl := Lib.hid (Rl.out.below hb)
    replace Rb := Lib.hid (Rb.out.below hb)
    replace Rp := Lib.hid (Rp.out.below hb)
    clear hb B2
    obtain rfl : nx = 0 := Mx.out
    clear Rp
    clear Rx
    have tb := text_of (c := cb) Rb.out Mb.out
    rcases okb : okGet xb with _ | _
    · skip
      have Z := get_no okb
      have Z1 := Lib.hid Z.1; have Z2 := Lib.hid Z.2; have Z3 := Lib.hid okb
      clear Z okb
      go_wp2_with fail
      refine (get14 Ab cb nb (xb) _ Rb.out Mb.out (by omega)).mono ?_
      rintro e w4 ⟨Ay, ky, ny, rfl, h1, h2, hb, h4, h5⟩
      rw [Z2.out] at h1 h2
      rw [Z1.out, Z3.out]
      have My := Lib.hid h1; have Ry := Lib.hid h2; have Ky := Lib.hid h4
      clear h1 h2 h4 h5
      have B4 := Lib.hid (chain B3.out hb)
      replace Rl := Lib.hid (Rl.out.below hb)
      replace Rb := Lib.hid (Rb.out.below hb)
      clear tb
      clear hb B3
      have tb := text_of (c := cb) Rb.out Mb.out
      obtain rfl : ny = 0 := My.out
      go_wp2_with fail
      go_ret
      exact ⟨rfl, B4.out⟩
    · skip
      have Z := get_yes okb
      obtain ⟨z1, z2⟩ := put_get okb
      have Z1 := Lib.hid Z.1; have Z2 := Lib.hid Z.2; have Z3 := Lib.hid okb; have Z4 := Lib.hid z2
      have LM : Hid ((listC xb).length ≤ 6) := by have := getl_max xb; rw [Z2.out] at this; exact this
      clear Z okb z1 z2
      go_wp2_with fail
      refine (get14 Ab cb nb (xb) _ Rb.out Mb.out (by omega)).mono ?_
      rintro e w4 ⟨Ay, ky, ny, rfl, h1, h2, hb, h4, h5⟩
      rw [Z2.out] at h1 h2
      rw [Z1.out, Z3.out]
      have My := Lib.hid h1; have Ry := Lib.hid h2; have Ky := Lib.hid h4
      clear h1 h2 h4 h5
      have B4 := Lib.hid (chain B3.out hb)
      replace Rl := Lib.hid (Rl.out.below hb)
      replace Rb := Lib.hid (Rb.out.below hb)
      clear tb
      clear hb B3
      have tb := text_of (c := cb) Rb.out Mb.out
      have q1 : ((tx xb).toList == (tx xb).toList) = true := by simp
      have y9 : ny ≤ 1000000 := by rw [My.out]; exact Nat.le_trans LM.out (by decide)
      go_wp2_with fail
      refine wp_region_noPanic ?_
      refine wp_region_held_drew (S := fun w' => Below w4.drew.heap.size w4.drew w') (by kernel_rfl) (Below.refl _ _) (fun hHeld => ?_)
      have hb := below_drew w4
      generalize w4.drew = w5 at hb hHeld ⊢
      have B5 := Lib.hid (chain B4.out hb)
      replace Rl := Lib.hid (Rl.out.below hb)
      replace Rb := Lib.hid (Rb.out.below hb)
      replace Ry := Lib.hid (Ry.out.below hb)
      clear tb
      clear hb B4
      clear hHeld
      have hHeld : Below w5.heap.size w5 w5 := Below.refl _ _
      refine wpAnyH_take (i := 0) (v := ?vv61) (by simp only [List.getElem?_toArray, List.getElem?_cons_zero]; rfl) (by kernel_rfl) (by kernel_rfl) (by kernel_rfl) (fun _ _ _ h => h) (Or.inl ⟨by rfl, ?yy61⟩) (by assumption) ?rr61
      case yy61 => (intro w' hSw; go_simp; first | done | with_reducible rfl)
      simp only [Act.put, List.setIfInBounds_toArray, List.set_cons_zero, List.set_cons_succ]
      refine wpAnyH_take (i := 1) (v := ?vv62) (by simp only [List.getElem?_toArray, List.getElem?_cons_zero, List.getElem?_cons_succ]; rfl) (by kernel_rfl) (by kernel_rfl) (by kernel_rfl) (fun _ _ _ h => h) (Or.inl ⟨by rfl, ?yy62⟩) (by assumption) ?rr62
      case yy62 => (intro w' hSw; go_simp; first | done | with_reducible rfl)
      simp only [Act.put, List.setIfInBounds_toArray, List.set_cons_zero, List.set_cons_succ]
      refine wpAnyH_take (i := 2) (v := ?vv63) (by simp only [List.getElem?_toArray, List.getElem?_cons_zero, List.getElem?_cons_succ]; rfl) (by kernel_rfl) (by kernel_rfl) (by kernel_rfl) (fun _ _ _ h => h) (Or.inl ⟨by rfl, ?yy63⟩) (by assumption) ?rr63
      case yy63 => (intro w' hSw; go_simp; first | done | with_reducible rfl)
      simp only [Act.put, List.setIfInBounds_toArray, List.set_cons_zero, List.set_cons_succ]
      refine wpAnyH_take (i := 3) (v := ?vv64) (by simp only [List.getElem?_toArray, List.getElem?_cons_zero, List.getElem?_cons_succ]; rfl) (by kernel_rfl) (by kernel_rfl) (by kernel_rfl) (fun _ _ _ h => h) (Or.inl ⟨by rfl, ?yy64⟩) (by assumption) ?rr64
      case yy64 => (intro w' hSw; go_simp; first | done | with_reducible rfl)
      simp only [Act.put, List.setIfInBounds_toArray, List.set_cons_zero, List.set_cons_succ]
      refine wpAnyH_take (i := 6) (v := ?vv65) (by simp only [List.getElem?_toArray, List.getElem?_cons_zero, List.getElem?_cons_succ]; rfl) (by kernel_rfl) (by kernel_rfl) (by kernel_rfl) (fun _ _ _ h => h) (Or.inl ⟨by rfl, ?yy65⟩) (by assumption) ?rr65
      case yy65 => (intro w' hSw; go_simp; first | done | with_reducible rfl)
      simp only [Act.put, List.setIfInBounds_toArray, List.set_cons_zero, List.set_cons_succ]
      refine wpAnyH_take (i := 7) (v := ?vv66) (by simp only [List.getElem?_toArray, List.getElem?_cons_zero, List.getElem?_cons_succ]; rfl) (by kernel_rfl) (by kernel_rfl) (by kernel_rfl) (fun _ _ _ h => h) (Or.inl ⟨by rfl, ?yy66⟩) (by assumption) ?rr66
      case yy66 => (intro w' hSw; have tb := text_of (c := cb) (Rb.out.below hSw) Mb.out; go_simp; first | done | with_reducible rfl)
      simp only [Act.put, List.setIfInBounds_toArray, List.set_cons_zero, List.set_cons_succ]
      refine wpAnyH_ready (rs := [4]) (by kernel_rfl) (by simp) ?_
      refine AllReadyH.cons (by simp only [List.getElem?_toArray, List.getElem?_cons_zero, List.getElem?_cons_succ]; rfl) (fun K hK => ?_) AllReadyH.nil
      go_simp
      go_at_call 16
      (with_reducible refine (put14 (posC xb : Int) Ay ky ny (listC xb) _ Ry.out My.out y9).mono ?_)
      rintro e w6 ⟨Aq, kq, nq, rfl, h1, h2, hb, h4, h5, h6⟩
      rw [Z4.out] at h1 h2
      have Mq := Lib.hid h1; have Rq := Lib.hid h2
      clear h1 h2 h4 h5 h6
      have hb0 := hb
      go_wp2_with fail
      refine hK.out _ _ hb0 (fun hHeld => ?_)
      clear hK K hHeld
      refine wpAnyH_more (S' := fun w' => Below w6.heap.size w6 w') (fun _ h => chain hb0 h) _ _ _ _ ?_
      clear hb0
      have hHeld : Below w6.heap.size w6 w6 := Below.refl _ _
      try simp only [Act.put, List.setIfInBounds_toArray, List.set_cons_zero, List.set_cons_succ]
      have B6 := Lib.hid (chain B5.out hb)
      replace Rl := Lib.hid (Rl.out.below hb)
      replace Rb := Lib.hid (Rb.out.below hb)
      replace Ry := Lib.hid (Ry.out.below hb)
      clear hb B5
      refine wpAnyH_take (i := 5) (v := ?vv67) (by simp only [List.getElem?_toArray, List.getElem?_cons_zero, List.getElem?_cons_succ]; rfl) (by kernel_rfl) (by kernel_rfl) (by kernel_rfl) (fun _ _ _ h => h) (Or.inl ⟨by rfl, ?yy67⟩) (by assumption) ?rr67
      case yy67 => (intro w' hSw; have tb := text_of (c := cb) (Rb.out.below hSw) Mb.out; have tq := text_of (c := kq) (Rq.out.below hSw) Mq.out; go_simp; first | done | with_reducible rfl)
      simp only [Act.put, List.setIfInBounds_toArray, List.set_cons_zero, List.set_cons_succ]
      refine wpAnyH_take (i := 8) (v := ?vv68) (by simp only [List.getElem?_toArray, List.getElem?_cons_zero, List.getElem?_cons_succ]; rfl) (by kernel_rfl) (by kernel_rfl) (by kernel_rfl) (fun _ _ _ h => h) (Or.inl ⟨by rfl, ?yy68⟩) (by assumption) ?rr68
      case yy68 => (intro w' hSw; go_simp; first | done | with_reducible rfl)
      simp only [Act.put, List.setIfInBounds_toArray, List.set_cons_zero, List.set_cons_succ]
      refine wpAnyH_take (i := 9) (v := ?vv69) (by simp only [List.getElem?_toArray, List.getElem?_cons_zero, List.getElem?_cons_succ]; rfl) (by kernel_rfl) (by kernel_rfl) (by kernel_rfl) (fun _ _ _ h => h) (Or.inl ⟨by rfl, ?yy69⟩) (by assumption) ?rr69
      case yy69 => (intro w' hSw; go_simp; first | done | with_reducible rfl)
      simp only [Act.put, List.setIfInBounds_toArray, List.set_cons_zero, List.set_cons_succ]
      refine wpAnyH_take (i := 10) (v := ?vv70) (by simp only [List.getElem?_toArray, List.getElem?_cons_zero, List.getElem?_cons_succ]; rfl) (by kernel_rfl) (by kernel_rfl) (by kernel_rfl) (fun _ _ _ h => h) (Or.inl ⟨by rfl, ?yy70⟩) (by assumption) ?rr70
      case yy70 => (intro w' hSw; go_simp; first | done | with_reducible rfl)
      simp only [Act.put, List.setIfInBounds_toArray, List.set_cons_zero, List.set_cons_succ]
      refine wpAnyH_done (by kernel_rfl) ?_ _
      refine NoPanic.normal ?_
      clear hHeld
      have tb := text_of (c := cb) Rb.out Mb.out
      have tq := text_of (c := kq) Rq.out Mq.out
      go_wp2_with fail
      go_ret
      exact ⟨rfl, B6.out⟩
  have e2 : decide (1 ≤ (nl : Int)) = true := decide_eq_true (by omega)
  by_cases c3 : 6 < nl
  · skip
    have e3 : decide ((nl : Int) ≤ 6) = false := decide_eq_false (by omega)
    have okp : okPut a nl = false := ok_put_no (by omega)
    clear c0 c1 c2 c3
    have PN := Lib.hid (put_no (a := a) (l := xl) (by rw [← Ml.out]; exact okp))
    clear okp
    go_enter Try.func4, Try.ntmps4
    go_wp2_with fail
    refine (head14_any _).mono ?_
    rintro e w1 ⟨rfl, hb⟩
    have B1 := Lib.hid hb
    replace Rl := Lib.hid (Rl.out.below hb)
    replace Rb := Lib.hid (Rb.out.below hb)
    clear hb
    go_wp2_with fail
    refine (put14 (a) Al cl nl (xl) _ Rl.out Ml.out (by omega)).mono ?_
    rintro e w2 ⟨Ap, kp, np, rfl, h1, h2, hb, h4, h5, h6⟩
    rw [PN.out] at h1 h2
    have Mp := Lib.hid h1; have Rp := Lib.hid h2; have Kp := Lib.hid h4
    clear h1 h2 h4 h5 h6
    have B2 := Lib.hid (chain B1.out hb)
    replace Rl := Lib.hid (Rl.out.below hb)
    replace Rb := Lib.hid (Rb.out.below hb)
    clear hb B1
    obtain rfl : np = 0 := Mp.out
    go_wp2_with fail
    refine (get14 Ap kp 0 [] _ Rp.out rfl (by decide)).mono ?_
    rintro e w3 ⟨Ax, kx, nx, rfl, h1, h2, hb, h4, h5⟩
    obtain ⟨z1, z2⟩ := get_no get_nil
    rw [z2] at h1 h2
    rw [z1, get_nil]
    clear z1 z2
    have Mx := Lib.hid h1; have Rx := Lib.hid h2; have Kx := Lib.hid h4
    clear h1 h2 h4 h5
    have B3 := Lib.hid (chain B2.out hb)
    replace Rl := Lib.hid (Rl.out.below hb)
    replace Rb := Lib.hid (Rb.out.below hb)
    replace Rp := Lib.hid (Rp.out.below hb)
    clear hb B2
    obtain rfl : nx = 0 := Mx.out
    clear Rp
    clear Rx
    have tb := text_of (c := cb) Rb.out Mb.out
    rcases okb : okGet xb with _ | _
    · skip
      have Z := get_no okb
      have Z1 := Lib.hid Z.1; have Z2 := Lib.hid Z.2; have Z3 := Lib.hid okb
      clear Z okb
      go_wp2_with fail
      refine (get14 Ab cb nb (xb) _ Rb.out Mb.out (by omega)).mono ?_
      rintro e w4 ⟨Ay, ky, ny, rfl, h1, h2, hb, h4, h5⟩
      rw [Z2.out] at h1 h2
      rw [Z1.out, Z3.out]
      have My := Lib.hid h1; have Ry := Lib.hid h2; have Ky := Lib.hid h4
      clear h1 h2 h4 h5
      have B4 := Lib.hid (chain B3.out hb)
      replace Rl := Lib.hid (Rl.out.below hb)
      replace Rb := Lib.hid (Rb.out.below hb)
      clear tb
      clear hb B3
      have tb := text_of (c := cb) Rb.out Mb.out
      obtain rfl : ny = 0 := My.out
      go_wp2_with fail
      go_ret
      exact ⟨rfl, B4.out⟩
    · skip
      have Z := get_yes okb
      obtain ⟨z1, z2⟩ := put_get okb
      have Z1 := Lib.hid Z.1; have Z2 := Lib.hid Z.2; have Z3 := Lib.hid okb; have Z4 := Lib.hid z2
      have LM : Hid ((listC xb).length ≤ 6) := by have := getl_max xb; rw [Z2.out] at this; exact this
      clear Z okb z1 z2
      go_wp2_with fail
      refine (get14 Ab cb nb (xb) _ Rb.out Mb.out (by omega)).mono ?_
      rintro e w4 ⟨Ay, ky, ny, rfl, h1, h2, hb, h4, h5⟩
      rw [Z2.out] at h1 h2
      rw [Z1.out, Z3.out]
      have My := Lib.hid h1; have Ry := Lib.hid h2; have Ky := Lib.hid h4
      clear h1 h2 h4 h5
      have B4 := Lib.hid (chain B3.out hb)
      replace Rl := Lib.hid (Rl.out.below hb)
      replace Rb := Lib.hid (Rb.out.below hb)
      clear tb
      clear hb B3
      have tb := text_of (c := cb) Rb.out Mb.out
      have q1 : ((tx xb).toList == (tx xb).toList) = true := by simp
      have y9 : ny ≤ 1000000 := by rw [My.out]; exact Nat.le_trans LM.out (by decide)
      go_wp2_with fail
      refine wp_region_noPanic ?_
      refine wp_region_held_drew (S := fun w' => Below w4.drew.heap.size w4.drew w') (by kernel_rfl) (Below.refl _ _) (fun hHeld => ?_)
      have hb := below_drew w4
      generalize w4.drew = w5 at hb hHeld ⊢
      have B5 := Lib.hid (chain B4.out hb)
      replace Rl := Lib.hid (Rl.out.below hb)
      replace Rb := Lib.hid (Rb.out.below hb)
      replace Ry := Lib.hid (Ry.out.below hb)
      clear tb
      clear hb B4
      clear hHeld
      have hHeld : Below w5.heap.size w5 w5 := Below.refl _ _
      refine wpAnyH_take (i := 0) (v := ?vv71) (by simp only [List.getElem?_toArray, List.getElem?_cons_zero]; rfl) (by kernel_rfl) (by kernel_rfl) (by kernel_rfl) (fun _ _ _ h => h) (Or.inl ⟨by rfl, ?yy71⟩) (by assumption) ?rr71
      case yy71 => (intro w' hSw; go_simp; first | done | with_reducible rfl)
      simp only [Act.put, List.setIfInBounds_toArray, List.set_cons_zero, List.set_cons_succ]
      refine wpAnyH_take (i := 1) (v := ?vv72) (by simp only [List.getElem?_toArray, List.getElem?_cons_zero, List.getElem?_cons_succ]; rfl) (by kernel_rfl) (by kernel_rfl) (by kernel_rfl) (fun _ _ _ h => h) (Or.inl ⟨by rfl, ?yy72⟩) (by assumption) ?rr72
      case yy72 => (intro w' hSw; go_simp; first | done | with_reducible rfl)
      simp only [Act.put, List.setIfInBounds_toArray, List.set_cons_zero, List.set_cons_succ]
      refine wpAnyH_take (i := 2) (v := ?vv73) (by simp only [List.getElem?_toArray, List.getElem?_cons_zero, List.getElem?_cons_succ]; rfl) (by kernel_rfl) (by kernel_rfl) (by kernel_rfl) (fun _ _ _ h => h) (Or.inl ⟨by rfl, ?yy73⟩) (by assumption) ?rr73
      case yy73 => (intro w' hSw; go_simp; first | done | with_reducible rfl)
      simp only [Act.put, List.setIfInBounds_toArray, List.set_cons_zero, List.set_cons_succ]
      refine wpAnyH_take (i := 3) (v := ?vv74) (by simp only [List.getElem?_toArray, List.getElem?_cons_zero, List.getElem?_cons_succ]; rfl) (by kernel_rfl) (by kernel_rfl) (by kernel_rfl) (fun _ _ _ h => h) (Or.inl ⟨by rfl, ?yy74⟩) (by assumption) ?rr74
      case yy74 => (intro w' hSw; go_simp; first | done | with_reducible rfl)
      simp only [Act.put, List.setIfInBounds_toArray, List.set_cons_zero, List.set_cons_succ]
      refine wpAnyH_take (i := 6) (v := ?vv75) (by simp only [List.getElem?_toArray, List.getElem?_cons_zero, List.getElem?_cons_succ]; rfl) (by kernel_rfl) (by kernel_rfl) (by kernel_rfl) (fun _ _ _ h => h) (Or.inl ⟨by rfl, ?yy75⟩) (by assumption) ?rr75
      case yy75 => (intro w' hSw; go_simp; first | done | with_reducible rfl)
      simp only [Act.put, List.setIfInBounds_toArray, List.set_cons_zero, List.set_cons_succ]
      refine wpAnyH_take (i := 7) (v := ?vv76) (by simp only [List.getElem?_toArray, List.getElem?_cons_zero, List.getElem?_cons_succ]; rfl) (by kernel_rfl) (by kernel_rfl) (by kernel_rfl) (fun _ _ _ h => h) (Or.inl ⟨by rfl, ?yy76⟩) (by assumption) ?rr76
      case yy76 => (intro w' hSw; have tb := text_of (c := cb) (Rb.out.below hSw) Mb.out; go_simp; first | done | with_reducible rfl)
      simp only [Act.put, List.setIfInBounds_toArray, List.set_cons_zero, List.set_cons_succ]
      refine wpAnyH_ready (rs := [4]) (by kernel_rfl) (by simp) ?_
      refine AllReadyH.cons (by simp only [List.getElem?_toArray, List.getElem?_cons_zero, List.getElem?_cons_succ]; rfl) (fun K hK => ?_) AllReadyH.nil
      go_simp
      go_at_call 16
      (with_reducible refine (put14 (posC xb : Int) Ay ky ny (listC xb) _ Ry.out My.out y9).mono ?_)
      rintro e w6 ⟨Aq, kq, nq, rfl, h1, h2, hb, h4, h5, h6⟩
      rw [Z4.out] at h1 h2
      have Mq := Lib.hid h1; have Rq := Lib.hid h2
      clear h1 h2 h4 h5 h6
      have hb0 := hb
      go_wp2_with fail
      refine hK.out _ _ hb0 (fun hHeld => ?_)
      clear hK K hHeld
      refine wpAnyH_more (S' := fun w' => Below w6.heap.size w6 w') (fun _ h => chain hb0 h) _ _ _ _ ?_
      clear hb0
      have hHeld : Below w6.heap.size w6 w6 := Below.refl _ _
      try simp only [Act.put, List.setIfInBounds_toArray, List.set_cons_zero, List.set_cons_succ]
      have B6 := Lib.hid (chain B5.out hb)
      replace Rl := Lib.hid (Rl.out.below hb)
      replace Rb := Lib.hid (Rb.out.below hb)
      replace Ry := Lib.hid (Ry.out.below hb)
      clear hb B5
      refine wpAnyH_take (i := 5) (v := ?vv77) (by simp only [List.getElem?_toArray, List.getElem?_cons_zero, List.getElem?_cons_succ]; rfl) (by kernel_rfl) (by kernel_rfl) (by kernel_rfl) (fun _ _ _ h => h) (Or.inl ⟨by rfl, ?yy77⟩) (by assumption) ?rr77
      case yy77 => (intro w' hSw; have tb := text_of (c := cb) (Rb.out.below hSw) Mb.out; have tq := text_of (c := kq) (Rq.out.below hSw) Mq.out; go_simp; first | done | with_reducible rfl)
      simp only [Act.put, List.setIfInBounds_toArray, List.set_cons_zero, List.set_cons_succ]
      refine wpAnyH_take (i := 8) (v := ?vv78) (by simp only [List.getElem?_toArray, List.getElem?_cons_zero, List.getElem?_cons_succ]; rfl) (by kernel_rfl) (by kernel_rfl) (by kernel_rfl) (fun _ _ _ h => h) (Or.inl ⟨by rfl, ?yy78⟩) (by assumption) ?rr78
      case yy78 => (intro w' hSw; go_simp; first | done | with_reducible rfl)
      simp only [Act.put, List.setIfInBounds_toArray, List.set_cons_zero, List.set_cons_succ]
      refine wpAnyH_take (i := 9) (v := ?vv79) (by simp only [List.getElem?_toArray, List.getElem?_cons_zero, List.getElem?_cons_succ]; rfl) (by kernel_rfl) (by kernel_rfl) (by kernel_rfl) (fun _ _ _ h => h) (Or.inl ⟨by rfl, ?yy79⟩) (by assumption) ?rr79
      case yy79 => (intro w' hSw; go_simp; first | done | with_reducible rfl)
      simp only [Act.put, List.setIfInBounds_toArray, List.set_cons_zero, List.set_cons_succ]
      refine wpAnyH_take (i := 10) (v := ?vv80) (by simp only [List.getElem?_toArray, List.getElem?_cons_zero, List.getElem?_cons_succ]; rfl) (by kernel_rfl) (by kernel_rfl) (by kernel_rfl) (fun _ _ _ h => h) (Or.inl ⟨by rfl, ?yy80⟩) (by assumption) ?rr80
      case yy80 => (intro w' hSw; go_simp; first | done | with_reducible rfl)
      simp only [Act.put, List.setIfInBounds_toArray, List.set_cons_zero, List.set_cons_succ]
      refine wpAnyH_done (by kernel_rfl) ?_ _
      refine NoPanic.normal ?_
      clear hHeld
      have tb := text_of (c := cb) Rb.out Mb.out
      have tq := text_of (c := kq) Rq.out Mq.out
      go_wp2_with fail
      go_ret
      exact ⟨rfl, B6.out⟩
  have e3 : decide ((nl : Int) ≤ 6) = true := decide_eq_true (by omega)
  by_cases c4 : 65536 - a < nl
  · skip
    have e4 : decide ((nl : Int) ≤ 65536 - a) = false := decide_eq_false (by omega)
    have okp : okPut a nl = false := ok_put_no (by omega)

    have PN := Lib.hid (put_no (a := a) (l := xl) (by rw [← Ml.out]; exact okp))
    clear okp
    go_enter Try.func4, Try.ntmps4
    go_wp2_with fail
    refine (head14_any _).mono ?_
    rintro e w1 ⟨rfl, hb⟩
    have B1 := Lib.hid hb
    replace Rl := Lib.hid (Rl.out.below hb)
    replace Rb := Lib.hid (Rb.out.below hb)
    clear hb
    go_wp2_with fail
    refine (put14 (a) Al cl nl (xl) _ Rl.out Ml.out (by omega)).mono ?_
    rintro e w2 ⟨Ap, kp, np, rfl, h1, h2, hb, h4, h5, h6⟩
    rw [PN.out] at h1 h2
    have Mp := Lib.hid h1; have Rp := Lib.hid h2; have Kp := Lib.hid h4
    clear h1 h2 h4 h5 h6
    have B2 := Lib.hid (chain B1.out hb)
    replace Rl := Lib.hid (Rl.out.below hb)
    replace Rb := Lib.hid (Rb.out.below hb)
    clear hb B1
    obtain rfl : np = 0 := Mp.out
    go_wp2_with fail
    refine (get14 Ap kp 0 [] _ Rp.out rfl (by decide)).mono ?_
    rintro e w3 ⟨Ax, kx, nx, rfl, h1, h2, hb, h4, h5⟩
    obtain ⟨z1, z2⟩ := get_no get_nil
    rw [z2] at h1 h2
    rw [z1, get_nil]
    clear z1 z2
    have Mx := Lib.hid h1; have Rx := Lib.hid h2; have Kx := Lib.hid h4
    clear h1 h2 h4 h5
    have B3 := Lib.hid (chain B2.out hb)
    replace Rl := Lib.hid (Rl.out.below hb)
    replace Rb := Lib.hid (Rb.out.below hb)
    replace Rp := Lib.hid (Rp.out.below hb)
    clear hb B2
    obtain rfl : nx = 0 := Mx.out
    clear Rp
    clear Rx
    have tb := text_of (c := cb) Rb.out Mb.out
    rcases okb : okGet xb with _ | _
    · skip
      have Z := get_no okb
      have Z1 := Lib.hid Z.1; have Z2 := Lib.hid Z.2; have Z3 := Lib.hid okb
      clear Z okb
      go_wp2_with fail
      refine (get14 Ab cb nb (xb) _ Rb.out Mb.out (by omega)).mono ?_
      rintro e w4 ⟨Ay, ky, ny, rfl, h1, h2, hb, h4, h5⟩
      rw [Z2.out] at h1 h2
      rw [Z1.out, Z3.out]
      have My := Lib.hid h1; have Ry := Lib.hid h2; have Ky := Lib.hid h4
      clear h1 h2 h4 h5
      have B4 := Lib.hid (chain B3.out hb)
      replace Rl := Lib.hid (Rl.out.below hb)
      replace Rb := Lib.hid (Rb.out.below hb)
      clear tb
      clear hb B3
      have tb := text_of (c := cb) Rb.out Mb.out
      obtain rfl : ny = 0 := My.out
      go_wp2_with fail
      go_ret
      exact ⟨rfl, B4.out⟩
    · skip
      have Z := get_yes okb
      obtain ⟨z1, z2⟩ := put_get okb
      have Z1 := Lib.hid Z.1; have Z2 := Lib.hid Z.2; have Z3 := Lib.hid okb; have Z4 := Lib.hid z2
      have LM : Hid ((listC xb).length ≤ 6) := by have := getl_max xb; rw [Z2.out] at this; exact this
      clear Z okb z1 z2
      go_wp2_with fail
      refine (get14 Ab cb nb (xb) _ Rb.out Mb.out (by omega)).mono ?_
      rintro e w4 ⟨Ay, ky, ny, rfl, h1, h2, hb, h4, h5⟩
      rw [Z2.out] at h1 h2
      rw [Z1.out, Z3.out]
      have My := Lib.hid h1; have Ry := Lib.hid h2; have Ky := Lib.hid h4
      clear h1 h2 h4 h5
      have B4 := Lib.hid (chain B3.out hb)
      replace Rl := Lib.hid (Rl.out.below hb)
      replace Rb := Lib.hid (Rb.out.below hb)
      clear tb
      clear hb B3
      have tb := text_of (c := cb) Rb.out Mb.out
      have q1 : ((tx xb).toList == (tx xb).toList) = true := by simp
      have y9 : ny ≤ 1000000 := by rw [My.out]; exact Nat.le_trans LM.out (by decide)
      go_wp2_with fail
      refine wp_region_noPanic ?_
      refine wp_region_held_drew (S := fun w' => Below w4.drew.heap.size w4.drew w') (by kernel_rfl) (Below.refl _ _) (fun hHeld => ?_)
      have hb := below_drew w4
      generalize w4.drew = w5 at hb hHeld ⊢
      have B5 := Lib.hid (chain B4.out hb)
      replace Rl := Lib.hid (Rl.out.below hb)
      replace Rb := Lib.hid (Rb.out.below hb)
      replace Ry := Lib.hid (Ry.out.below hb)
      clear tb
      clear hb B4
      clear hHeld
      have hHeld : Below w5.heap.size w5 w5 := Below.refl _ _
      refine wpAnyH_take (i := 0) (v := ?vv81) (by simp only [List.getElem?_toArray, List.getElem?_cons_zero]; rfl) (by kernel_rfl) (by kernel_rfl) (by kernel_rfl) (fun _ _ _ h => h) (Or.inl ⟨by rfl, ?yy81⟩) (by assumption) ?rr81
      case yy81 => (intro w' hSw; go_simp; first | done | with_reducible rfl)
      simp only [Act.put, List.setIfInBounds_toArray, List.set_cons_zero, List.set_cons_succ]
      refine wpAnyH_take (i := 1) (v := ?vv82) (by simp only [List.getElem?_toArray, List.getElem?_cons_zero, List.getElem?_cons_succ]; rfl) (by kernel_rfl) (by kernel_rfl) (by kernel_rfl) (fun _ _ _ h => h) (Or.inl ⟨by rfl, ?yy82⟩) (by assumption) ?rr82
      case yy82 => (intro w' hSw; go_simp; first | done | with_reducible rfl)
      simp only [Act.put, List.setIfInBounds_toArray, List.set_cons_zero, List.set_cons_succ]
      refine wpAnyH_take (i := 2) (v := ?vv83) (by simp only [List.getElem?_toArray, List.getElem?_cons_zero, List.getElem?_cons_succ]; rfl) (by kernel_rfl) (by kernel_rfl) (by kernel_rfl) (fun _ _ _ h => h) (Or.inl ⟨by rfl, ?yy83⟩) (by assumption) ?rr83
      case yy83 => (intro w' hSw; go_simp; first | done | with_reducible rfl)
      simp only [Act.put, List.setIfInBounds_toArray, List.set_cons_zero, List.set_cons_succ]
      refine wpAnyH_take (i := 3) (v := ?vv84) (by simp only [List.getElem?_toArray, List.getElem?_cons_zero, List.getElem?_cons_succ]; rfl) (by kernel_rfl) (by kernel_rfl) (by kernel_rfl) (fun _ _ _ h => h) (Or.inl ⟨by rfl, ?yy84⟩) (by assumption) ?rr84
      case yy84 => (intro w' hSw; go_simp; first | done | with_reducible rfl)
      simp only [Act.put, List.setIfInBounds_toArray, List.set_cons_zero, List.set_cons_succ]
      refine wpAnyH_take (i := 6) (v := ?vv85) (by simp only [List.getElem?_toArray, List.getElem?_cons_zero, List.getElem?_cons_succ]; rfl) (by kernel_rfl) (by kernel_rfl) (by kernel_rfl) (fun _ _ _ h => h) (Or.inl ⟨by rfl, ?yy85⟩) (by assumption) ?rr85
      case yy85 => (intro w' hSw; go_simp; first | done | with_reducible rfl)
      simp only [Act.put, List.setIfInBounds_toArray, List.set_cons_zero, List.set_cons_succ]
      refine wpAnyH_take (i := 7) (v := ?vv86) (by simp only [List.getElem?_toArray, List.getElem?_cons_zero, List.getElem?_cons_succ]; rfl) (by kernel_rfl) (by kernel_rfl) (by kernel_rfl) (fun _ _ _ h => h) (Or.inl ⟨by rfl, ?yy86⟩) (by assumption) ?rr86
      case yy86 => (intro w' hSw; have tb := text_of (c := cb) (Rb.out.below hSw) Mb.out; go_simp; first | done | with_reducible rfl)
      simp only [Act.put, List.setIfInBounds_toArray, List.set_cons_zero, List.set_cons_succ]
      refine wpAnyH_ready (rs := [4]) (by kernel_rfl) (by simp) ?_
      refine AllReadyH.cons (by simp only [List.getElem?_toArray, List.getElem?_cons_zero, List.getElem?_cons_succ]; rfl) (fun K hK => ?_) AllReadyH.nil
      go_simp
      go_at_call 16
      (with_reducible refine (put14 (posC xb : Int) Ay ky ny (listC xb) _ Ry.out My.out y9).mono ?_)
      rintro e w6 ⟨Aq, kq, nq, rfl, h1, h2, hb, h4, h5, h6⟩
      rw [Z4.out] at h1 h2
      have Mq := Lib.hid h1; have Rq := Lib.hid h2
      clear h1 h2 h4 h5 h6
      have hb0 := hb
      go_wp2_with fail
      refine hK.out _ _ hb0 (fun hHeld => ?_)
      clear hK K hHeld
      refine wpAnyH_more (S' := fun w' => Below w6.heap.size w6 w') (fun _ h => chain hb0 h) _ _ _ _ ?_
      clear hb0
      have hHeld : Below w6.heap.size w6 w6 := Below.refl _ _
      try simp only [Act.put, List.setIfInBounds_toArray, List.set_cons_zero, List.set_cons_succ]
      have B6 := Lib.hid (chain B5.out hb)
      replace Rl := Lib.hid (Rl.out.below hb)
      replace Rb := Lib.hid (Rb.out.below hb)
      replace Ry := Lib.hid (Ry.out.below hb)
      clear hb B5
      refine wpAnyH_take (i := 5) (v := ?vv87) (by simp only [List.getElem?_toArray, List.getElem?_cons_zero, List.getElem?_cons_succ]; rfl) (by kernel_rfl) (by kernel_rfl) (by kernel_rfl) (fun _ _ _ h => h) (Or.inl ⟨by rfl, ?yy87⟩) (by assumption) ?rr87
      case yy87 => (intro w' hSw; have tb := text_of (c := cb) (Rb.out.below hSw) Mb.out; have tq := text_of (c := kq) (Rq.out.below hSw) Mq.out; go_simp; first | done | with_reducible rfl)
      simp only [Act.put, List.setIfInBounds_toArray, List.set_cons_zero, List.set_cons_succ]
      refine wpAnyH_take (i := 8) (v := ?vv88) (by simp only [List.getElem?_toArray, List.getElem?_cons_zero, List.getElem?_cons_succ]; rfl) (by kernel_rfl) (by kernel_rfl) (by kernel_rfl) (fun _ _ _ h => h) (Or.inl ⟨by rfl, ?yy88⟩) (by assumption) ?rr88
      case yy88 => (intro w' hSw; go_simp; first | done | with_reducible rfl)
      simp only [Act.put, List.setIfInBounds_toArray, List.set_cons_zero, List.set_cons_succ]
      refine wpAnyH_take (i := 9) (v := ?vv89) (by simp only [List.getElem?_toArray, List.getElem?_cons_zero, List.getElem?_cons_succ]; rfl) (by kernel_rfl) (by kernel_rfl) (by kernel_rfl) (fun _ _ _ h => h) (Or.inl ⟨by rfl, ?yy89⟩) (by assumption) ?rr89
      case yy89 => (intro w' hSw; go_simp; first | done | with_reducible rfl)
      simp only [Act.put, List.setIfInBounds_toArray, List.set_cons_zero, List.set_cons_succ]
      refine wpAnyH_take (i := 10) (v := ?vv90) (by simp only [List.getElem?_toArray, List.getElem?_cons_zero, List.getElem?_cons_succ]; rfl) (by kernel_rfl) (by kernel_rfl) (by kernel_rfl) (fun _ _ _ h => h) (Or.inl ⟨by rfl, ?yy90⟩) (by assumption) ?rr90
      case yy90 => (intro w' hSw; go_simp; first | done | with_reducible rfl)
      simp only [Act.put, List.setIfInBounds_toArray, List.set_cons_zero, List.set_cons_succ]
      refine wpAnyH_done (by kernel_rfl) ?_ _
      refine NoPanic.normal ?_
      clear hHeld
      have tb := text_of (c := cb) Rb.out Mb.out
      have tq := text_of (c := kq) Rq.out Mq.out
      go_wp2_with fail
      go_ret
      exact ⟨rfl, B6.out⟩
  have e4 : decide ((nl : Int) ≤ 65536 - a) = true := decide_eq_true (by omega)
  have okp : okPut a nl = true := ok_put.2 (by omega)
  have okp2 : okPut a xl.length = true := by rw [← Ml.out]; exact okp
  obtain ⟨z1, z2, z3, z4⟩ := get_put okp2
  obtain ⟨y1, y2⟩ := get_yes z1
  have Z1 := Lib.hid z1
  have Z2 : Hid (getP (putC a xl) = a) := by show _ = _; rw [y1, z2]; omega
  have Z3 : Hid (getL (putC a xl) = xl) := by show _ = _; rw [y2, z3]
  have PL := Lib.hid (put_len okp2)
  clear okp okp2 z1 z2 z3 z4 y1 y2
  go_enter Try.func4, Try.ntmps4
  go_wp2_with fail
  refine (head14_any _).mono ?_
  rintro e w1 ⟨rfl, hb⟩
  have B1 := Lib.hid hb
  replace Rl := Lib.hid (Rl.out.below hb)
  replace Rb := Lib.hid (Rb.out.below hb)
  clear hb
  go_wp2_with fail
  refine (put14 (a) Al cl nl (xl) _ Rl.out Ml.out (by omega)).mono ?_
  rintro e w2 ⟨Ap, kp, np, rfl, h1, h2, hb, h4, h5, h6⟩
  have Mp := Lib.hid h1; have Rp := Lib.hid h2; have Kp := Lib.hid h4
  clear h1 h2 h4 h5 h6
  have B2 := Lib.hid (chain B1.out hb)
  replace Rl := Lib.hid (Rl.out.below hb)
  replace Rb := Lib.hid (Rb.out.below hb)
  clear hb B1
  have n1 : np = 2 + 8 * nl := by rw [Mp.out, PL.out, Ml.out]
  have p9 : np ≤ 1000000 := by omega
  have f1 : ((np : Int) != 2 + 8 * (nl : Int)) = false := by simp; omega
  have f2 : decide (0 < (np : Int)) = true := decide_eq_true (by omega)
  have f3 : decide (0 < np) = true := decide_eq_true (by omega)
  clear n1
  go_wp2_with fail
  refine (get14 Ap kp np (putC a xl) _ Rp.out Mp.out (p9)).mono ?_
  rintro e w3 ⟨Ax, kx, nx, rfl, h1, h2, hb, h4, h5⟩
  rw [Z3.out] at h1 h2
  rw [Z2.out, Z1.out]
  have Mx := Lib.hid h1; have Rx := Lib.hid h2; have Kx := Lib.hid h4
  clear h1 h2 h4 h5
  have B3 := Lib.hid (chain B2.out hb)
  replace Rl := Lib.hid (Rl.out.below hb)
  replace Rb := Lib.hid (Rb.out.below hb)
  replace Rp := Lib.hid (Rp.out.below hb)
  clear hb B2
  go_wp2_with fail
  refine (ssame Ax Al kx cl nx nl (xl) (xl) _ Rx.out Rl.out Mx.out Ml.out (by rw [Mx.out, ← Ml.out]; omega) (rfl)).mono ?_
  rintro e w4 ⟨rfl, hb⟩
  have B4 := Lib.hid (chain B3.out hb)
  replace Rl := Lib.hid (Rl.out.below hb)
  replace Rb := Lib.hid (Rb.out.below hb)
  replace Rp := Lib.hid (Rp.out.below hb)
  replace Rx := Lib.hid (Rx.out.below hb)
  clear hb B3
  have g0 : True := trivial
  clear Rp
  clear Rx
  have tb := text_of (c := cb) Rb.out Mb.out
  rcases okb : okGet xb with _ | _
  · skip
    have Z := get_no okb
    have Z1 := Lib.hid Z.1; have Z2 := Lib.hid Z.2; have Z3 := Lib.hid okb
    clear Z okb
    go_wp2_with fail
    refine (get14 Ab cb nb (xb) _ Rb.out Mb.out (by omega)).mono ?_
    rintro e w5 ⟨Ay, ky, ny, rfl, h1, h2, hb, h4, h5⟩
    rw [Z2.out] at h1 h2
    rw [Z1.out, Z3.out]
    have My := Lib.hid h1; have Ry := Lib.hid h2; have Ky := Lib.hid h4
    clear h1 h2 h4 h5
    have B5 := Lib.hid (chain B4.out hb)
    replace Rl := Lib.hid (Rl.out.below hb)
    replace Rb := Lib.hid (Rb.out.below hb)
    clear tb
    clear hb B4
    have tb := text_of (c := cb) Rb.out Mb.out
    obtain rfl : ny = 0 := My.out
    go_wp2_with fail
    go_ret
    exact ⟨rfl, B5.out⟩
  · skip
    have Z := get_yes okb
    obtain ⟨z1, z2⟩ := put_get okb
    have Z1 := Lib.hid Z.1; have Z2 := Lib.hid Z.2; have Z3 := Lib.hid okb; have Z4 := Lib.hid z2
    have LM : Hid ((listC xb).length ≤ 6) := by have := getl_max xb; rw [Z2.out] at this; exact this
    clear Z okb z1 z2
    go_wp2_with fail
    refine (get14 Ab cb nb (xb) _ Rb.out Mb.out (by omega)).mono ?_
    rintro e w5 ⟨Ay, ky, ny, rfl, h1, h2, hb, h4, h5⟩
    rw [Z2.out] at h1 h2
    rw [Z1.out, Z3.out]
    have My := Lib.hid h1; have Ry := Lib.hid h2; have Ky := Lib.hid h4
    clear h1 h2 h4 h5
    have B5 := Lib.hid (chain B4.out hb)
    replace Rl := Lib.hid (Rl.out.below hb)
    replace Rb := Lib.hid (Rb.out.below hb)
    clear tb
    clear hb B4
    have tb := text_of (c := cb) Rb.out Mb.out
    have q1 : ((tx xb).toList == (tx xb).toList) = true := by simp
    have y9 : ny ≤ 1000000 := by rw [My.out]; exact Nat.le_trans LM.out (by decide)
    go_wp2_with fail
    refine wp_region_noPanic ?_
    refine wp_region_held_drew (S := fun w' => Below w5.drew.heap.size w5.drew w') (by kernel_rfl) (Below.refl _ _) (fun hHeld => ?_)
    have hb := below_drew w5
    generalize w5.drew = w6 at hb hHeld ⊢
    have B6 := Lib.hid (chain B5.out hb)
    replace Rl := Lib.hid (Rl.out.below hb)
    replace Rb := Lib.hid (Rb.out.below hb)
    replace Ry := Lib.hid (Ry.out.below hb)
    clear tb
    clear hb B5
    clear hHeld
    have hHeld : Below w6.heap.size w6 w6 := Below.refl _ _
    refine wpAnyH_take (i := 0) (v := ?vv91) (by simp only [List.getElem?_toArray, List.getElem?_cons_zero]; rfl) (by kernel_rfl) (by kernel_rfl) (by kernel_rfl) (fun _ _ _ h => h) (Or.inl ⟨by rfl, ?yy91⟩) (by assumption) ?rr91
    case yy91 => (intro w' hSw; go_simp; first | done | with_reducible rfl)
    simp only [Act.put, List.setIfInBounds_toArray, List.set_cons_zero, List.set_cons_succ]
    refine wpAnyH_take (i := 1) (v := ?vv92) (by simp only [List.getElem?_toArray, List.getElem?_cons_zero, List.getElem?_cons_succ]; rfl) (by kernel_rfl) (by kernel_rfl) (by kernel_rfl) (fun _ _ _ h => h) (Or.inl ⟨by rfl, ?yy92⟩) (by assumption) ?rr92
    case yy92 => (intro w' hSw; go_simp; first | done | with_reducible rfl)
    simp only [Act.put, List.setIfInBounds_toArray, List.set_cons_zero, List.set_cons_succ]
    refine wpAnyH_take (i := 2) (v := ?vv93) (by simp only [List.getElem?_toArray, List.getElem?_cons_zero, List.getElem?_cons_succ]; rfl) (by kernel_rfl) (by kernel_rfl) (by kernel_rfl) (fun _ _ _ h => h) (Or.inl ⟨by rfl, ?yy93⟩) (by assumption) ?rr93
    case yy93 => (intro w' hSw; go_simp; first | done | with_reducible rfl)
    simp only [Act.put, List.setIfInBounds_toArray, List.set_cons_zero, List.set_cons_succ]
    refine wpAnyH_take (i := 3) (v := ?vv94) (by simp only [List.getElem?_toArray, List.getElem?_cons_zero, List.getElem?_cons_succ]; rfl) (by kernel_rfl) (by kernel_rfl) (by kernel_rfl) (fun _ _ _ h => h) (Or.inl ⟨by rfl, ?yy94⟩) (by assumption) ?rr94
    case yy94 => (intro w' hSw; go_simp; first | done | with_reducible rfl)
    simp only [Act.put, List.setIfInBounds_toArray, List.set_cons_zero, List.set_cons_succ]
    refine wpAnyH_take (i := 6) (v := ?vv95) (by simp only [List.getElem?_toArray, List.getElem?_cons_zero, List.getElem?_cons_succ]; rfl) (by kernel_rfl) (by kernel_rfl) (by kernel_rfl) (fun _ _ _ h => h) (Or.inl ⟨by rfl, ?yy95⟩) (by assumption) ?rr95
    case yy95 => (intro w' hSw; go_simp; first | done | with_reducible rfl)
    simp only [Act.put, List.setIfInBounds_toArray, List.set_cons_zero, List.set_cons_succ]
    refine wpAnyH_take (i := 7) (v := ?vv96) (by simp only [List.getElem?_toArray, List.getElem?_cons_zero, List.getElem?_cons_succ]; rfl) (by kernel_rfl) (by kernel_rfl) (by kernel_rfl) (fun _ _ _ h => h) (Or.inl ⟨by rfl, ?yy96⟩) (by assumption) ?rr96
    case yy96 => (intro w' hSw; have tb := text_of (c := cb) (Rb.out.below hSw) Mb.out; go_simp; first | done | with_reducible rfl)
    simp only [Act.put, List.setIfInBounds_toArray, List.set_cons_zero, List.set_cons_succ]
    refine wpAnyH_ready (rs := [4]) (by kernel_rfl) (by simp) ?_
    refine AllReadyH.cons (by simp only [List.getElem?_toArray, List.getElem?_cons_zero, List.getElem?_cons_succ]; rfl) (fun K hK => ?_) AllReadyH.nil
    go_simp
    go_at_call 16
    (with_reducible refine (put14 (posC xb : Int) Ay ky ny (listC xb) _ Ry.out My.out y9).mono ?_)
    rintro e w7 ⟨Aq, kq, nq, rfl, h1, h2, hb, h4, h5, h6⟩
    rw [Z4.out] at h1 h2
    have Mq := Lib.hid h1; have Rq := Lib.hid h2
    clear h1 h2 h4 h5 h6
    have hb0 := hb
    go_wp2_with fail
    refine hK.out _ _ hb0 (fun hHeld => ?_)
    clear hK K hHeld
    refine wpAnyH_more (S' := fun w' => Below w7.heap.size w7 w') (fun _ h => chain hb0 h) _ _ _ _ ?_
    clear hb0
    have hHeld : Below w7.heap.size w7 w7 := Below.refl _ _
    try simp only [Act.put, List.setIfInBounds_toArray, List.set_cons_zero, List.set_cons_succ]
    have B7 := Lib.hid (chain B6.out hb)
    replace Rl := Lib.hid (Rl.out.below hb)
    replace Rb := Lib.hid (Rb.out.below hb)
    replace Ry := Lib.hid (Ry.out.below hb)
    clear hb B6
    refine wpAnyH_take (i := 5) (v := ?vv97) (by simp only [List.getElem?_toArray, List.getElem?_cons_zero, List.getElem?_cons_succ]; rfl) (by kernel_rfl) (by kernel_rfl) (by kernel_rfl) (fun _ _ _ h => h) (Or.inl ⟨by rfl, ?yy97⟩) (by assumption) ?rr97
    case yy97 => (intro w' hSw; have tb := text_of (c := cb) (Rb.out.below hSw) Mb.out; have tq := text_of (c := kq) (Rq.out.below hSw) Mq.out; go_simp; first | done | with_reducible rfl)
    simp only [Act.put, List.setIfInBounds_toArray, List.set_cons_zero, List.set_cons_succ]
    refine wpAnyH_take (i := 8) (v := ?vv98) (by simp only [List.getElem?_toArray, List.getElem?_cons_zero, List.getElem?_cons_succ]; rfl) (by kernel_rfl) (by kernel_rfl) (by kernel_rfl) (fun _ _ _ h => h) (Or.inl ⟨by rfl, ?yy98⟩) (by assumption) ?rr98
    case yy98 => (intro w' hSw; go_simp; first | done | with_reducible rfl)
    simp only [Act.put, List.setIfInBounds_toArray, List.set_cons_zero, List.set_cons_succ]
    refine wpAnyH_take (i := 9) (v := ?vv99) (by simp only [List.getElem?_toArray, List.getElem?_cons_zero, List.getElem?_cons_succ]; rfl) (by kernel_rfl) (by kernel_rfl) (by kernel_rfl) (fun _ _ _ h => h) (Or.inl ⟨by rfl, ?yy99⟩) (by assumption) ?rr99
    case yy99 => (intro w' hSw; go_simp; first | done | with_reducible rfl)
    simp only [Act.put, List.setIfInBounds_toArray, List.set_cons_zero, List.set_cons_succ]
    refine wpAnyH_take (i := 10) (v := ?vv100) (by simp only [List.getElem?_toArray, List.getElem?_cons_zero, List.getElem?_cons_succ]; rfl) (by kernel_rfl) (by kernel_rfl) (by kernel_rfl) (fun _ _ _ h => h) (Or.inl ⟨by rfl, ?yy100⟩) (by assumption) ?rr100
    case yy100 => (intro w' hSw; go_simp; first | done | with_reducible rfl)
    simp only [Act.put, List.setIfInBounds_toArray, List.set_cons_zero, List.set_cons_succ]
    refine wpAnyH_done (by kernel_rfl) ?_ _
    refine NoPanic.normal ?_
    clear hHeld
    have tb := text_of (c := cb) Rb.out Mb.out
    have tq := text_of (c := kq) Rq.out Mq.out
    go_wp2_with fail
    go_ret
    exact ⟨rfl, B7.out⟩

end Go.Proofs.Ytlllinpaclodaaa
