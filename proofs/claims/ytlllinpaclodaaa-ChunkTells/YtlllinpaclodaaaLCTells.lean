/-
  ChunkTells: any chunk's bytes, what any bytes are, any numbers cut into chunks, and what any bytes gather to, are the document's.
-/
import Derived.Test.YtlllinpaclodaaaCHead
namespace Go.Proofs.Ytlllinpaclodaaa
open Go.RowKit

set_option maxHeartbeats 8000000 in
set_option maxRecDepth 100000 in
theorem law_ctells (a m : Int) (Al : Option Addr) (cl nl : Nat) (xl : List UInt64) (Ab : Option Addr) (cb nb : Nat) (xb : List UInt8) (Ar : Option Addr) (cr nr : Nat) (xr : List (List UInt8)) (w : World) (hl : Rg ucells w Al xl) (ll : nl = xl.length) (kl : nl ≤ cl) (hb : Rg bcells w Ab xb) (lb : nb = xb.length) (kb : nb ≤ cb) (hr : BR w Ar xr) (lr : nr = xr.length) (kr : nr ≤ cr) (ia : I64 a) :
    Calls Try.prog 3 #[.int .i64 a, .slice Al nl cl, .slice Ab nb cb, .int .i64 m, .slice Ar nr cr] w fun e w' => e = .returned (.bool true) ∧ Below w.heap.size w w' := by
  have R_ : True := trivial
  have Rl := Lib.hid hl; have Ml := Lib.hid ll; have Kl := Lib.hid kl
  have Rb := Lib.hid hb; have Mb := Lib.hid lb; have Kb := Lib.hid kb
  have Rr := Lib.hid hr; have Mr := Lib.hid lr; have Kr := Lib.hid kr
  clear hl ll kl hb lb kb hr lr kr R_
  by_cases g0 : 900 < nl
  · skip
    have d0 : decide (900 < (nl : Int)) = true := decide_eq_true (by omega)
    clear g0
    go_enter Try.func3, Try.ntmps3
    go_wp2_with fail
    refine (head14_any _).mono ?_
    rintro e w1 ⟨rfl, hb⟩
    have B1 := Lib.hid hb
    replace Rl := Lib.hid (Rl.out.below hb)
    replace Rb := Lib.hid (Rb.out.below hb)
    replace Rr := Lib.hid (Rr.out.below hb)
    clear hb
    go_wp2_with fail
    go_ret
    exact ⟨rfl, B1.out⟩
  have d0 : decide (900 < (nl : Int)) = false := decide_eq_false (by omega)
  by_cases g1 : 900 < nb
  · skip
    have d1 : decide (900 < (nb : Int)) = true := decide_eq_true (by omega)
    clear g0 g1
    go_enter Try.func3, Try.ntmps3
    go_wp2_with fail
    refine (head14_any _).mono ?_
    rintro e w1 ⟨rfl, hb⟩
    have B1 := Lib.hid hb
    replace Rl := Lib.hid (Rl.out.below hb)
    replace Rb := Lib.hid (Rb.out.below hb)
    replace Rr := Lib.hid (Rr.out.below hb)
    clear hb
    go_wp2_with fail
    go_ret
    exact ⟨rfl, B1.out⟩
  have d1 : decide (900 < (nb : Int)) = false := decide_eq_false (by omega)
  have l9 : nl ≤ 900 := by omega
  have b9 : nb ≤ 900 := by omega
  clear g0 g1
  go_enter Try.func3, Try.ntmps3
  go_wp2_with fail
  refine (head14_any _).mono ?_
  rintro e w1 ⟨rfl, hb⟩
  have B1 := Lib.hid hb
  replace Rl := Lib.hid (Rl.out.below hb)
  replace Rb := Lib.hid (Rb.out.below hb)
  replace Rr := Lib.hid (Rr.out.below hb)
  clear hb
  go_wp2_with fail
  refine (great14 Ar cr nr xr _ Rr.out Mr.out).mono ?_
  rintro e w2 ⟨g, rfl, hg, hb⟩
  have G := Lib.hid hg
  clear hg
  have B2 := Lib.hid (chain B1.out hb)
  replace Rl := Lib.hid (Rl.out.below hb)
  replace Rb := Lib.hid (Rb.out.below hb)
  replace Rr := Lib.hid (Rr.out.below hb)
  clear hb B1
  rcases g with _ | _
  rotate_left
  · skip
    go_wp2_with fail
    go_ret
    exact ⟨rfl, B2.out⟩
  have GL := Lib.hid (G.out rfl).1
  have GB : Hid (∀ b ∈ xr, b.length ≤ 1000000) := fun b hb => Nat.le_of_lt (Nat.lt_trans ((G.out rfl).2 b hb) (by decide))
  have r9 : nr ≤ 1000000 := by rw [Mr.out]; have := GL.out; omega
  clear G
  go_wp2_with fail
  refine (get14 Ab cb nb (xb) _ Rb.out Mb.out (by omega)).mono ?_
  rintro e w3 ⟨Ax, kx, nx, rfl, h1, h2, hb, h4, h5⟩
  have Mx := Lib.hid h1; have Rx := Lib.hid h2; have Kx := Lib.hid h4
  clear h1 h2 h4 h5
  have B3 := Lib.hid (chain B2.out hb)
  replace Rl := Lib.hid (Rl.out.below hb)
  replace Rb := Lib.hid (Rb.out.below hb)
  replace Rr := Lib.hid (Rr.out.below hb)
  clear hb B2
  go_wp2_with fail
  refine (rget14 Ab cb nb (xb) _ Rb.out Mb.out (by omega)).mono ?_
  rintro e w4 ⟨Ay, ky, ny, rfl, h1, h2, hb, h4, h5⟩
  have My := Lib.hid h1; have Ry := Lib.hid h2; have Ky := Lib.hid h4
  clear h1 h2 h4 h5
  have B4 := Lib.hid (chain B3.out hb)
  replace Rl := Lib.hid (Rl.out.below hb)
  replace Rb := Lib.hid (Rb.out.below hb)
  replace Rr := Lib.hid (Rr.out.below hb)
  replace Rx := Lib.hid (Rx.out.below hb)
  clear hb B3
  go_wp2_with fail
  refine (gather14 (a) (m) Ar cr nr (xr) _ Rr.out Mr.out (r9) (GB.out)).mono ?_
  rintro e w5 ⟨Au, ku, nu, rfl, h1, h2, hb, h4, h5⟩
  have Mu := Lib.hid h1; have Ru := Lib.hid h2; have Ku := Lib.hid h4
  clear h1 h2 h4 h5
  have B5 := Lib.hid (chain B4.out hb)
  replace Rl := Lib.hid (Rl.out.below hb)
  replace Rb := Lib.hid (Rb.out.below hb)
  replace Rr := Lib.hid (Rr.out.below hb)
  replace Rx := Lib.hid (Rx.out.below hb)
  replace Ry := Lib.hid (Ry.out.below hb)
  clear hb B4
  go_wp2_with fail
  refine (rgather14 (a) (m) Ar cr nr (xr) _ Rr.out Mr.out (r9) (GB.out)).mono ?_
  rintro e w6 ⟨Av, kv, nv, rfl, h1, h2, hb, h4, h5⟩
  have Mv := Lib.hid h1; have Rv := Lib.hid h2; have Kv := Lib.hid h4
  clear h1 h2 h4 h5
  have B6 := Lib.hid (chain B5.out hb)
  replace Rl := Lib.hid (Rl.out.below hb)
  replace Rb := Lib.hid (Rb.out.below hb)
  replace Rr := Lib.hid (Rr.out.below hb)
  replace Rx := Lib.hid (Rx.out.below hb)
  replace Ry := Lib.hid (Ry.out.below hb)
  replace Ru := Lib.hid (Ru.out.below hb)
  clear hb B5
  have q1 : (okGet xb == okGet xb) = true := by simp
  have q2 : (okGa a m xr == okGa a m xr) = true := by simp
  have q3 : (getP xb == getP xb) = true := by simp
  have q4 : ((tx (putC a xl)).toList == (tx (putC a xl)).toList) = true := by simp
  go_wp2_with fail
  refine wp_region_noPanic ?_
  refine wp_region_held_drew (S := fun w' => Below w6.drew.heap.size w6.drew w') (by kernel_rfl) (Below.refl _ _) (fun hHeld => ?_)
  have hb := below_drew w6
  generalize w6.drew = w7 at hb hHeld ⊢
  have B7 := Lib.hid (chain B6.out hb)
  replace Rl := Lib.hid (Rl.out.below hb)
  replace Rb := Lib.hid (Rb.out.below hb)
  replace Rr := Lib.hid (Rr.out.below hb)
  replace Rx := Lib.hid (Rx.out.below hb)
  replace Ry := Lib.hid (Ry.out.below hb)
  replace Ru := Lib.hid (Ru.out.below hb)
  replace Rv := Lib.hid (Rv.out.below hb)
  clear hb B6
  clear hHeld
  have hHeld : Below w7.heap.size w7 w7 := Below.refl _ _
  refine wpAnyH_take (i := 0) (v := ?vv1) (by simp only [List.getElem?_toArray, List.getElem?_cons_zero]; rfl) (by kernel_rfl) (by kernel_rfl) (by kernel_rfl) (fun _ _ _ h => h) (Or.inl ⟨by rfl, ?yy1⟩) (by assumption) ?rr1
  case yy1 => (intro w' hSw; go_simp; first | done | with_reducible rfl)
  simp only [Act.put, List.setIfInBounds_toArray, List.set_cons_zero, List.set_cons_succ]
  refine wpAnyH_take (i := 1) (v := ?vv2) (by simp only [List.getElem?_toArray, List.getElem?_cons_zero, List.getElem?_cons_succ]; rfl) (by kernel_rfl) (by kernel_rfl) (by kernel_rfl) (fun _ _ _ h => h) (Or.inl ⟨by rfl, ?yy2⟩) (by assumption) ?rr2
  case yy2 => (intro w' hSw; go_simp; first | done | with_reducible rfl)
  simp only [Act.put, List.setIfInBounds_toArray, List.set_cons_zero, List.set_cons_succ]
  refine wpAnyH_take (i := 2) (v := ?vv3) (by simp only [List.getElem?_toArray, List.getElem?_cons_zero, List.getElem?_cons_succ]; rfl) (by kernel_rfl) (by kernel_rfl) (by kernel_rfl) (fun _ _ _ h => h) (Or.inl ⟨by rfl, ?yy3⟩) (by assumption) ?rr3
  case yy3 => (intro w' hSw; go_simp; first | done | with_reducible rfl)
  simp only [Act.put, List.setIfInBounds_toArray, List.set_cons_zero, List.set_cons_succ]
  refine wpAnyH_take (i := 3) (v := ?vv4) (by simp only [List.getElem?_toArray, List.getElem?_cons_zero, List.getElem?_cons_succ]; rfl) (by kernel_rfl) (by kernel_rfl) (by kernel_rfl) (fun _ _ _ h => h) (Or.inl ⟨by rfl, ?yy4⟩) (by assumption) ?rr4
  case yy4 => (intro w' hSw; go_simp; first | done | with_reducible rfl)
  simp only [Act.put, List.setIfInBounds_toArray, List.set_cons_zero, List.set_cons_succ]
  refine wpAnyH_take (i := 6) (v := ?vv5) (by simp only [List.getElem?_toArray, List.getElem?_cons_zero, List.getElem?_cons_succ]; rfl) (by kernel_rfl) (by kernel_rfl) (by kernel_rfl) (fun _ _ _ h => h) (Or.inl ⟨by rfl, ?yy5⟩) (by assumption) ?rr5
  case yy5 => (intro w' hSw; go_simp; first | done | with_reducible rfl)
  simp only [Act.put, List.setIfInBounds_toArray, List.set_cons_zero, List.set_cons_succ]
  refine wpAnyH_take (i := 7) (v := ?vv6) (by simp only [List.getElem?_toArray, List.getElem?_cons_zero, List.getElem?_cons_succ]; rfl) (by kernel_rfl) (by kernel_rfl) (by kernel_rfl) (fun _ _ _ h => h) (Or.inl ⟨by rfl, ?yy6⟩) (by assumption) ?rr6
  case yy6 => (intro w' hSw; go_simp; first | done | with_reducible rfl)
  simp only [Act.put, List.setIfInBounds_toArray, List.set_cons_zero, List.set_cons_succ]
  refine wpAnyH_ready (rs := [4]) (by kernel_rfl) (by simp) ?_
  refine AllReadyH.cons (by simp only [List.getElem?_toArray, List.getElem?_cons_zero, List.getElem?_cons_succ]; rfl) (fun K hK => ?_) AllReadyH.nil
  go_simp
  go_at_call 16
  (with_reducible refine (put14 (a) Al cl nl (xl) _ Rl.out Ml.out (by omega)).mono ?_)
  rintro e w8 ⟨Ap, kp, np, rfl, h1, h2, hb, h4, h5, h6⟩
  have Mp := Lib.hid h1; have Rp := Lib.hid h2; have Kp := Lib.hid h4
  clear h1 h2 h4 h5 h6
  have hb0 := hb
  go_wp2_with fail
  refine hK.out _ _ hb0 (fun hHeld => ?_)
  clear hK K hHeld
  refine wpAnyH_more (S' := fun w' => Below w8.heap.size w8 w') (fun _ h => chain hb0 h) _ _ _ _ ?_
  clear hb0
  have hHeld : Below w8.heap.size w8 w8 := Below.refl _ _
  try simp only [Act.put, List.setIfInBounds_toArray, List.set_cons_zero, List.set_cons_succ]
  have B8 := Lib.hid (chain B7.out hb)
  replace Rl := Lib.hid (Rl.out.below hb)
  replace Rb := Lib.hid (Rb.out.below hb)
  replace Rr := Lib.hid (Rr.out.below hb)
  replace Rx := Lib.hid (Rx.out.below hb)
  replace Ry := Lib.hid (Ry.out.below hb)
  replace Ru := Lib.hid (Ru.out.below hb)
  replace Rv := Lib.hid (Rv.out.below hb)
  clear hb B7
  refine wpAnyH_take (i := 5) (v := ?vv7) (by simp only [List.getElem?_toArray, List.getElem?_cons_zero, List.getElem?_cons_succ]; rfl) (by kernel_rfl) (by kernel_rfl) (by kernel_rfl) (fun _ _ _ h => h) (Or.inl ⟨by rfl, ?yy7⟩) (by assumption) ?rr7
  case yy7 => (intro w' hSw; have tp := text_of (c := kp) (Rp.out.below hSw) Mp.out; go_simp; first | done | with_reducible rfl)
  simp only [Act.put, List.setIfInBounds_toArray, List.set_cons_zero, List.set_cons_succ]
  refine wpAnyH_ready (rs := [8]) (by kernel_rfl) (by simp) ?_
  refine AllReadyH.cons (by simp only [List.getElem?_toArray, List.getElem?_cons_zero, List.getElem?_cons_succ]; rfl) (fun K hK => ?_) AllReadyH.nil
  go_simp
  go_at_call 17
  (with_reducible refine (rput14 (a) Al cl nl (xl) _ Rl.out Ml.out (by omega)).mono ?_)
  rintro e w9 ⟨Aq, kq, nq, rfl, h1, h2, hb, h4, h5, h6⟩
  have Mq := Lib.hid h1; have Rq := Lib.hid h2; have Kq := Lib.hid h4
  clear h1 h2 h4 h5 h6
  have hb0 := hb
  go_wp2_with fail
  refine hK.out _ _ hb0 (fun hHeld => ?_)
  clear hK K hHeld
  refine wpAnyH_more (S' := fun w' => Below w9.heap.size w9 w') (fun _ h => chain hb0 h) _ _ _ _ ?_
  clear hb0
  have hHeld : Below w9.heap.size w9 w9 := Below.refl _ _
  try simp only [Act.put, List.setIfInBounds_toArray, List.set_cons_zero, List.set_cons_succ]
  have B9 := Lib.hid (chain B8.out hb)
  replace Rl := Lib.hid (Rl.out.below hb)
  replace Rb := Lib.hid (Rb.out.below hb)
  replace Rr := Lib.hid (Rr.out.below hb)
  replace Rx := Lib.hid (Rx.out.below hb)
  replace Ry := Lib.hid (Ry.out.below hb)
  replace Ru := Lib.hid (Ru.out.below hb)
  replace Rv := Lib.hid (Rv.out.below hb)
  replace Rp := Lib.hid (Rp.out.below hb)
  clear hb B8
  refine wpAnyH_take (i := 9) (v := ?vv8) (by simp only [List.getElem?_toArray, List.getElem?_cons_zero, List.getElem?_cons_succ]; rfl) (by kernel_rfl) (by kernel_rfl) (by kernel_rfl) (fun _ _ _ h => h) (Or.inl ⟨by rfl, ?yy8⟩) (by assumption) ?rr8
  case yy8 => (intro w' hSw; have tp := text_of (c := kp) (Rp.out.below hSw) Mp.out; have tq := text_of (c := kq) (Rq.out.below hSw) Mq.out; go_simp; first | done | with_reducible rfl)
  simp only [Act.put, List.setIfInBounds_toArray, List.set_cons_zero, List.set_cons_succ]
  refine wpAnyH_take (i := 10) (v := ?vv9) (by simp only [List.getElem?_toArray, List.getElem?_cons_zero, List.getElem?_cons_succ]; rfl) (by kernel_rfl) (by kernel_rfl) (by kernel_rfl) (fun _ _ _ h => h) (Or.inl ⟨by rfl, ?yy9⟩) (by assumption) ?rr9
  case yy9 => (intro w' hSw; go_simp; first | done | with_reducible rfl)
  simp only [Act.put, List.setIfInBounds_toArray, List.set_cons_zero, List.set_cons_succ]
  refine wpAnyH_take (i := 11) (v := ?vv10) (by simp only [List.getElem?_toArray, List.getElem?_cons_zero, List.getElem?_cons_succ]; rfl) (by kernel_rfl) (by kernel_rfl) (by kernel_rfl) (fun _ _ _ h => h) (Or.inl ⟨by rfl, ?yy10⟩) (by assumption) ?rr10
  case yy10 => (intro w' hSw; go_simp; first | done | with_reducible rfl)
  simp only [Act.put, List.setIfInBounds_toArray, List.set_cons_zero, List.set_cons_succ]
  refine wpAnyH_take (i := 12) (v := ?vv11) (by simp only [List.getElem?_toArray, List.getElem?_cons_zero, List.getElem?_cons_succ]; rfl) (by kernel_rfl) (by kernel_rfl) (by kernel_rfl) (fun _ _ _ h => h) (Or.inl ⟨by rfl, ?yy11⟩) (by assumption) ?rr11
  case yy11 => (intro w' hSw; go_simp; first | done | with_reducible rfl)
  simp only [Act.put, List.setIfInBounds_toArray, List.set_cons_zero, List.set_cons_succ]
  refine wpAnyH_take (i := 13) (v := ?vv12) (by simp only [List.getElem?_toArray, List.getElem?_cons_zero, List.getElem?_cons_succ]; rfl) (by kernel_rfl) (by kernel_rfl) (by kernel_rfl) (fun _ _ _ h => h) (Or.inl ⟨by rfl, ?yy12⟩) (by assumption) ?rr12
  case yy12 => (intro w' hSw; go_simp; first | done | with_reducible rfl)
  simp only [Act.put, List.setIfInBounds_toArray, List.set_cons_zero, List.set_cons_succ]
  refine wpAnyH_take (i := 14) (v := ?vv13) (by simp only [List.getElem?_toArray, List.getElem?_cons_zero, List.getElem?_cons_succ]; rfl) (by kernel_rfl) (by kernel_rfl) (by kernel_rfl) (fun _ _ _ h => h) (Or.inl ⟨by rfl, ?yy13⟩) (by assumption) ?rr13
  case yy13 => (intro w' hSw; go_simp; first | done | with_reducible rfl)
  simp only [Act.put, List.setIfInBounds_toArray, List.set_cons_zero, List.set_cons_succ]
  refine wpAnyH_take (i := 15) (v := ?vv14) (by simp only [List.getElem?_toArray, List.getElem?_cons_zero, List.getElem?_cons_succ]; rfl) (by kernel_rfl) (by kernel_rfl) (by kernel_rfl) (fun _ _ _ h => h) (Or.inl ⟨by rfl, ?yy14⟩) (by assumption) ?rr14
  case yy14 => (intro w' hSw; go_simp; first | done | with_reducible rfl)
  simp only [Act.put, List.setIfInBounds_toArray, List.set_cons_zero, List.set_cons_succ]
  refine wpAnyH_take (i := 16) (v := ?vv15) (by simp only [List.getElem?_toArray, List.getElem?_cons_zero, List.getElem?_cons_succ]; rfl) (by kernel_rfl) (by kernel_rfl) (by kernel_rfl) (fun _ _ _ h => h) (Or.inl ⟨by rfl, ?yy15⟩) (by assumption) ?rr15
  case yy15 => (intro w' hSw; go_simp; first | done | with_reducible rfl)
  simp only [Act.put, List.setIfInBounds_toArray, List.set_cons_zero, List.set_cons_succ]
  refine wpAnyH_take (i := 17) (v := ?vv16) (by simp only [List.getElem?_toArray, List.getElem?_cons_zero, List.getElem?_cons_succ]; rfl) (by kernel_rfl) (by kernel_rfl) (by kernel_rfl) (fun _ _ _ h => h) (Or.inl ⟨by rfl, ?yy16⟩) (by assumption) ?rr16
  case yy16 => (intro w' hSw; go_simp; first | done | with_reducible rfl)
  simp only [Act.put, List.setIfInBounds_toArray, List.set_cons_zero, List.set_cons_succ]
  refine wpAnyH_take (i := 18) (v := ?vv17) (by simp only [List.getElem?_toArray, List.getElem?_cons_zero, List.getElem?_cons_succ]; rfl) (by kernel_rfl) (by kernel_rfl) (by kernel_rfl) (fun _ _ _ h => h) (Or.inl ⟨by rfl, ?yy17⟩) (by assumption) ?rr17
  case yy17 => (intro w' hSw; go_simp; first | done | with_reducible rfl)
  simp only [Act.put, List.setIfInBounds_toArray, List.set_cons_zero, List.set_cons_succ]
  refine wpAnyH_take (i := 19) (v := ?vv18) (by simp only [List.getElem?_toArray, List.getElem?_cons_zero, List.getElem?_cons_succ]; rfl) (by kernel_rfl) (by kernel_rfl) (by kernel_rfl) (fun _ _ _ h => h) (Or.inl ⟨by rfl, ?yy18⟩) (by assumption) ?rr18
  case yy18 => (intro w' hSw; go_simp; first | done | with_reducible rfl)
  simp only [Act.put, List.setIfInBounds_toArray, List.set_cons_zero, List.set_cons_succ]
  refine wpAnyH_ready (rs := [20]) (by kernel_rfl) (by simp) ?_
  refine AllReadyH.cons (by simp only [List.getElem?_toArray, List.getElem?_cons_zero, List.getElem?_cons_succ]; rfl) (fun K hK => ?_) AllReadyH.nil
  go_simp
  go_at_call 18
  (with_reducible refine (ssame Ax Ay kx ky nx ny (getL xb) (getL xb) _ Rx.out Ry.out Mx.out My.out (by rw [Mx.out]; exact Nat.le_trans (getl_max _) (by decide)) (rfl)).mono ?_)
  rintro e w10 ⟨rfl, hb⟩
  have hb0 := hb
  go_wp2_with fail
  refine hK.out _ _ hb0 (fun hHeld => ?_)
  clear hK K hHeld
  refine wpAnyH_more (S' := fun w' => Below w10.heap.size w10 w') (fun _ h => chain hb0 h) _ _ _ _ ?_
  clear hb0
  have hHeld : Below w10.heap.size w10 w10 := Below.refl _ _
  try simp only [Act.put, List.setIfInBounds_toArray, List.set_cons_zero, List.set_cons_succ]
  have B10 := Lib.hid (chain B9.out hb)
  replace Rl := Lib.hid (Rl.out.below hb)
  replace Rb := Lib.hid (Rb.out.below hb)
  replace Rr := Lib.hid (Rr.out.below hb)
  replace Rx := Lib.hid (Rx.out.below hb)
  replace Ry := Lib.hid (Ry.out.below hb)
  replace Ru := Lib.hid (Ru.out.below hb)
  replace Rv := Lib.hid (Rv.out.below hb)
  replace Rp := Lib.hid (Rp.out.below hb)
  replace Rq := Lib.hid (Rq.out.below hb)
  clear hb B9
  refine wpAnyH_take (i := 21) (v := ?vv19) (by simp only [List.getElem?_toArray, List.getElem?_cons_zero, List.getElem?_cons_succ]; rfl) (by kernel_rfl) (by kernel_rfl) (by kernel_rfl) (fun _ _ _ h => h) (Or.inl ⟨by rfl, ?yy19⟩) (by assumption) ?rr19
  case yy19 => (intro w' hSw; go_simp; first | done | with_reducible rfl)
  simp only [Act.put, List.setIfInBounds_toArray, List.set_cons_zero, List.set_cons_succ]
  refine wpAnyH_take (i := 22) (v := ?vv20) (by simp only [List.getElem?_toArray, List.getElem?_cons_zero, List.getElem?_cons_succ]; rfl) (by kernel_rfl) (by kernel_rfl) (by kernel_rfl) (fun _ _ _ h => h) (Or.inl ⟨by rfl, ?yy20⟩) (by assumption) ?rr20
  case yy20 => (intro w' hSw; go_simp; first | done | with_reducible rfl)
  simp only [Act.put, List.setIfInBounds_toArray, List.set_cons_zero, List.set_cons_succ]
  refine wpAnyH_take (i := 23) (v := ?vv21) (by simp only [List.getElem?_toArray, List.getElem?_cons_zero, List.getElem?_cons_succ]; rfl) (by kernel_rfl) (by kernel_rfl) (by kernel_rfl) (fun _ _ _ h => h) (Or.inl ⟨by rfl, ?yy21⟩) (by assumption) ?rr21
  case yy21 => (intro w' hSw; go_simp; first | done | with_reducible rfl)
  simp only [Act.put, List.setIfInBounds_toArray, List.set_cons_zero, List.set_cons_succ]
  refine wpAnyH_take (i := 24) (v := ?vv22) (by simp only [List.getElem?_toArray, List.getElem?_cons_zero, List.getElem?_cons_succ]; rfl) (by kernel_rfl) (by kernel_rfl) (by kernel_rfl) (fun _ _ _ h => h) (Or.inl ⟨by rfl, ?yy22⟩) (by assumption) ?rr22
  case yy22 => (intro w' hSw; go_simp; first | done | with_reducible rfl)
  simp only [Act.put, List.setIfInBounds_toArray, List.set_cons_zero, List.set_cons_succ]
  refine wpAnyH_take (i := 25) (v := ?vv23) (by simp only [List.getElem?_toArray, List.getElem?_cons_zero, List.getElem?_cons_succ]; rfl) (by kernel_rfl) (by kernel_rfl) (by kernel_rfl) (fun _ _ _ h => h) (Or.inl ⟨by rfl, ?yy23⟩) (by assumption) ?rr23
  case yy23 => (intro w' hSw; go_simp; first | done | with_reducible rfl)
  simp only [Act.put, List.setIfInBounds_toArray, List.set_cons_zero, List.set_cons_succ]
  refine wpAnyH_take (i := 26) (v := ?vv24) (by simp only [List.getElem?_toArray, List.getElem?_cons_zero, List.getElem?_cons_succ]; rfl) (by kernel_rfl) (by kernel_rfl) (by kernel_rfl) (fun _ _ _ h => h) (Or.inl ⟨by rfl, ?yy24⟩) (by assumption) ?rr24
  case yy24 => (intro w' hSw; go_simp; first | done | with_reducible rfl)
  simp only [Act.put, List.setIfInBounds_toArray, List.set_cons_zero, List.set_cons_succ]
  refine wpAnyH_take (i := 27) (v := ?vv25) (by simp only [List.getElem?_toArray, List.getElem?_cons_zero, List.getElem?_cons_succ]; rfl) (by kernel_rfl) (by kernel_rfl) (by kernel_rfl) (fun _ _ _ h => h) (Or.inl ⟨by rfl, ?yy25⟩) (by assumption) ?rr25
  case yy25 => (intro w' hSw; go_simp; first | done | with_reducible rfl)
  simp only [Act.put, List.setIfInBounds_toArray, List.set_cons_zero, List.set_cons_succ]
  refine wpAnyH_take (i := 28) (v := ?vv26) (by simp only [List.getElem?_toArray, List.getElem?_cons_zero, List.getElem?_cons_succ]; rfl) (by kernel_rfl) (by kernel_rfl) (by kernel_rfl) (fun _ _ _ h => h) (Or.inl ⟨by rfl, ?yy26⟩) (by assumption) ?rr26
  case yy26 => (intro w' hSw; go_simp; first | done | with_reducible rfl)
  simp only [Act.put, List.setIfInBounds_toArray, List.set_cons_zero, List.set_cons_succ]
  refine wpAnyH_take (i := 29) (v := ?vv27) (by simp only [List.getElem?_toArray, List.getElem?_cons_zero, List.getElem?_cons_succ]; rfl) (by kernel_rfl) (by kernel_rfl) (by kernel_rfl) (fun _ _ _ h => h) (Or.inl ⟨by rfl, ?yy27⟩) (by assumption) ?rr27
  case yy27 => (intro w' hSw; go_simp; first | done | with_reducible rfl)
  simp only [Act.put, List.setIfInBounds_toArray, List.set_cons_zero, List.set_cons_succ]
  refine wpAnyH_take (i := 31) (v := ?vv28) (by simp only [List.getElem?_toArray, List.getElem?_cons_zero, List.getElem?_cons_succ]; rfl) (by kernel_rfl) (by kernel_rfl) (by kernel_rfl) (fun _ _ _ h => h) (Or.inl ⟨by rfl, ?yy28⟩) (by assumption) ?rr28
  case yy28 => (intro w' hSw; go_simp; first | done | with_reducible rfl)
  simp only [Act.put, List.setIfInBounds_toArray, List.set_cons_zero, List.set_cons_succ]
  refine wpAnyH_take (i := 32) (v := ?vv29) (by simp only [List.getElem?_toArray, List.getElem?_cons_zero, List.getElem?_cons_succ]; rfl) (by kernel_rfl) (by kernel_rfl) (by kernel_rfl) (fun _ _ _ h => h) (Or.inl ⟨by rfl, ?yy29⟩) (by assumption) ?rr29
  case yy29 => (intro w' hSw; go_simp; first | done | with_reducible rfl)
  simp only [Act.put, List.setIfInBounds_toArray, List.set_cons_zero, List.set_cons_succ]
  refine wpAnyH_ready (rs := [30]) (by kernel_rfl) (by simp) ?_
  refine AllReadyH.cons (by simp only [List.getElem?_toArray, List.getElem?_cons_zero, List.getElem?_cons_succ]; rfl) (fun K hK => ?_) AllReadyH.nil
  go_simp
  go_at_call 20
  (with_reducible refine (cut14 (a) Al cl nl (xl) _ Rl.out Ml.out (by omega) Kl.out).mono ?_)
  rintro e w11 ⟨As, ks, ns, rfl, h1, h2, hb, h4, h5⟩
  have Ms := Lib.hid h1; have Rs := Lib.hid h2; have Ks := Lib.hid h4
  clear h1 h2 h4 h5
  have hb0 := hb
  go_wp2_with fail
  refine hK.out _ _ hb0 (fun hHeld => ?_)
  clear hK K hHeld
  refine wpAnyH_more (S' := fun w' => Below w11.heap.size w11 w') (fun _ h => chain hb0 h) _ _ _ _ ?_
  clear hb0
  have hHeld : Below w11.heap.size w11 w11 := Below.refl _ _
  try simp only [Act.put, List.setIfInBounds_toArray, List.set_cons_zero, List.set_cons_succ]
  have B11 := Lib.hid (chain B10.out hb)
  replace Rl := Lib.hid (Rl.out.below hb)
  replace Rb := Lib.hid (Rb.out.below hb)
  replace Rr := Lib.hid (Rr.out.below hb)
  replace Rx := Lib.hid (Rx.out.below hb)
  replace Ry := Lib.hid (Ry.out.below hb)
  replace Ru := Lib.hid (Ru.out.below hb)
  replace Rv := Lib.hid (Rv.out.below hb)
  replace Rp := Lib.hid (Rp.out.below hb)
  replace Rq := Lib.hid (Rq.out.below hb)
  clear hb B10
  refine wpAnyH_ready (rs := [33]) (by kernel_rfl) (by simp) ?_
  refine AllReadyH.cons (by simp only [List.getElem?_toArray, List.getElem?_cons_zero, List.getElem?_cons_succ]; rfl) (fun K hK => ?_) AllReadyH.nil
  go_simp
  go_at_call 21
  (with_reducible refine (rcut14 (a) Al cl nl (xl) _ Rl.out Ml.out (by omega) Kl.out).mono ?_)
  rintro e w12 ⟨At, kt, nt, rfl, h1, h2, hb, h4, h5⟩
  have Mt := Lib.hid h1; have Rt := Lib.hid h2; have Kt := Lib.hid h4
  clear h1 h2 h4 h5
  have hb0 := hb
  go_wp2_with fail
  refine hK.out _ _ hb0 (fun hHeld => ?_)
  clear hK K hHeld
  refine wpAnyH_more (S' := fun w' => Below w12.heap.size w12 w') (fun _ h => chain hb0 h) _ _ _ _ ?_
  clear hb0
  have hHeld : Below w12.heap.size w12 w12 := Below.refl _ _
  try simp only [Act.put, List.setIfInBounds_toArray, List.set_cons_zero, List.set_cons_succ]
  have B12 := Lib.hid (chain B11.out hb)
  replace Rl := Lib.hid (Rl.out.below hb)
  replace Rb := Lib.hid (Rb.out.below hb)
  replace Rr := Lib.hid (Rr.out.below hb)
  replace Rx := Lib.hid (Rx.out.below hb)
  replace Ry := Lib.hid (Ry.out.below hb)
  replace Ru := Lib.hid (Ru.out.below hb)
  replace Rv := Lib.hid (Rv.out.below hb)
  replace Rp := Lib.hid (Rp.out.below hb)
  replace Rq := Lib.hid (Rq.out.below hb)
  replace Rs := Lib.hid (Rs.out.below hb)
  clear hb B11
  refine wpAnyH_ready (rs := [34]) (by kernel_rfl) (by simp) ?_
  refine AllReadyH.cons (by simp only [List.getElem?_toArray, List.getElem?_cons_zero, List.getElem?_cons_succ]; rfl) (fun K hK => ?_) AllReadyH.nil
  go_simp
  go_at_call 19
  (with_reducible refine (rsame14 As At ks kt ns nt (cutC a xl) _ Rs.out Rt.out Ms.out Mt.out (by rw [Ms.out]; exact Nat.le_trans (cut_max _ _) (by rw [← Ml.out]; omega))).mono ?_)
  rintro e w13 ⟨rfl, hb⟩
  have hb0 := hb
  go_wp2_with fail
  refine hK.out _ _ hb0 (fun hHeld => ?_)
  clear hK K hHeld
  refine wpAnyH_more (S' := fun w' => Below w13.heap.size w13 w') (fun _ h => chain hb0 h) _ _ _ _ ?_
  clear hb0
  have hHeld : Below w13.heap.size w13 w13 := Below.refl _ _
  try simp only [Act.put, List.setIfInBounds_toArray, List.set_cons_zero, List.set_cons_succ]
  have B13 := Lib.hid (chain B12.out hb)
  replace Rl := Lib.hid (Rl.out.below hb)
  replace Rb := Lib.hid (Rb.out.below hb)
  replace Rr := Lib.hid (Rr.out.below hb)
  replace Rx := Lib.hid (Rx.out.below hb)
  replace Ry := Lib.hid (Ry.out.below hb)
  replace Ru := Lib.hid (Ru.out.below hb)
  replace Rv := Lib.hid (Rv.out.below hb)
  replace Rp := Lib.hid (Rp.out.below hb)
  replace Rq := Lib.hid (Rq.out.below hb)
  replace Rs := Lib.hid (Rs.out.below hb)
  replace Rt := Lib.hid (Rt.out.below hb)
  clear hb B12
  refine wpAnyH_take (i := 35) (v := ?vv30) (by simp only [List.getElem?_toArray, List.getElem?_cons_zero, List.getElem?_cons_succ]; rfl) (by kernel_rfl) (by kernel_rfl) (by kernel_rfl) (fun _ _ _ h => h) (Or.inl ⟨by rfl, ?yy30⟩) (by assumption) ?rr30
  case yy30 => (intro w' hSw; go_simp; first | done | with_reducible rfl)
  simp only [Act.put, List.setIfInBounds_toArray, List.set_cons_zero, List.set_cons_succ]
  refine wpAnyH_take (i := 36) (v := ?vv31) (by simp only [List.getElem?_toArray, List.getElem?_cons_zero, List.getElem?_cons_succ]; rfl) (by kernel_rfl) (by kernel_rfl) (by kernel_rfl) (fun _ _ _ h => h) (Or.inl ⟨by rfl, ?yy31⟩) (by assumption) ?rr31
  case yy31 => (intro w' hSw; go_simp; first | done | with_reducible rfl)
  simp only [Act.put, List.setIfInBounds_toArray, List.set_cons_zero, List.set_cons_succ]
  refine wpAnyH_take (i := 37) (v := ?vv32) (by simp only [List.getElem?_toArray, List.getElem?_cons_zero, List.getElem?_cons_succ]; rfl) (by kernel_rfl) (by kernel_rfl) (by kernel_rfl) (fun _ _ _ h => h) (Or.inl ⟨by rfl, ?yy32⟩) (by assumption) ?rr32
  case yy32 => (intro w' hSw; go_simp; first | done | with_reducible rfl)
  simp only [Act.put, List.setIfInBounds_toArray, List.set_cons_zero, List.set_cons_succ]
  refine wpAnyH_take (i := 38) (v := ?vv33) (by simp only [List.getElem?_toArray, List.getElem?_cons_zero, List.getElem?_cons_succ]; rfl) (by kernel_rfl) (by kernel_rfl) (by kernel_rfl) (fun _ _ _ h => h) (Or.inl ⟨by rfl, ?yy33⟩) (by assumption) ?rr33
  case yy33 => (intro w' hSw; go_simp; first | done | with_reducible rfl)
  simp only [Act.put, List.setIfInBounds_toArray, List.set_cons_zero, List.set_cons_succ]
  refine wpAnyH_ready (rs := [39]) (by kernel_rfl) (by simp) ?_
  refine AllReadyH.cons (by simp only [List.getElem?_toArray, List.getElem?_cons_zero, List.getElem?_cons_succ]; rfl) (fun K hK => ?_) AllReadyH.nil
  go_simp
  go_at_call 18
  (with_reducible refine (ssame Au Av ku kv nu nv (gaL a m xr) (gaL a m xr) _ Ru.out Rv.out Mu.out Mv.out (by rw [Mu.out]; exact Nat.le_trans (gal_max _ _ _) (by decide)) (rfl)).mono ?_)
  rintro e w14 ⟨rfl, hb⟩
  have hb0 := hb
  go_wp2_with fail
  refine hK.out _ _ hb0 (fun hHeld => ?_)
  clear hK K hHeld
  refine wpAnyH_more (S' := fun w' => Below w14.heap.size w14 w') (fun _ h => chain hb0 h) _ _ _ _ ?_
  clear hb0
  have hHeld : Below w14.heap.size w14 w14 := Below.refl _ _
  try simp only [Act.put, List.setIfInBounds_toArray, List.set_cons_zero, List.set_cons_succ]
  have B14 := Lib.hid (chain B13.out hb)
  replace Rl := Lib.hid (Rl.out.below hb)
  replace Rb := Lib.hid (Rb.out.below hb)
  replace Rr := Lib.hid (Rr.out.below hb)
  replace Rx := Lib.hid (Rx.out.below hb)
  replace Ry := Lib.hid (Ry.out.below hb)
  replace Ru := Lib.hid (Ru.out.below hb)
  replace Rv := Lib.hid (Rv.out.below hb)
  replace Rp := Lib.hid (Rp.out.below hb)
  replace Rq := Lib.hid (Rq.out.below hb)
  replace Rs := Lib.hid (Rs.out.below hb)
  replace Rt := Lib.hid (Rt.out.below hb)
  clear hb B13
  refine wpAnyH_take (i := 40) (v := ?vv34) (by simp only [List.getElem?_toArray, List.getElem?_cons_zero, List.getElem?_cons_succ]; rfl) (by kernel_rfl) (by kernel_rfl) (by kernel_rfl) (fun _ _ _ h => h) (Or.inl ⟨by rfl, ?yy34⟩) (by assumption) ?rr34
  case yy34 => (intro w' hSw; go_simp; first | done | with_reducible rfl)
  simp only [Act.put, List.setIfInBounds_toArray, List.set_cons_zero, List.set_cons_succ]
  refine wpAnyH_take (i := 41) (v := ?vv35) (by simp only [List.getElem?_toArray, List.getElem?_cons_zero, List.getElem?_cons_succ]; rfl) (by kernel_rfl) (by kernel_rfl) (by kernel_rfl) (fun _ _ _ h => h) (Or.inl ⟨by rfl, ?yy35⟩) (by assumption) ?rr35
  case yy35 => (intro w' hSw; go_simp; first | done | with_reducible rfl)
  simp only [Act.put, List.setIfInBounds_toArray, List.set_cons_zero, List.set_cons_succ]
  refine wpAnyH_take (i := 42) (v := ?vv36) (by simp only [List.getElem?_toArray, List.getElem?_cons_zero, List.getElem?_cons_succ]; rfl) (by kernel_rfl) (by kernel_rfl) (by kernel_rfl) (fun _ _ _ h => h) (Or.inl ⟨by rfl, ?yy36⟩) (by assumption) ?rr36
  case yy36 => (intro w' hSw; go_simp; first | done | with_reducible rfl)
  simp only [Act.put, List.setIfInBounds_toArray, List.set_cons_zero, List.set_cons_succ]
  refine wpAnyH_take (i := 43) (v := ?vv37) (by simp only [List.getElem?_toArray, List.getElem?_cons_zero, List.getElem?_cons_succ]; rfl) (by kernel_rfl) (by kernel_rfl) (by kernel_rfl) (fun _ _ _ h => h) (Or.inl ⟨by rfl, ?yy37⟩) (by assumption) ?rr37
  case yy37 => (intro w' hSw; go_simp; first | done | with_reducible rfl)
  simp only [Act.put, List.setIfInBounds_toArray, List.set_cons_zero, List.set_cons_succ]
  refine wpAnyH_take (i := 44) (v := ?vv38) (by simp only [List.getElem?_toArray, List.getElem?_cons_zero, List.getElem?_cons_succ]; rfl) (by kernel_rfl) (by kernel_rfl) (by kernel_rfl) (fun _ _ _ h => h) (Or.inl ⟨by rfl, ?yy38⟩) (by assumption) ?rr38
  case yy38 => (intro w' hSw; go_simp; first | done | with_reducible rfl)
  simp only [Act.put, List.setIfInBounds_toArray, List.set_cons_zero, List.set_cons_succ]
  refine wpAnyH_take (i := 45) (v := ?vv39) (by simp only [List.getElem?_toArray, List.getElem?_cons_zero, List.getElem?_cons_succ]; rfl) (by kernel_rfl) (by kernel_rfl) (by kernel_rfl) (fun _ _ _ h => h) (Or.inl ⟨by rfl, ?yy39⟩) (by assumption) ?rr39
  case yy39 => (intro w' hSw; go_simp; first | done | with_reducible rfl)
  simp only [Act.put, List.setIfInBounds_toArray, List.set_cons_zero, List.set_cons_succ]
  refine wpAnyH_take (i := 46) (v := ?vv40) (by simp only [List.getElem?_toArray, List.getElem?_cons_zero, List.getElem?_cons_succ]; rfl) (by kernel_rfl) (by kernel_rfl) (by kernel_rfl) (fun _ _ _ h => h) (Or.inl ⟨by rfl, ?yy40⟩) (by assumption) ?rr40
  case yy40 => (intro w' hSw; go_simp; first | done | with_reducible rfl)
  simp only [Act.put, List.setIfInBounds_toArray, List.set_cons_zero, List.set_cons_succ]
  refine wpAnyH_done (by kernel_rfl) ?_ _
  refine NoPanic.normal ?_
  clear hHeld
  have tp := text_of (c := kp) Rp.out Mp.out
  have tq := text_of (c := kq) Rq.out Mq.out
  go_wp2_with fail
  go_ret
  exact ⟨rfl, B14.out⟩

end Go.Proofs.Ytlllinpaclodaaa
