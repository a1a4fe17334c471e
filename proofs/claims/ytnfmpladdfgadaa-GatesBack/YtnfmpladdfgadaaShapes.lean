/-
  What Shapes of package check answers; SameShapes of two rows that are alike.
-/
import Derived.Test.YtnfmpladdfgadaaPub
import Derived.Laws.StructEq
namespace Go.Proofs.Ytnfmpladdfgadaa
open Go.RowKit

theorem Try.info23 : (Try.prog.info? 23).map (fun i => (i.zero, i.size, i.bytes)) = some (some (.agg #[.int .i64 0, .int .i64 0, .int .i64 0]), 3, 24) := by kernel_rfl
theorem scells_one (s : Sh) : ∀ u ∈ scells s, u.oneCell' = true := fun u hu => by
  simp only [scells, List.mem_cons, List.not_mem_nil, or_false] at hu
  rcases hu with rfl | rfl | rfl <;> rfl
theorem own_cap {α : Type} {f : α → List Value} {m : Nat} (hf : ∀ x, (f x).length = m) (hm : 0 < m) {w : World} {B e n : Nat} {v : Value} {xs : List α} (h : w.ownsRow B e m v n (xs.flatMap f)) :
    ∃ A c, v = .slice A n c ∧ n = xs.length ∧ Rg f w A xs ∧ n ≤ c ∧ c ≤ maxLen := by
  obtain ⟨A, c, hv, hn, hR⟩ := own_rg hf hm h
  refine ⟨A, c, hv, hn, hR, ?_⟩
  rcases h.2 with ⟨hv2, h0⟩ | ⟨g, cp, cur, hv2, _, _, h1, h2, _, _⟩
  · rw [hv2] at hv
    injection hv with a b c
    subst c
    exact ⟨by omega, Nat.zero_le _⟩
  · rw [hv2] at hv
    injection hv with a b c
    subst c
    exact ⟨h1, h2⟩
theorem own_new {w : World} {B e m n c n' : Nat} {A : Option Addr} {xs : List Value} (h : w.ownsRow B e m (.slice A n c) n' xs) : ∀ a, A = some a → B ≤ a.block := fun a ha => by
  rcases h.2 with ⟨hv, _⟩ | ⟨g, cp, cur, hv, hg, _⟩
  · injection hv with h1; rw [h1] at ha; cases ha
  · injection hv with h1; rw [h1] at ha; rw [← Option.some.inj ha]; exact hg
def ShapesTo (N : Nt) (w : World) (e : Ending) (w' : World) : Prop :=
  ∃ (A : Option Addr) (k n : Nat), e = .returned (.tuple #[.slice A n k, .int .i64 (errN N)]) ∧ n = (shN N).length ∧ Rs w' A (shN N) ∧ Below w.heap.size w w' ∧ n ≤ k ∧ k ≤ maxLen
def ShapesNew (N : Nt) (w : World) (e : Ending) (w' : World) : Prop :=
  ∃ (A : Option Addr) (k n : Nat), e = .returned (.tuple #[.slice A n k, .int .i64 (errN N)]) ∧ n = (shN N).length ∧ Rs w' A (shN N) ∧ Below w.heap.size w w' ∧ n ≤ k ∧ k ≤ maxLen ∧ ∀ a, A = some a → w.heap.size ≤ a.block ∧ ∃ cs fr, w'.heap[a.block]? = some (.cells cs 23 fr)
theorem own_kind {w : World} {B e m n c n' : Nat} {A : Option Addr} {xs : List Value} (h : w.ownsRow B e m (.slice A n c) n' xs) : ∀ a, A = some a → ∃ cs fr, w.heap[a.block]? = some (.cells cs e fr) := fun a ha => by
  rcases h.2 with ⟨hv, _⟩ | ⟨g, cp, cur, hv, hg, hh, _⟩
  · injection hv with h1; rw [h1] at ha; cases ha
  · injection hv with h1; rw [h1] at ha; rw [← Option.some.inj ha]; exact ⟨cur, _, hh⟩
theorem SB.news {w : World} {g : Nat} {s : Sh} (H : SB w g s) : ∀ j u, (scells s)[j]? = some u → w.cell? ((⟨g, 0, none⟩ : Addr).add j) = some u := fun j u hu => by
  rw [plain_add, Nat.zero_add, Lib.cell_of_heap H]
  simpa [scells] using hu

set_option maxHeartbeats 4000000 in
theorem shapes_new (c h x : Int) (A : Option Addr) (cA n : Nat) (ls : List Ly) (w : World) (hx : Rl w A ls) (ln : n = ls.length) (hn : n ≤ 1000) :
    Calls Try.prog 14 #[.agg #[.int .i64 c, .int .i64 h, .int .i64 x, .slice A n cA]] w (ShapesNew ⟨c, h, x, ls⟩ w) := by
  obtain ⟨i0, hi, hz0, hz1, hz2⟩ := info_parts Try.info23
  have HX := Lib.hid hx; have LX := Lib.hid ln
  clear hx ln
  obtain ⟨er, her⟩ : ∃ er, er = errN ⟨c, h, x, ls⟩ := ⟨_, rfl⟩
  have HER := Lib.hid her
  clear her
  go_enter Try.func14, Try.ntmps14
  go_wp2_with fail
  refine (look_any c h x A cA n ls _ (HX.out.below ((Below.refl _ w).alloc (Nat.le_refl _) _)) LX.out hn).mono ?_
  rintro e w1 ⟨A1, k1, n1, rfl, hn1, hR, hb⟩
  rw [← HER.out]
  have HB := Lib.hid (chain ((Below.refl w.heap.size w).alloc (Nat.le_refl _) _) hb)
  have hN := (NB.new w c h x (.slice A n cA)).below hb
  obtain ⟨m0, m1, m2, m3⟩ := hN.cells
  have lw := hN.lt
  have HR := Lib.hid hR; have HN := Lib.hid hn1
  have hl : n1 ≤ 1000 := by have := knN_len (N := ⟨c, h, x, ls⟩); omega
  clear hb hR hn1 hN
  by_cases h0 : er = 0
  · have b0 : (er != 0) = false := by rw [h0]; rfl
    have HKN : Hid (knN ⟨c, h, x, ls⟩ = knL ⟨c, h, x⟩ 0 ls) := knN_ok (by rw [← HER.out]; exact h0)
    have HSN : Hid (shN ⟨c, h, x, ls⟩ = ⟨c, h, x⟩ :: (knN ⟨c, h, x, ls⟩).map Kn.u) := by
      show _ = _
      rw [shN_ok (by rw [← HER.out]; exact h0), HKN.out]; exact sh_kn ls _ 0
    obtain ⟨ks, hks⟩ : ∃ ks, ks = knN ⟨c, h, x, ls⟩ := ⟨_, rfl⟩
    have HKS := Lib.hid hks
    have HRK : Hid (Rk w1 A1 ks) := by rw [hks]; exact HR.out
    have HNK : Hid (n1 = ks.length) := by rw [hks]; exact HN.out
    have H0 := Lib.hid h0
    clear hks HR HN h0
    obtain ⟨B, hB⟩ : ∃ B, B = w1.heap.size := ⟨_, rfl⟩
    obtain ⟨wX, hwX⟩ : ∃ wX, wX = w1.alloc (.cells #[.int .i64 c, .int .i64 h, .int .i64 x] 23) := ⟨_, rfl⟩
    have OW0 : Hid (wX.ownsRow B 23 3 (.slice (some ⟨B, 0, none⟩) 1 1) 1 (([⟨c, h, x⟩] : List Sh).flatMap scells)) := by
      rw [hwX, hB]
      exact ⟨rfl, .inr ⟨w1.heap.size, 1, #[.int .i64 c, .int .i64 h, .int .i64 x], rfl, Nat.le_refl _, heap_alloc_new w1 _, Nat.le_refl _, by decide, rfl, rfl⟩⟩
    have BX : Hid (Below w1.heap.size w1 wX) := by rw [hwX]; exact (Below.refl _ w1).alloc (Nat.le_refl _) _
    go_wp2_with fail
    rw [← hwX, ← hB]
    have hwB : w.heap.size ≤ B := by rw [hB]; exact HB.out.size
    have HBB := Lib.hid hB
    clear hwX m0 m1 m2 m3 b0 hB
    go_loopw [6, 22] (fun v i wr => ∃ k : Nat, k ≤ n1 ∧ i = .int .i64 k ∧ Hid (wr.ownsRow B 23 3 v (k + 1) ((⟨c, h, x⟩ :: (ks.take k).map Kn.u).flatMap scells)) ∧ Hid (Below w1.heap.size w1 wr)) (fun _ i _ => n1 - (intOf i).toNat)
    case atStart => exact ⟨0, Nat.zero_le _, rfl, OW0, BX⟩
    case round =>
      obtain ⟨k, hk, rfl, OW, BW⟩ := hrel
      by_cases hlt : k < n1
      · have hkl : k < ks.length := by rw [← HNK.out]; exact hlt
        obtain ⟨b1, o1, rfl, l1, q⟩ := HRK.out (by omega)
        obtain ⟨K, hK⟩ : ∃ K, ks[k]? = some K := ⟨_, List.getElem?_eq_getElem hkl⟩
        have HK := Lib.hid hK
        have q1 := Rg.at kcells_len q hK
        have q2 : ∀ r u, (kcells K)[r]? = some u → wr.cell? ⟨b1, o1 + k * 11 + r, none⟩ = some u := fun r u hu => (BW.out.cell (p := ⟨b1, o1 + k * 11 + r, none⟩) l1).trans (q1 r u hu)
        have p0 : wr.cell? ⟨b1, o1 + k * 11, none⟩ = _ := q2 0 _ rfl
        have p1 := q2 1 _ rfl
        have p2 := q2 2 _ rfl
        have p3 := q2 3 _ rfl
        have p4 := q2 4 _ rfl
        have p5 := q2 5 _ rfl
        have p6 := q2 6 _ rfl
        have p7 := q2 7 _ rfl
        have p8 := q2 8 _ rfl
        have p9 := q2 9 _ rfl
        have p10 := q2 10 _ rfl
        have hBw : B ≤ wr.heap.size := by rw [HBB.out]; exact BW.out.size
        clear q q1 q2 hK
        go_wp2_with (at_builtin; refine wpList_append_own _ rfl _ _ 29 rfl B 23 i0 (.agg #[.int .i64 0, .int .i64 0, .int .i64 0]) 3 24 Try.underlying29 hi hz0 hz1 hz2 rfl (by decide) _ (k + 1) _ rfl ((OW.out.alloc _).alloc _) ⟨wr.heap.size + 1, 0, none⟩ 1 1 (scells K.u) rfl rfl ?c1 (scells_one K.u) ?c3 ?c4 ?c5 ?_)
        case c1 =>
          have := (SB.new (wr.alloc (.cells #[.int .i64 K.l.k, .int .i64 K.l.o, .int .i64 K.l.s, .int .i64 K.l.t, .int .i64 K.i.c, .int .i64 K.i.h, .int .i64 K.i.x, .int .i64 K.u.c, .int .i64 K.u.h, .int .i64 K.u.x, .int .i64 K.a] 76)) K.u).news
          rwa [show (wr.alloc _).heap.size = wr.heap.size + 1 by simp] at this
        case c3 => unfold maxLen; omega
        case c4 => omega
        case c5 => simp; omega
        intro v' w4 hown2 hgrow _
        have O4 : Hid (w4.ownsRow B 23 3 v' (k + 1 + 1) ((⟨c, h, x⟩ :: (ks.take (k + 1)).map Kn.u).flatMap scells)) := by
          show w4.ownsRow _ _ _ _ _ _
          rw [take_get HK.out, List.map_append, ← List.cons_append, List.flatMap_append]
          simpa using hown2
        have B4 : Hid (Below w1.heap.size w1 w4) := ((BW.out.alloc BW.out.size _).alloc (by simp; have := BW.out.size; omega) _).grown hgrow (by simp; have := BW.out.size; omega) (fun q hqq => by have := (OW.out.lt _ hqq).1; rw [HBB.out] at this; exact this)
        clear hown2 hgrow p0 p1 p2 p3 p4 p5 p6 p7 p8 p9 p10
        go_wp2_with fail
        go_roundw
        case rel => exact ⟨k + 1, by omega, by go_num, O4, B4⟩
        case measure => simp [intOf]; omega
      · obtain rfl : k = n1 := by omega
        have et : ks.take k = ks := by rw [HNK.out, List.take_length]
        have hO := OW.out
        rw [et] at hO
        obtain ⟨A2, c2, hv, hd1, hd2, hd3, hd4⟩ := own_cap scells_len (by decide) hO
        subst hv
        have NEW : Hid (∀ a, A2 = some a → w.heap.size ≤ a.block ∧ ∃ cs fr, wr.heap[a.block]? = some (.cells cs 23 fr)) := fun a ha => ⟨by have := own_new hO a ha; omega, own_kind hO a ha⟩
        have D1 := Lib.hid hd1; have D2 := Lib.hid hd2; have D3 := Lib.hid hd3; have D4 := Lib.hid hd4
        clear hO hd1 hd2 hd3 hd4 et
        go_wp2_with fail
        go_ret2
        refine ⟨A2, c2, k + 1, by rw [← HER.out, H0.out]; rfl, ?_, ?_, chain HB.out BW.out, D3.out, D4.out, NEW.out⟩
        · rw [HSN.out, ← HKS.out]; exact D1.out
        · rw [HSN.out, ← HKS.out]; exact D2.out
  · have b0 : (er != 0) = true := by simpa using h0
    have H0 : Hid (shN ⟨c, h, x, ls⟩ = []) := shN_no (by rw [← HER.out]; exact h0)
    clear h0
    go_wp2_with fail
    go_ret2
    refine ⟨none, 0, 0, by rw [← HER.out]; rfl, by rw [H0.out]; rfl, by rw [H0.out]; exact Rg.nil _ _ _, HB.out, Nat.le_refl _, Nat.zero_le _, fun a ha => by cases ha⟩
theorem shapes_any (c h x : Int) (A : Option Addr) (cA n : Nat) (ls : List Ly) (w : World) (hx : Rl w A ls) (ln : n = ls.length) (hn : n ≤ 1000) :
    Calls Try.prog 14 #[.agg #[.int .i64 c, .int .i64 h, .int .i64 x, .slice A n cA]] w (ShapesTo ⟨c, h, x, ls⟩ w) := by
  refine (shapes_new c h x A cA n ls w hx ln hn).mono ?_
  rintro e w' ⟨A1, k1, n1, h1, h2, h3, h4, h5, h6, _⟩
  exact ⟨A1, k1, n1, h1, h2, h3, h4, h5, h6⟩

theorem shape_ne (a b c : Int) (w : World) : (binOp .neq 23 (.agg #[.int .i64 a, .int .i64 b, .int .i64 c]) (.agg #[.int .i64 a, .int .i64 b, .int .i64 c])).run Try.prog w = .ok (.bool false) w := by
  go_simp
theorem shape_eq (a b c : Int) (w : World) : (binOp .eql 23 (.agg #[.int .i64 a, .int .i64 b, .int .i64 c]) (.agg #[.int .i64 a, .int .i64 b, .int .i64 c])).run Try.prog w = .ok (.bool true) w := by
  go_simp

set_option maxHeartbeats 2000000 in
theorem same_any (ss : List Sh) (A B : Option Addr) (cA cB n : Nat) (w : World) (ha : Rs w A ss) (hb : Rs w B ss) (ln : n = ss.length) (hn : n ≤ 1000) :
    Calls Try.prog 20 #[.slice A n cA, .slice B n cB] w fun e w' => e = .returned (.bool true) ∧ Below w.heap.size w w' := by
  have HA := Lib.hid ha; have HB := Lib.hid hb; have LX := Lib.hid ln
  clear ha hb ln
  go_enter Try.func20, Try.ntmps20
  go_wp2_with fail
  go_loopw [5] (fun i wr => ∃ k : Nat, k ≤ n ∧ i = .int .i64 k ∧ Hid (Below w.heap.size w wr)) (fun i _ => n - (intOf i).toNat)
  case atStart => exact ⟨0, Nat.zero_le _, rfl, Below.refl _ _⟩
  case round =>
    obtain ⟨k, hk, rfl, HC⟩ := hrel
    by_cases hlt : k < n
    · have hkl : k < ss.length := by rw [← LX.out]; exact hlt
      obtain ⟨b1, o1, rfl, l1, q⟩ := HA.out (by omega)
      obtain ⟨b2, o2, rfl, l2, r⟩ := HB.out (by omega)
      obtain ⟨S, hS⟩ : ∃ S, ss[k]? = some S := ⟨_, List.getElem?_eq_getElem hkl⟩
      have q1 := Rg.at scells_len q hS
      have q2 : ∀ r u, (scells S)[r]? = some u → wr.cell? ⟨b1, o1 + k * 3 + r, none⟩ = some u := fun r u hu => (HC.out.cell (p := ⟨b1, o1 + k * 3 + r, none⟩) l1).trans (q1 r u hu)
      have r1 := Rg.at scells_len r hS
      have r2 : ∀ r u, (scells S)[r]? = some u → wr.cell? ⟨b2, o2 + k * 3 + r, none⟩ = some u := fun r u hu => (HC.out.cell (p := ⟨b2, o2 + k * 3 + r, none⟩) l2).trans (r1 r u hu)
      have p0 : wr.cell? ⟨b1, o1 + k * 3, none⟩ = _ := q2 0 _ rfl
      have p1 := q2 1 _ rfl
      have p2 := q2 2 _ rfl
      have s0 : wr.cell? ⟨b2, o2 + k * 3, none⟩ = _ := r2 0 _ rfl
      have s1 := r2 1 _ rfl
      have s2 := r2 2 _ rfl
      have hne := shape_ne S.c S.h S.x
      clear q q1 q2 r r1 r2 hS
      go_wp2_with fail
      go_region
      go_wp2_with fail
      go_roundw
      case rel => exact ⟨k + 1, by omega, by go_num, HC.out.drew⟩
      case measure => simp [intOf]; omega
    · obtain rfl : k = n := by omega
      go_wp2_with fail
      go_ret
      exact ⟨rfl, HC.out⟩

theorem great_any (c h x : Int) (A : Option Addr) (cA n : Nat) (w : World) (r : Bool) (hr : decide (60 < (n : Int)) = r) :
    Calls Try.prog 13 #[.agg #[.int .i64 c, .int .i64 h, .int .i64 x, .slice A n cA]] w fun e w' => e = .returned (.bool r) ∧ Below w.heap.size w w' := by
  subst hr
  go_enter Try.func13, Try.ntmps13
  go_wp2
  go_ret
  exact ⟨by first | rfl | (congr 2; simp), (Below.refl _ w).alloc (Nat.le_refl _) _⟩

end Go.Proofs.Ytnfmpladdfgadaa
