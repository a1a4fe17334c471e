/-
  Pointers to a struct's numbers: what the two methods 'numbers' answer, and what 'within' answers of them.
-/
import Derived.Test.YtmlflmlgjjjmfaaDoorGet
import Derived.Test.YtmlflmlgjjjmfaaDoorNet
import Derived.StillTailTactics
import Derived.BigQuiet
namespace Go.Proofs.YtmlflmlgjjjmfaaDoor
open Go.RowKit

/-- Whole numbers, as a block's cells. -/
def ic (l : List Int) : Array Value := (l.map fun n => Value.int .i64 n).toArray
def IB (w : World) (b T : Nat) (l : List Int) : Prop := w.heap[b]? = some (.cells (ic l) T (0, 0))
theorem IB.cell {w : World} {b T : Nat} {l : List Int} (h : IB w b T l) {j : Nat} (hj : j < l.length) : w.cell? ⟨b, j, none⟩ = some (.int .i64 (l.getD j 0)) := by
  rw [Lib.cell_of_heap h]
  simp [ic, List.getD_eq_getElem?_getD, hj]
theorem IB.lt {w : World} {b T : Nat} {l : List Int} (h : IB w b T l) : b < w.heap.size := (Array.getElem?_eq_some_iff.1 h).1
theorem IB.below {w w' : World} {b T : Nat} {l : List Int} (h : IB w b T l) (hb : Below w.heap.size w w') : IB w' b T l := (hb.block b h.lt).trans h

/-- A row of pointers into block b. -/
def pc (b : Nat) (os : List Nat) : Array Value := (os.map fun o => Value.pointer (some ⟨b, o, none⟩)).toArray
def Rp (B : Nat) (w : World) (A : Option Addr) (b : Nat) (os : List Nat) : Prop :=
  0 < os.length → ∃ g, A = some ⟨g, 0, none⟩ ∧ B ≤ g ∧ w.heap[g]? = some (.cells (pc b os) 71 (0, 0))
theorem pc_cell {w : World} {g b : Nat} {os : List Nat} (h : w.heap[g]? = some (.cells (pc b os) 71 (0, 0))) {j : Nat} (hj : j < os.length) : w.cell? ⟨g, j, none⟩ = some (.pointer (some ⟨b, os.getD j 0, none⟩)) := by
  rw [Lib.cell_of_heap h]
  simp [pc, List.getD_eq_getElem?_getD, hj]
theorem Rp.below {B : Nat} {w w' : World} {A : Option Addr} {b : Nat} {os : List Nat} (h : Rp B w A b os) (hb : Below w.heap.size w w') : Rp B w' A b os := fun h0 => by
  obtain ⟨g, e, hB, hh⟩ := h h0
  exact ⟨g, e, hB, (hb.block g (Array.getElem?_eq_some_iff.1 hh).1).trans hh⟩
def NumsPost (b : Nat) (os : List Nat) (w : World) (e : Ending) (w' : World) : Prop :=
  ∃ (A : Option Addr) (k n : Nat), e = .returned (.slice A n k) ∧ n = os.length ∧ Rp w.heap.size w' A b os ∧ Below w.heap.size w w'
theorem below_drew (w : World) : Below w.heap.size w w.drew := (Below.refl _ w).drew
theorem rp_new {w : World} {b : Nat} {os : List Nat} : Rp w.heap.size (w.alloc (.cells (pc b os) 71)) (some ⟨w.heap.size, 0, none⟩) b os :=
  fun _ => ⟨w.heap.size, rfl, Nat.le_refl _, by show (w.heap.push _)[w.heap.size]? = _; simp⟩

set_option maxHeartbeats 1000000 in
set_option maxRecDepth 100000 in
theorem pic_numbers (b : Nat) (w : World) :
    Calls Tryd.prog 25 #[.pointer (some ⟨b, 0, none⟩)] w (NumsPost b [0, 1, 2] w) := by
  go_enter Tryd.func25, Tryd.ntmps25
  go_wp2
  go_still_tail 9, (by kernel_rfl)
  change wpList _ _ _ _ _ w.drew
  go_wp2
  go_ret
  exact ⟨some ⟨w.heap.size, 0, none⟩, 3, 3, rfl, rfl, rp_new (w := w.drew), (below_drew w).alloc (by simp) _⟩

set_option maxHeartbeats 1000000 in
set_option maxRecDepth 100000 in
theorem lay_conv (b : Nat) (w : World) (hc : w.cell? ⟨b, 0, none⟩ = some (.int .i64 1)) :
    Calls Tryd.prog 30 #[.pointer (some ⟨b, 0, none⟩)] w (NumsPost b [1, 2, 3] w) := by
  go_enter Tryd.func30, Tryd.ntmps30
  go_wp2
  go_still_tail 9, (by kernel_rfl)
  change wpList _ _ _ _ _ w.drew
  go_wp2
  go_ret
  exact ⟨some ⟨w.heap.size, 0, none⟩, 3, 3, rfl, rfl, rp_new (w := w.drew), (below_drew w).alloc (by simp) _⟩

set_option maxHeartbeats 1000000 in
theorem lay_pool (b : Nat) (w : World) (hc : w.cell? ⟨b, 0, none⟩ = some (.int .i64 3)) :
    Calls Tryd.prog 30 #[.pointer (some ⟨b, 0, none⟩)] w (NumsPost b [2] w) := by
  go_enter Tryd.func30, Tryd.ntmps30
  go_wp2
  go_ret
  exact ⟨some ⟨w.heap.size, 0, none⟩, 1, 1, rfl, rfl, rp_new (w := w), (Below.refl _ w).alloc (Nat.le_refl _) _⟩
set_option maxHeartbeats 1000000 in
theorem lay_dense (b : Nat) (w : World) (hc : w.cell? ⟨b, 0, none⟩ = some (.int .i64 4)) :
    Calls Tryd.prog 30 #[.pointer (some ⟨b, 0, none⟩)] w (NumsPost b [1] w) := by
  go_enter Tryd.func30, Tryd.ntmps30
  go_wp2
  go_ret
  exact ⟨some ⟨w.heap.size, 0, none⟩, 1, 1, rfl, rfl, rp_new (w := w), (Below.refl _ w).alloc (Nat.le_refl _) _⟩
set_option maxHeartbeats 1000000 in
theorem lay_none (k : Int) (b : Nat) (w : World) (hc : w.cell? ⟨b, 0, none⟩ = some (.int .i64 k)) (h1 : (k == 1) = false) (h3 : (k == 3) = false) (h4 : (k == 4) = false) :
    Calls Tryd.prog 30 #[.pointer (some ⟨b, 0, none⟩)] w (NumsPost b [] w) := by
  go_enter Tryd.func30, Tryd.ntmps30
  go_wp2
  go_ret
  exact ⟨none, 0, 0, rfl, rfl, fun h => absurd h (by simp), Below.refl _ _⟩
theorem ne_beq {a b : Int} (h : ¬ a = b) : (a == b) = false := by simpa using h
theorem lay_numbers (k : Int) (b : Nat) (w : World) (hc : w.cell? ⟨b, 0, none⟩ = some (.int .i64 k)) :
    Calls Tryd.prog 30 #[.pointer (some ⟨b, 0, none⟩)] w (NumsPost b (offs k) w) := by
  unfold offs
  by_cases h1 : k = 1
  · subst h1; rw [if_pos rfl]; exact lay_conv b w hc
  · rw [if_neg h1]
    by_cases h3 : k = 3
    · subst h3; rw [if_pos rfl]; exact lay_pool b w hc
    · rw [if_neg h3]
      by_cases h4 : k = 4
      · subst h4; rw [if_pos rfl]; exact lay_dense b w hc
      · rw [if_neg h4]; exact lay_none k b w hc (ne_beq h1) (ne_beq h3) (ne_beq h4)

/-- The numbers that pointers point to. -/
def valsAt (l : List Int) (os : List Nat) : List Int := os.map fun o => l.getD o 0
theorem win_lo {n : Int} (h : n < 0) : winB n = false := by unfold winB; have : decide (0 ≤ n) = false := by simp; omega
                                                            rw [this]; rfl
theorem win_hi {n : Int} (h : 999999 < n) : winB n = false := by unfold winB; have : decide (n ≤ 999999) = false := by simp; omega
                                                                 rw [this]; simp

theorem vals_len (l : List Int) (os : List Nat) : (valsAt l os).length = os.length := by simp [valsAt]
theorem vals_get {l : List Int} {os : List Nat} {k : Nat} (h : k < os.length) : (valsAt l os)[k]? = some (l.getD (os.getD k 0) 0) := by
  simp [valsAt, List.getD_eq_getElem?_getD, h]
theorem take_get {α : Type} {xs : List α} {k : Nat} {x : α} (h : xs[k]? = some x) : xs.take (k + 1) = xs.take k ++ [x] := by
  obtain ⟨hk, e⟩ := List.getElem?_eq_some_iff.1 h
  rw [List.take_succ_eq_append_getElem hk, e]
theorem all_no {α : Type} {p : α → Bool} {xs : List α} {k : Nat} {x : α} (h : xs[k]? = some x) (hx : p x = false) : xs.all p = false := by
  rw [List.all_eq_false]; exact ⟨x, List.mem_of_getElem? h, by simp [hx]⟩

set_option maxHeartbeats 1000000 in
theorem within_any (F b T : Nat) (l : List Int) (os : List Nat) (w : World) (hI : IB w b T l) (ho : ∀ o ∈ os, o < l.length) (hlen : os.length ≤ 1000)
    (hE : ∀ args w, Sem.run Tryd.prog (callFunc F args) w = .ok (.enter F args) w)
    (hN : ∀ w, IB w b T l → Calls Tryd.prog F #[.pointer (some ⟨b, 0, none⟩)] w (NumsPost b os w)) :
    Calls Tryd.prog 24 #[.func (.func F) #[.pointer (some ⟨b, 0, none⟩)] #[]] w fun e w' => e = .returned (.bool ((valsAt l os).all winB)) ∧ Below w.heap.size w w' := by
  have HI := Lib.hid hI; have HO := Lib.hid ho; have HN := Lib.hid hN; clear hI ho hN
  go_enter Tryd.func24, Tryd.ntmps24
  go_wp2_with fail
  refine (HN.out w HI.out).mono ?_
  rintro e w1 ⟨A, k0, n, rfl, hn, hR, hb⟩
  have HR := Lib.hid hR; have HB := Lib.hid hb; have HL := Lib.hid hn
  have hn1 : n ≤ 1000 := by omega
  clear hR hb hn
  go_wp2_with fail
  go_loop [8] (fun i => ∃ k : Nat, k ≤ n ∧ i = .int .i64 k ∧ Hid (((valsAt l os).take k).all winB = true)) (fun i => n - (intOf i).toNat)
  case atStart => exact ⟨0, Nat.zero_le _, rfl, rfl⟩
  case round =>
    obtain ⟨k, hk, rfl, HA⟩ := hrel
    by_cases hlt : k < n
    · have hko : k < os.length := by rw [← HL.out]; exact hlt
      obtain ⟨g, rfl, _, hg⟩ := HR.out (by omega)
      have c1 := pc_cell hg hko
      obtain ⟨o, hoe⟩ : ∃ o, o = os.getD k 0 := ⟨_, rfl⟩
      have hom : o < l.length := HO.out o (by rw [hoe]; simp [List.getD_eq_getElem?_getD, hko])
      have c2 := (HI.out.below HB.out).cell hom
      obtain ⟨x, hxe⟩ : ∃ x, x = l.getD o 0 := ⟨_, rfl⟩
      have hv : (valsAt l os)[k]? = some x := by rw [vals_get hko, ← hoe, ← hxe]
      rw [← hoe] at c1
      rw [← hxe] at c2
      have HV := Lib.hid hv
      clear hv hoe hxe hg hom
      by_cases h0 : x < 0
      · have HW := Lib.hid (all_no HV.out (win_lo h0))
        have d0 : decide (x < 0) = true := by simpa using h0
        go_wp2_with fail
        go_ret
        exact ⟨ret_bool HW.out.symm, HB.out⟩
      · have d0 : decide (x < 0) = false := by simpa using h0
        by_cases h1 : 999999 < x
        · have HW := Lib.hid (all_no HV.out (win_hi h1))
          have d1 : decide (999999 < x) = true := by simpa using h1
          go_wp2_with fail
          go_ret
          exact ⟨ret_bool HW.out.symm, HB.out⟩
        · have d1 : decide (999999 < x) = false := by simpa using h1
          have HT : Hid (((valsAt l os).take (k + 1)).all winB = true) := by
            show _ = true
            rw [take_get HV.out, List.all_append, HA.out]; simp [win_mk (n := x) (by omega) (by omega)]
          go_wp2_with fail
          go_round
          case rel => exact ⟨k + 1, by omega, by go_num, HT⟩
          case measure => simp [intOf]; omega
    · obtain rfl : k = n := by omega
      have hall := HA.out
      rw [HL.out, ← vals_len l os, List.take_length] at hall
      have HW := Lib.hid hall
      clear hall
      go_wp2_with fail
      go_ret
      exact ⟨ret_bool HW.out.symm, HB.out⟩

/-- Numbers put into places. -/
def putL (l : List Int) : List Nat → List Int → List Int
  | o :: os, v :: vs => putL (l.set o v) os vs
  | _, _ => l
theorem put_len : ∀ (os : List Nat) (vs : List Int) (l : List Int), (putL l os vs).length = l.length
  | [], _, _ => by simp [putL]
  | _ :: _, [], _ => by simp [putL]
  | o :: os, v :: vs, l => by simp only [putL]; rw [put_len os vs]; simp
theorem put_snoc : ∀ (os : List Nat) (vs : List Int) (l : List Int) (o : Nat) (v : Int), os.length = vs.length → putL l (os ++ [o]) (vs ++ [v]) = (putL l os vs).set o v
  | [], [], _, _, _, _ => rfl
  | [], _ :: _, _, _, _, h => by simp at h
  | _ :: _, [], _, _, _, h => by simp at h
  | a :: os, b :: vs, l, o, v, h => by
    simp only [List.cons_append, putL]
    exact put_snoc os vs _ o v (by simpa using h)
theorem ic_set (l : List Int) (o : Nat) (v : Int) : (ic l).setIfInBounds o (.int .i64 v) = ic (l.set o v) := by
  unfold ic
  simp
theorem IB.set {w : World} {b T : Nat} {l : List Int} (h : IB w b T l) (o : Nat) (v : Int) : IB (w.setCell ⟨b, o, none⟩ (.int .i64 v)) b T (l.set o v) := by
  unfold IB
  rw [← ic_set]
  exact Lib.heap_setCell_same (i := o) h _

/-- What a row of words tells to numbers. -/
def readB (ws : List (List UInt8)) (os : List Nat) : Bool := (ws.length == os.length) && ws.all getB
def ReadPost (ws : List (List UInt8)) (b T : Nat) (l : List Int) (os : List Nat) (w : World) (e : Ending) (w' : World) : Prop :=
  ∃ l', e = .returned (.bool (readB ws os)) ∧ IB w' b T l' ∧ l'.length = l.length ∧ (readB ws os = true → l' = putL l os (ws.map getN)) ∧ Below b w w'
theorem get_some {xs : List (List UInt8)} {k : Nat} (h : k < xs.length) : xs[k]? = some (xs.getD k []) := by
  rw [List.getElem?_eq_getElem h]; simp [List.getD_eq_getElem?_getD, h]
theorem get_nat {xs : List Nat} {k : Nat} (h : k < xs.length) : xs[k]? = some (xs.getD k 0) := by
  rw [List.getElem?_eq_getElem h]; simp [List.getD_eq_getElem?_getD, h]

set_option maxHeartbeats 2000000 in
theorem read_any (F b T : Nat) (l : List Int) (os : List Nat) (ws : List (List UInt8)) (A : Option Addr) (cA n : Nat) (w0 w : World) (hT : Tab w0) (hX : Rd w0 A ws) (ln : n = ws.length) (hn : n ≤ 1000000)
    (hB : Below w0.heap.size w0 w) (hb : w0.heap.size ≤ b) (hI : IB w b T l) (ho : ∀ o ∈ os, o < l.length) (hlen : os.length ≤ 1000)
    (hE : ∀ args w, Sem.run Tryd.prog (callFunc F args) w = .ok (.enter F args) w)
    (hN : ∀ w, IB w b T l → Calls Tryd.prog F #[.pointer (some ⟨b, 0, none⟩)] w (NumsPost b os w)) :
    Calls Tryd.prog 36 #[.slice A n cA, .func (.func F) #[.pointer (some ⟨b, 0, none⟩)] #[]] w (ReadPost ws b T l os w) := by
  have HI := Lib.hid hI; have HO := Lib.hid ho; have HN := Lib.hid hN; have HT := Lib.hid hT; have HX := Lib.hid hX; have LX := Lib.hid ln; have HB := Lib.hid hB
  clear hI ho hN hT hX ln hB
  have hbw := HI.out.lt
  go_enter Tryd.func36, Tryd.ntmps36
  go_wp2_with fail
  refine (HN.out w HI.out).mono ?_
  rintro e w1 ⟨A1, k0, m, rfl, hm, hR, hb1⟩
  have HR := Lib.hid hR; have HB1 := Lib.hid hb1; have HM := Lib.hid hm
  have hI1 := HI.out.below hb1
  have HI1 := Lib.hid hI1
  have hm1 : m ≤ 1000 := by omega
  have hs1 := hb1.size
  clear hR hb1 hm hI1
  by_cases hnm : n = m
  · subst hnm
    go_wp2_with fail
    go_loopw [19] (fun i wr => ∃ k : Nat, k ≤ n ∧ i = .int .i64 k ∧ Hid ((ws.take k).all getB = true) ∧ Hid (IB wr b T (putL l (os.take k) ((ws.take k).map getN))) ∧ Hid (Rp w.heap.size wr A1 b os) ∧ Hid (Below b w wr)) (fun i _ => n - (intOf i).toNat)
    case atStart => exact ⟨0, Nat.zero_le _, rfl, rfl, HI1.out, HR.out, HB1.out.mono (by omega)⟩
    case round =>
      obtain ⟨k, hk, rfl, HA, HJ, HP, HC⟩ := hrel
      by_cases hlt : k < n
      · have hko : k < os.length := by rw [← HM.out]; exact hlt
        have hkw : k < ws.length := by rw [← LX.out]; exact hlt
        obtain ⟨g, rfl, hgB, hg⟩ := HP.out (by omega)
        have c1 := pc_cell hg hko
        have HG := Lib.hid hg
        obtain ⟨o, hoe⟩ : ∃ o, o = os.getD k 0 := ⟨_, rfl⟩
        have hom : o < l.length := HO.out o (by rw [hoe]; simp [List.getD_eq_getElem?_getD, hko])
        rw [← hoe] at c1
        have HOe : Hid (os.take (k + 1) = os.take k ++ [o]) := by show _ = _; rw [hoe]; exact take_get (get_nat hko)
        obtain ⟨b1, o1, rfl, l1, d1⟩ := HX.out (by omega)
        have hb0 : Below w0.heap.size w0 wr := HB.out.trans (HC.out.mono hb)
        obtain ⟨x, hxe⟩ : ∃ x : List UInt8, x = ws.getD k [] := ⟨_, rfl⟩
        have c2 : wr.cell? ⟨b1, o1 + k, none⟩ = some (.string (ba x)) := by
          rw [hb0.cell (p := ⟨b1, o1 + k, none⟩) l1, d1 k hkw, hxe]
        have HXe : Hid (ws[k]? = some x) := by show _ = _; rw [hxe]; exact get_some hkw
        have HTr : Hid (Tab wr) := Joins.tab_stays pow_global HT.out hb0 (Nat.le_refl _)
        have hgr : g < wr.heap.size := (Array.getElem?_eq_some_iff.1 hg).1
        have hbr := HJ.out.lt
        clear d1 hb0 hxe hoe hg
        go_wp2_with fail
        refine (get_any (ba x) wr HTr.out).mono ?_
        rintro e w2 ⟨rfl, hb2⟩
        rw [bl_ba]
        have HJ2 := Lib.hid (HJ.out.below hb2)
        have HP2 : Hid (w2.heap[g]? = some (.cells (pc b os) 71 (0, 0))) := (hb2.block g hgr).trans HG.out
        have HC2 := Lib.hid (HC.out.trans (hb2.mono (by omega)))
        have hs2 := hb2.size
        have f2 : w2.frozen? ⟨b, o, none⟩ = false := Lib.frozen_of_heap HJ2.out o
        have e2 := HJ2.out.cell (j := o) (by rw [put_len]; exact hom)
        have HD2 := Lib.hid e2
        clear hb2 c1 c2 HJ HP HC HG HTr
        cases hg : getB x
        · have HW : Hid (readB ws os = false) := by
            show _ = false
            unfold readB
            rw [all_no HXe.out hg, Bool.and_false]
          clear hg e2
          go_wp2_with fail
          go_ret
          exact ⟨_, ret_bool HW.out.symm, HJ2.out, put_len _ _ _, fun h => absurd (HW.out.symm.trans h) (by decide), HC2.out⟩
        · have HA2 : Hid ((ws.take (k + 1)).all getB = true) := by
            show _ = true
            rw [take_get HXe.out, List.all_append, HA.out]; simp [hg]
          have HS : Hid (putL l (os.take (k + 1)) ((ws.take (k + 1)).map getN) = (putL l (os.take k) ((ws.take k).map getN)).set o (getN x)) := by
            show _ = _
            rw [HOe.out, take_get HXe.out, List.map_append]
            exact put_snoc _ _ _ _ _ (by rw [List.length_map, List.length_take, List.length_take]; omega)
          clear hg
          go_wp2_with fail
          go_roundw
          case rel => exact ⟨k + 1, by omega, by go_num, HA2, by rw [HS.out]; exact HJ2.out.set o _, fun _ => ⟨g, rfl, hgB, by rw [Below.heap_setCell _ _ _ _ (by show g ≠ b; omega)]; exact HP2.out⟩, HC2.out.setCell (p := ⟨b, o, none⟩) (Nat.le_refl _) _⟩
          case measure => simp [intOf]; omega
      · obtain rfl : k = n := by omega
        have hall := HA.out
        have hJ := HJ.out
        have hk1 : os.take k = os := by rw [HM.out]; exact List.take_length
        have hk2 : ws.take k = ws := by rw [LX.out]; exact List.take_length
        rw [hk2] at hall hJ
        rw [hk1] at hJ
        have HW : Hid (readB ws os = true) := by
          show _ = true
          unfold readB
          rw [hall, ← LX.out, ← HM.out]; simp
        have HJ2 := Lib.hid hJ
        clear hall hJ hk1 hk2
        go_wp2_with fail
        go_ret
        exact ⟨_, ret_bool HW.out.symm, HJ2.out, put_len _ _ _, fun _ => rfl, HC.out⟩
  · have HW : Hid (readB ws os = false) := by
      show _ = false
      unfold readB
      have : (ws.length == os.length) = false := by rw [← LX.out, ← HM.out]; simpa using hnm
      rw [this]; rfl
    go_wp2_with fail
    go_ret
    exact ⟨l, ret_bool HW.out.symm, HI1.out, rfl, fun h => absurd (HW.out.symm.trans h) (by decide), HB1.out.mono (by omega)⟩

end Go.Proofs.YtmlflmlgjjjmfaaDoor
