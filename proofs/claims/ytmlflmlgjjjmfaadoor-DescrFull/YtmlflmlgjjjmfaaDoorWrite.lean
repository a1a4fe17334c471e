/-
  What 'write' answers of a word and numbers, 'formed' of a layer, 'kindOf' of a word.
-/
import Derived.Test.YtmlflmlgjjjmfaaDoorPtr
import Derived.LoopN
namespace Go.Proofs.YtmlflmlgjjjmfaaDoor
open Go.RowKit

theorem own_ne_cells {w : World} {B n k T : Nat} {cs : Array Value} {v : Value} {xs : List Value} (h : w.ownsRow B 9 1 v n xs) (hk : w.heap[k]? = some (.cells cs T (0, 0))) (hT : T ≠ 9) : v.ownBlock ≠ some k := by
  rcases h.2 with ⟨rfl, _⟩ | ⟨g, cap, cur, rfl, _, hh, _⟩
  · simp [Value.ownBlock]
  · intro he
    have : g = k := by simpa [Value.ownBlock] using he
    subst this
    rw [hh] at hk
    cases hk
    exact hT rfl
theorem bulk_line (w : List UInt8) (ns : List Int) (hw : w.length ≤ 1000) (hn : ns.length ≤ 1000) : bulk (w :: ns.map numL) ≤ 100000 := by
  have h : ∀ ns : List Int, bulk (ns.map numL) ≤ 7 * ns.length := by
    intro ns
    induction ns with
    | nil => simp [bulk]
    | cons n ns ih =>
      have := num_len n
      simp only [List.map_cons, List.length_cons, bulk, List.sum_cons] at ih ⊢
      omega
  have := h ns
  simp only [bulk, List.map_cons, List.sum_cons] at this ⊢
  omega

set_option maxHeartbeats 2000000 in
theorem write_any (F b T : Nat) (l : List Int) (os : List Nat) (s : ByteArray) (w : World) (hT : Tab w) (hI : IB w b T l) (ho : ∀ o ∈ os, o < l.length) (hlen : os.length ≤ 1000) (hs : s.size ≤ 1000)
    (hE : ∀ args w, Sem.run Tryd.prog (callFunc F args) w = .ok (.enter F args) w)
    (hN : ∀ w, IB w b T l → Calls Tryd.prog F #[.pointer (some ⟨b, 0, none⟩)] w (NumsPost b os w)) :
    Calls Tryd.prog 29 #[.string s, .func (.func F) #[.pointer (some ⟨b, 0, none⟩)] #[]] w fun e w' => e = .returned (.string (ba (lineW (bl s) (valsAt l os)))) ∧ Below w.heap.size w w' := by
  obtain ⟨i0, hi, hz0, hz1, hz2⟩ := info_parts Tryd.info9
  have HI := Lib.hid hI; have HO := Lib.hid ho; have HN := Lib.hid hN; have HT := Lib.hid hT
  clear hI ho hN hT
  have hbw := HI.out.lt
  go_enter Tryd.func29, Tryd.ntmps29
  go_wp2_with fail
  refine (HN.out _ (HI.out.below ((Below.refl _ w).alloc (Nat.le_refl _) _))).mono ?_
  rintro e w1 ⟨A1, k0, m, rfl, hm, hR, hb1⟩
  have HR := Lib.hid hR; have HM := Lib.hid hm
  have HB1 := Lib.hid (((Below.refl w.heap.size w).alloc (Nat.le_refl _) (.cells #[.string s] 9)).trans (hb1.mono (by simp)))
  have hm1 : m ≤ 1000 := by omega
  have HS0 : Hid (w1.heap[w.heap.size]? = some (.cells #[.string s] 9 (0, 0))) := by
    show _ = _
    rw [hb1.block w.heap.size (by simp)]
    show (w.heap.push _)[w.heap.size]? = _
    simp
  clear hR hb1 hm
  go_wp2_with fail
  go_loopw [5, 13] (fun v i wr => ∃ k : Nat, k ≤ m ∧ i = .int .i64 k ∧ Hid (wr.ownsRow w.heap.size 9 1 v (k + 1) (cellsOf (bl s :: ((valsAt l os).take k).map numL))) ∧ Hid (Rp 0 wr A1 b os) ∧ Hid (Below w.heap.size w wr)) (fun _ i _ => m - (intOf i).toNat)
  case atStart =>
    refine ⟨0, Nat.zero_le _, rfl, ⟨rfl, .inr ⟨w.heap.size, 1, #[.string s], rfl, Nat.le_refl _, HS0.out, Nat.le_refl _, by decide, rfl, ?_⟩⟩, fun h0 => ?_, HB1.out⟩
    · simp [cellsOf, ba_bl]
    · obtain ⟨g, e, _, hg⟩ := HR.out h0
      exact ⟨g, e, Nat.zero_le _, hg⟩
  case round =>
    obtain ⟨k, hk, rfl, HW, HP, HC⟩ := hrel
    by_cases hlt : k < m
    · have hko : k < os.length := by rw [← HM.out]; exact hlt
      obtain ⟨g, rfl, _, hg⟩ := HP.out (by omega)
      have c1 := pc_cell hg hko
      have HG := Lib.hid hg
      obtain ⟨o, hoe⟩ : ∃ o, o = os.getD k 0 := ⟨_, rfl⟩
      have hom : o < l.length := HO.out o (by rw [hoe]; simp [List.getD_eq_getElem?_getD, hko])
      obtain ⟨x, hxe⟩ : ∃ x, x = l.getD o 0 := ⟨_, rfl⟩
      have c2 := (HI.out.below HC.out).cell hom
      have HV : Hid ((valsAt l os)[k]? = some x) := by show _ = _; rw [vals_get hko, ← hoe, ← hxe]
      rw [← hoe] at c1
      rw [← hxe] at c2
      have HTr : Hid (Tab wr) := HT.out.below HC.out
      have hgr : g < wr.heap.size := (Array.getElem?_eq_some_iff.1 hg).1
      clear hg hoe hxe
      go_wp2_with fail
      refine (number_any x wr HTr.out).mono ?_
      rintro e w2 ⟨rfl, hb2⟩
      have HO2 := Lib.hid (own_below HW.out hb2)
      have HG2 : Hid (w2.heap[g]? = some (.cells (pc b os) 71 (0, 0))) := (hb2.block g hgr).trans HG.out
      have HC2 := Lib.hid (HC.out.trans (hb2.mono HC.out.size))
      have hw2 : g < w2.heap.size := by have := hb2.size; omega
      have hw3 : w.heap.size ≤ w2.heap.size := HC2.out.size
      obtain ⟨t, HTt⟩ : ∃ t, Hid (t = ba (numL x)) := ⟨_, rfl⟩
      rw [← HTt.out]
      clear hb2 HW HP HC HG c1 c2 HTr
      go_wp2_with (at_builtin; refine wpList_append_own _ rfl _ _ 35 rfl w.heap.size 9 i0 (.string ⟨#[]⟩) 1 16 Tryd.underlying35 hi hz0 hz1 hz2 rfl (by decide) _ _ _ rfl (HO2.out.alloc _) ⟨w2.heap.size, 0, none⟩ 1 1 [.string t] rfl rfl ?c1 ?c2 ?c3 ?c4 ?c5 ?_)
      case c1 =>
        intro j u hj
        match j, hj with
        | 0, hj => simp at hj; subst hj; simp [Addr.add]
      case c2 => intro u hu; simp at hu; subst hu; rfl
      case c3 => unfold maxLen; omega
      case c4 => omega
      case c5 => simp; omega
      intro v' w4 hown2 hgrow _
      have HO4 : Hid (w4.ownsRow w.heap.size 9 1 v' (k + 1 + 1) (cellsOf (bl s :: ((valsAt l os).take (k + 1)).map numL))) := by
        show w4.ownsRow _ _ _ _ _ _
        rw [take_get HV.out, List.map_append, ← List.cons_append, cellsOf_append]
        have : cellsOf ([x].map numL) = [.string t] := by rw [HTt.out]; rfl
        rw [this, List.map_take]
        exact hown2
      have HB4 : Hid (Below w.heap.size w w4) := (HC2.out.alloc (by omega) _).grown hgrow (by simp; omega) (fun q hqq => (HO2.out.lt _ hqq).1)
      have HG4 : Hid (w4.heap[g]? = some (.cells (pc b os) 71 (0, 0))) := by
        show _ = _
        rw [hgrow.block g (by simp; omega) (fun e => own_ne_cells HO2.out HG2.out (by decide) e.symm), Lib.alloc_old w2 _ _ hw2]
        exact HG2.out
      clear hown2 hgrow HO2 HC2 HG2
      go_wp2_with fail
      go_roundw
      case rel => exact ⟨k + 1, by omega, by go_num, HO4, fun _ => ⟨g, rfl, Nat.zero_le _, HG4.out⟩, HB4⟩
      case measure => simp [intOf]; omega
    · obtain rfl : k = m := by omega
      have hO := HW.out
      have hk1 : (valsAt l os).take k = valsAt l os := by rw [HM.out, ← vals_len l os]; exact List.take_length
      rw [hk1] at hO
      obtain ⟨A2, c2, rfl, hn2, hR2⟩ := own_row hO
      have HR2 := Lib.hid hR2
      have HN2 := Lib.hid hn2
      have HK := Lib.hid (bulk_line (bl s) (valsAt l os) (by rw [← size_bl]; exact hs) (by rw [vals_len]; exact hlen))
      clear hO hk1 hR2 hn2 HW
      go_wp2_with fail
      refine (join_any A2 c2 (k + 1) _ wr HR2.out HN2.out HK.out).mono ?_
      rintro e w5 ⟨rfl, hb5⟩
      have HB5 := Lib.hid (HC.out.trans (hb5.mono HC.out.size))
      clear hb5
      go_wp2_with fail
      go_ret
      exact ⟨rfl, HB5.out⟩

theorem ly_eq (a b c d e f g h : Int) (w : World) (r : Bool) (hr : (a == e && (b == f && (c == g && d == h))) = r) :
    (binOp .eql 57 (.agg #[.int .i64 a, .int .i64 b, .int .i64 c, .int .i64 d]) (.agg #[.int .i64 e, .int .i64 f, .int .i64 g, .int .i64 h])).run Tryd.prog w = .ok (.bool r) w := by
  rw [← hr]
  cases h1 : a == e <;> cases h2 : b == f <;> cases h3 : c == g <;> cases h4 : d == h <;> go_simp <;> simp_all

theorem enter30 : ∀ args w, Sem.run Tryd.prog (callFunc 30 args) w = .ok (.enter 30 args) w := fun args w => by go_simp
theorem enter25 : ∀ args w, Sem.run Tryd.prog (callFunc 25 args) w = .ok (.enter 25 args) w := fun args w => by go_simp
theorem ib_box (w : World) (T : Nat) (l : List Int) : IB (w.alloc (.cells (ic l) T)) w.heap.size T l := by
  show (w.heap.push _)[w.heap.size]? = _
  simp
theorem offs_lt {k : Int} : ∀ o ∈ offs k, o < 4 := by
  unfold offs
  split
  · decide
  · split
    · decide
    · split <;> decide
theorem offs_len (k : Int) : (offs k).length ≤ 3 := by
  unfold offs
  split
  · decide
  · split
    · decide
    · split <;> decide
theorem vals_nums (l : Ly) : valsAt [l.k, l.o, l.s, l.t] (offs l.k) = nums l := by
  unfold valsAt offs nums
  split
  · rfl
  · split
    · rfl
    · split <;> rfl
theorem ly_numbers (b : Nat) (k : Int) (r : List Int) : ∀ w, IB w b 57 (k :: r) → Calls Tryd.prog 30 #[.pointer (some ⟨b, 0, none⟩)] w (NumsPost b (offs k) w) :=
  fun w h => lay_numbers k b w (h.cell (j := 0) (by simp))
theorem pic_nums (b : Nat) (l : List Int) : ∀ w, IB w b 53 l → Calls Tryd.prog 25 #[.pointer (some ⟨b, 0, none⟩)] w (NumsPost b [0, 1, 2] w) :=
  fun w _ => pic_numbers b w
theorem ly_within (L : Ly) (b : Nat) (w : World) (h : IB w b 57 [L.k, L.o, L.s, L.t]) :
    Calls Tryd.prog 24 #[.func (.func 30) #[.pointer (some ⟨b, 0, none⟩)] #[]] w fun e w' => e = .returned (.bool ((nums L).all winB)) ∧ Below w.heap.size w w' := by
  have := within_any 30 b 57 [L.k, L.o, L.s, L.t] (offs L.k) w h offs_lt (by have := offs_len L.k; omega) enter30 (ly_numbers b _ _)
  rwa [vals_nums] at this

set_option maxHeartbeats 1000000 in
theorem formed_out (k o s t : Int) (w : World) (h : k ≤ 0 ∨ 5 ≤ k) :
    Calls Tryd.prog 26 #[.agg #[.int .i64 k, .int .i64 o, .int .i64 s, .int .i64 t]] w fun e w' => e = .returned (.bool false) ∧ Below w.heap.size w w' := by
  rcases h with h | h
  · have d1 : decide (k ≤ 0) = true := by simpa using h
    go_enter Tryd.func26, Tryd.ntmps26
    go_wp2_with fail
    go_ret
    exact ⟨rfl, (Below.refl _ w).alloc (Nat.le_refl _) _⟩
  · have d1 : decide (k ≤ 0) = false := by simp; omega
    have d2 : decide (5 ≤ k) = true := by simpa using h
    go_enter Tryd.func26, Tryd.ntmps26
    go_wp2_with fail
    go_ret
    exact ⟨rfl, (Below.refl _ w).alloc (Nat.le_refl _) _⟩

set_option maxHeartbeats 1000000 in
theorem formed_not (k o s t : Int) (w : World) (h1 : 1 ≤ k) (h4 : k ≤ 4) (hw : (nums ⟨k, o, s, t⟩).all winB = false) :
    Calls Tryd.prog 26 #[.agg #[.int .i64 k, .int .i64 o, .int .i64 s, .int .i64 t]] w fun e w' => e = .returned (.bool false) ∧ Below w.heap.size w w' := by
  have d1 : decide (k ≤ 0) = false := by simp; omega
  have d2 : decide (5 ≤ k) = false := by simp; omega
  have HW := Lib.hid hw
  clear hw
  go_enter Tryd.func26, Tryd.ntmps26
  go_wp2_with fail
  refine (ly_within ⟨k, o, s, t⟩ w.heap.size _ (ib_box w 57 [k, o, s, t])).mono ?_
  rintro e w1 ⟨rfl, hb⟩
  rw [HW.out]
  have HB := Lib.hid (((Below.refl w.heap.size w).alloc (Nat.le_refl _) _).trans (hb.mono (by simp)))
  clear hb
  go_wp2_with fail
  go_ret
  exact ⟨rfl, HB.out⟩

theorem ib4 {w : World} {b T : Nat} {k o s t : Int} (h : IB w b T [k, o, s, t]) :
    w.cell? ⟨b, 0, none⟩ = some (.int .i64 k) ∧ w.cell? ⟨b, 1, none⟩ = some (.int .i64 o) ∧ w.cell? ⟨b, 2, none⟩ = some (.int .i64 s) ∧ w.cell? ⟨b, 3, none⟩ = some (.int .i64 t) ∧
    w.frozen? ⟨b, 0, none⟩ = false ∧ w.frozen? ⟨b, 1, none⟩ = false ∧ w.frozen? ⟨b, 2, none⟩ = false ∧ w.frozen? ⟨b, 3, none⟩ = false :=
  ⟨h.cell (j := 0) (by simp), h.cell (j := 1) (by simp), h.cell (j := 2) (by simp), h.cell (j := 3) (by simp), Lib.frozen_of_heap h 0, Lib.frozen_of_heap h 1, Lib.frozen_of_heap h 2, Lib.frozen_of_heap h 3⟩
set_option maxHeartbeats 2000000 in
theorem formed_square (o s t : Int) (w : World) (r : Bool) (hr : (o == 0 && (s == 0 && t == 0)) = r) :
    Calls Tryd.prog 26 #[.agg #[.int .i64 2, .int .i64 o, .int .i64 s, .int .i64 t]] w fun e w' => e = .returned (.bool r) ∧ Below w.heap.size w w' := by
  have q := fun w => ly_eq 2 o s t 2 0 0 0 w r (by rw [← hr]; rfl)
  clear hr
  go_enter Tryd.func26, Tryd.ntmps26
  go_wp2_with fail
  refine (ly_within ⟨2, o, s, t⟩ w.heap.size _ (ib_box w 57 [2, o, s, t])).mono ?_
  rintro e w1 ⟨rfl, hb⟩
  have hI := (ib_box w 57 [2, o, s, t]).below hb
  have HI := Lib.hid hI
  have HB := Lib.hid (((Below.refl w.heap.size w).alloc (Nat.le_refl _) _).trans (hb.mono (by simp)))
  have hs1 := hI.lt
  clear hb hI
  rw [show (nums ⟨2, o, s, t⟩).all winB = true from rfl]
  go_wp2_with fail
  refine (ly_numbers w.heap.size 2 [o, s, t] w1 HI.out).mono ?_
  rintro e w2 ⟨A, c, n, rfl, hn, hR, hb2⟩
  obtain rfl : n = 0 := hn
  obtain ⟨c0, c1, c2, c3, f0, f1, f2, f3⟩ := ib4 (HI.out.below hb2)
  have HB2 := Lib.hid (HB.out.trans (hb2.mono HB.out.size))
  clear hR
  clear hb2 HI HB hs1
  go_wp2_with fail
  refine wp_loop_rounds 1 ?_
  rw [rounds_succ]
  go_wp2
  go_ret
  exact ⟨rfl, HB2.out⟩

set_option maxHeartbeats 2000000 in
theorem formed_conv (o s t : Int) (w : World) (r : Bool) (hr : true = r) (hw : (nums ⟨1, o, s, t⟩).all winB = true) :
    Calls Tryd.prog 26 #[.agg #[.int .i64 1, .int .i64 o, .int .i64 s, .int .i64 t]] w fun e w' => e = .returned (.bool r) ∧ Below w.heap.size w w' := by
  have q := fun w => ly_eq 1 0 0 0 1 0 0 0 w r (by rw [← hr]; rfl)
  have HW := Lib.hid hw
  clear hw hr
  go_enter Tryd.func26, Tryd.ntmps26
  go_wp2_with fail
  refine (ly_within ⟨1, o, s, t⟩ w.heap.size _ (ib_box w 57 [1, o, s, t])).mono ?_
  rintro e w1 ⟨rfl, hb⟩
  have hI := (ib_box w 57 [1, o, s, t]).below hb
  have HI := Lib.hid hI
  have HB := Lib.hid (((Below.refl w.heap.size w).alloc (Nat.le_refl _) _).trans (hb.mono (by simp)))
  have hs1 := hI.lt
  clear hb hI
  rw [HW.out]
  go_wp2_with fail
  refine (ly_numbers w.heap.size 1 [o, s, t] w1 HI.out).mono ?_
  rintro e w2 ⟨A, c, n, rfl, hn, hR, hb2⟩
  obtain rfl : n = 3 := hn
  obtain ⟨c0, c1, c2, c3, f0, f1, f2, f3⟩ := ib4 (HI.out.below hb2)
  have HB2 := Lib.hid (HB.out.trans (hb2.mono HB.out.size))
  obtain ⟨g, rfl, hg0, hg⟩ := hR (by decide)
  have p0 : w2.cell? ⟨g, 0, none⟩ = some (.pointer (some ⟨w.heap.size, 1, none⟩)) := pc_cell hg (j := 0) (by decide)
  have p1 : w2.cell? ⟨g, 1, none⟩ = some (.pointer (some ⟨w.heap.size, 2, none⟩)) := pc_cell hg (j := 1) (by decide)
  have p2 : w2.cell? ⟨g, 2, none⟩ = some (.pointer (some ⟨w.heap.size, 3, none⟩)) := pc_cell hg (j := 2) (by decide)
  have hne : ¬ g = w.heap.size := by omega
  have hne2 : ¬ w.heap.size = g := by omega
  clear hg hg0
  clear hb2 HI HB hs1
  go_wp2_with fail
  refine wp_loop_rounds 4 ?_
  rw [rounds_succ]
  go_wp2
  rw [rounds_succ]
  go_wp2
  rw [rounds_succ]
  go_wp2
  rw [rounds_succ]
  go_wp2
  go_ret
  exact ⟨rfl, (((HB2.out.setCell (p := ⟨w.heap.size, 1, none⟩) (Nat.le_refl _) _).setCell (p := ⟨w.heap.size, 2, none⟩) (Nat.le_refl _) _).setCell (p := ⟨w.heap.size, 3, none⟩) (Nat.le_refl _) _)⟩

set_option maxHeartbeats 2000000 in
theorem formed_pool (o s t : Int) (w : World) (r : Bool) (hr : (o == 0 && t == 0) = r) (hw : (nums ⟨3, o, s, t⟩).all winB = true) :
    Calls Tryd.prog 26 #[.agg #[.int .i64 3, .int .i64 o, .int .i64 s, .int .i64 t]] w fun e w' => e = .returned (.bool r) ∧ Below w.heap.size w w' := by
  have q := fun w => ly_eq 3 o 0 t 3 0 0 0 w r (by rw [← hr]; simp)
  have HW := Lib.hid hw
  clear hw hr
  go_enter Tryd.func26, Tryd.ntmps26
  go_wp2_with fail
  refine (ly_within ⟨3, o, s, t⟩ w.heap.size _ (ib_box w 57 [3, o, s, t])).mono ?_
  rintro e w1 ⟨rfl, hb⟩
  have hI := (ib_box w 57 [3, o, s, t]).below hb
  have HI := Lib.hid hI
  have HB := Lib.hid (((Below.refl w.heap.size w).alloc (Nat.le_refl _) _).trans (hb.mono (by simp)))
  have hs1 := hI.lt
  clear hb hI
  rw [HW.out]
  go_wp2_with fail
  refine (ly_numbers w.heap.size 3 [o, s, t] w1 HI.out).mono ?_
  rintro e w2 ⟨A, c, n, rfl, hn, hR, hb2⟩
  obtain rfl : n = 1 := hn
  obtain ⟨c0, c1, c2, c3, f0, f1, f2, f3⟩ := ib4 (HI.out.below hb2)
  have HB2 := Lib.hid (HB.out.trans (hb2.mono HB.out.size))
  obtain ⟨g, rfl, hg0, hg⟩ := hR (by decide)
  have p0 : w2.cell? ⟨g, 0, none⟩ = some (.pointer (some ⟨w.heap.size, 2, none⟩)) := pc_cell hg (j := 0) (by decide)
  have hne : ¬ g = w.heap.size := by omega
  have hne2 : ¬ w.heap.size = g := by omega
  clear hg hg0
  clear hb2 HI HB hs1
  go_wp2_with fail
  refine wp_loop_rounds 2 ?_
  rw [rounds_succ]
  go_wp2
  rw [rounds_succ]
  go_wp2
  go_ret
  exact ⟨rfl, (HB2.out.setCell (p := ⟨w.heap.size, 2, none⟩) (Nat.le_refl _) _)⟩

set_option maxHeartbeats 2000000 in
theorem formed_dense (o s t : Int) (w : World) (r : Bool) (hr : (s == 0 && t == 0) = r) (hw : (nums ⟨4, o, s, t⟩).all winB = true) :
    Calls Tryd.prog 26 #[.agg #[.int .i64 4, .int .i64 o, .int .i64 s, .int .i64 t]] w fun e w' => e = .returned (.bool r) ∧ Below w.heap.size w w' := by
  have q := fun w => ly_eq 4 0 s t 4 0 0 0 w r (by rw [← hr]; simp)
  have HW := Lib.hid hw
  clear hw hr
  go_enter Tryd.func26, Tryd.ntmps26
  go_wp2_with fail
  refine (ly_within ⟨4, o, s, t⟩ w.heap.size _ (ib_box w 57 [4, o, s, t])).mono ?_
  rintro e w1 ⟨rfl, hb⟩
  have hI := (ib_box w 57 [4, o, s, t]).below hb
  have HI := Lib.hid hI
  have HB := Lib.hid (((Below.refl w.heap.size w).alloc (Nat.le_refl _) _).trans (hb.mono (by simp)))
  have hs1 := hI.lt
  clear hb hI
  rw [HW.out]
  go_wp2_with fail
  refine (ly_numbers w.heap.size 4 [o, s, t] w1 HI.out).mono ?_
  rintro e w2 ⟨A, c, n, rfl, hn, hR, hb2⟩
  obtain rfl : n = 1 := hn
  obtain ⟨c0, c1, c2, c3, f0, f1, f2, f3⟩ := ib4 (HI.out.below hb2)
  have HB2 := Lib.hid (HB.out.trans (hb2.mono HB.out.size))
  obtain ⟨g, rfl, hg0, hg⟩ := hR (by decide)
  have p0 : w2.cell? ⟨g, 0, none⟩ = some (.pointer (some ⟨w.heap.size, 1, none⟩)) := pc_cell hg (j := 0) (by decide)
  have hne : ¬ g = w.heap.size := by omega
  have hne2 : ¬ w.heap.size = g := by omega
  clear hg hg0
  clear hb2 HI HB hs1
  go_wp2_with fail
  refine wp_loop_rounds 2 ?_
  rw [rounds_succ]
  go_wp2
  rw [rounds_succ]
  go_wp2
  go_ret
  exact ⟨rfl, (HB2.out.setCell (p := ⟨w.heap.size, 1, none⟩) (Nat.le_refl _) _)⟩

theorem formed_any (L : Ly) (w : World) :
    Calls Tryd.prog 26 #[.agg #[.int .i64 L.k, .int .i64 L.o, .int .i64 L.s, .int .i64 L.t]] w fun e w' => e = .returned (.bool (lyB L)) ∧ Below w.heap.size w w' := by
  obtain ⟨k, o, s, t⟩ := L
  show Calls Tryd.prog 26 #[.agg #[.int .i64 k, .int .i64 o, .int .i64 s, .int .i64 t]] w _
  by_cases hk : 1 ≤ k ∧ k ≤ 4
  · have hkb : kindB k = true := by unfold kindB; simpa using hk
    cases hw : (nums ⟨k, o, s, t⟩).all winB
    · have : lyB ⟨k, o, s, t⟩ = false := by unfold lyB; rw [hw]; simp
      rw [this]; exact formed_not k o s t w hk.1 hk.2 hw
    · have hl : lyB ⟨k, o, s, t⟩ = restB ⟨k, o, s, t⟩ := by unfold lyB; rw [hw]; simp [hkb]
      rw [hl]
      rcases kind_cases hkb with rfl | rfl | rfl | rfl
      · exact formed_conv o s t w _ rfl hw
      · exact formed_square o s t w _ (by simp [restB, Bool.and_assoc])
      · exact formed_pool o s t w _ rfl hw
      · exact formed_dense o s t w _ rfl hw
  · have : lyB ⟨k, o, s, t⟩ = false := by
      unfold lyB kindB
      by_cases h1 : 1 ≤ k
      · have : decide (k ≤ 4) = false := by simp; omega
        simp [this]
      · simp [h1]
    rw [this]; exact formed_out k o s t w (by omega)

end Go.Proofs.YtmlflmlgjjjmfaaDoor
