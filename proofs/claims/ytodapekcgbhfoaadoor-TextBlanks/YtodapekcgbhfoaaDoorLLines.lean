/-
  The law TextLines, walked.
-/
import Derived.Test.YtodapekcgbhfoaaDoorLWords
import Derived.Maps.AppendAt
namespace Go.Proofs.YtodapekcgbhfoaaDoor
open Go.RowKit

theorem append_nil_run {w : World} {B n c : Nat} {v : Value} {us : List Value} (h : w.ownsRow B 9 1 v n us) (ty : TypeId) :
    (Builtin.append_ #[22, 22] ty #[v, .slice none 0 c]).run Tryd.prog w = .ok v w := by
  obtain ⟨i0, hi, hz0, hz1, hz2⟩ := info_parts Tryd.info9
  rcases h.2 with ⟨rfl, rfl⟩ | ⟨g, cap, cur, rfl, _, _, hnc, _⟩
  · simp [Builtin.append_, run_underlying Tryd.underlying22, sizeOf, typeInfo, hi, Builtin.lenOf, Builtin.firstCells]
  · simp [Builtin.append_, run_underlying Tryd.underlying22, sizeOf, typeInfo, hi, Builtin.lenOf, Builtin.firstCells, hnc, storeCells]

/-- What an append of a whole row onto one that the call has made comes to. -/
theorem append_run {w : World} {B n m : Nat} {v : Value} {xs ys : List (List UInt8)} (h : w.ownsRow B 9 1 v n (cellsOf xs)) (A : Option Addr) (c : Nat) (hy : Rd w A ys) (hm : m = ys.length)
    (hs : n + m ≤ 1000000) (hB : B ≤ w.heap.size) :
    ∃ v' w', (Builtin.append_ #[22, 22] 22 #[v, .slice A m c]).run Tryd.prog w = .ok v' w' ∧ w'.ownsRow B 9 1 v' (n + m) (cellsOf (xs ++ ys)) ∧ Below B w w' := by
  obtain ⟨i0, hi, hz0, hz1, hz2⟩ := info_parts Tryd.info9
  have hrows : ∀ k, v.ownBlock = some k → B ≤ k := fun k hk => (h.lt k hk).1
  rcases A with _ | ad
  · have hy0 : ys = [] := by
      cases ys with
      | nil => rfl
      | cons y ys => obtain ⟨b, off, e, _⟩ := hy (by simp); cases e
    subst hy0
    obtain rfl : m = 0 := hm
    exact ⟨v, w, append_nil_run h 22, by simpa using h, Below.refl _ _⟩
  · have hcells : ∀ j u, (cellsOf ys)[j]? = some u → w.cell? (ad.add j) = some u := fun j u hu => by
      have hj : j < ys.length := by
        have := (List.getElem?_eq_some_iff.1 hu).1
        rwa [cellsOf_length] at this
      obtain ⟨b, off, e, _, hc⟩ := hy (by omega)
      obtain rfl := Option.some.inj e
      exact Rd.cells hc j u hu
    obtain ⟨v', w', hrun, h2, h3, _, _⟩ := run_append_own_at (P := Tryd.prog) w B 22 22 9 i0 (.string ⟨#[]⟩) 1 16 Tryd.underlying22 hi hz0 hz1 hz2 rfl (by decide) v n (cellsOf xs) h ad m c (cellsOf ys) (by rw [cellsOf_length, hm]; simp) hcells (cells_one ys) (by unfold maxLen; omega) (by omega) hB
    exact ⟨v', w', hrun, by rw [cellsOf_append]; exact h2, (Below.refl B w).grown h3 hB hrows⟩

/-- An append whose run is known, under a guard that says yes. -/
theorem wpList_append_run {ops : Array Oper} {rest : List Oper} {o : Oper} {a : Act} {Q : Exit → Act → World → Prop} {w w' : World} {v xv v' : Value} (hw : Region.wanted o (yielded ops a.tmps) = true) (s x : Operand)
    (ho : o.op = .call { callee := .builtin .append, args := #[s, x], argTypes := #[22, 22] }) (hs : a.eval s = v) (hx : a.eval x = xv) (hrun : (Builtin.append_ #[22, 22] 22 #[v, xv]).run Tryd.prog w = .ok v' w')
    (h : wpList Tryd.prog ops Q rest (a.put o.dst v') w') : wpList Tryd.prog ops Q (o :: rest) a w :=
  BigFrame.wpList_want hw fun K hK => by
    have e : Builtin.append_ #[22, 22] o.type #[v, xv] = Builtin.append_ #[22, 22] 22 #[v, xv] := rfl
    unfold Oper.wp execOp
    simp only [ho, resolve, invoke, builtin, Sem.run_bind, Sem.run_pure, Result.andThen_ok, List.map_toArray, List.map_cons, List.map_nil, hs, hx, e, hrun]
    exact hK _ _ h

theorem count_snoc (s : ByteArray) (k : Nat) (h : k < s.size) : ((bl s).take (k + 1)).count 10 = ((bl s).take k).count 10 + if s[k]'h = 10 then 1 else 0 := by
  rw [take_bl s k h, List.count_append, List.count_singleton]
  congr 1
  by_cases e : s[k]'h = 10 <;> simp [e]

theorem own_empty (w : World) : (w.alloc (.cells #[] 9)).ownsRow w.heap.size 9 1 (.slice (some ⟨w.heap.size, 0, none⟩) 0 0) 0 (cellsOf []) :=
  World.ownsRow_lit w #[] 0 (Nat.le_refl _) (by decide) rfl

set_option maxHeartbeats 1000000 in
set_option maxRecDepth 100000 in
theorem lines_in (s t : ByteArray) (w : World) (ht : Tab w) (hs : s.size ≤ 3000) (htt : t.size ≤ 3000) :
    Calls Tryd.prog 6 #[.string s, .string t] w fun e w' => e = .returned (.bool true) ∧ Below w.heap.size w w' := by
  have HT := Lib.hid ht; clear ht
  have ds : decide (3000 < (s.size : Int)) = false := decide_eq_false (by omega)
  have dt : decide (3000 < (t.size : Int)) = false := decide_eq_false (by omega)
  have hlay := lay_cut 10 (bl s)
  have hcount := cut_count 10 (bl s)
  have hfree := (cut_free 10 (bl s)).1
  have hpt := cut_lay 10 (cutF 10 (bl s)).1 (bl t) hfree
  have hcl := List.count_le_length (a := (10 : UInt8)) (l := bl t)
  have hct := cut_count 10 (bl t)
  rw [← hct, ← size_bl] at hcl
  obtain ⟨P, hP⟩ : ∃ P, P = (cutF 10 (bl s)).1 := ⟨_, rfl⟩
  obtain ⟨R, hR⟩ : ∃ R, R = (cutF 10 (bl s)).2 := ⟨_, rfl⟩
  obtain ⟨Q, hQ⟩ : ∃ Q, Q = (cutF 10 (bl t)).1 := ⟨_, rfl⟩
  obtain ⟨E, hE⟩ : ∃ E, E = (cutF 10 (bl t)).2 := ⟨_, rfl⟩
  rw [← hP] at hlay hcount hpt
  rw [← hR] at hlay
  rw [← hQ, ← hE] at hpt
  rw [← hQ] at hcl
  have hbl : bulk P + R.length = s.size := by
    have := congrArg List.length hlay
    rw [List.length_append, bulk_lay, ← size_bl] at this
    exact this
  have LP : Hid (RowT P R = RowT (cutF 10 (bl s)).1 (cutF 10 (bl s)).2) := by rw [hP, hR]; rfl
  have LQ : Hid (RowT Q E = RowT (cutF 10 (bl t)).1 (cutF 10 (bl t)).2) := by rw [hQ, hE]; rfl
  have HL := Lib.hid hlay
  have HC := Lib.hid hcount
  have HPT := Lib.hid hpt
  have hb1 : bulk P ≤ 3000 := by omega
  have hb2 : R.length ≤ 3000 := by omega
  have hpl : P.length ≤ 3000 := by have := bulk_len P; omega
  have hql : Q.length ≤ 3000 := by omega
  clear hlay hcount hfree hpt hP hR hQ hE hbl hct hcl
  have linesS : ∀ w, Calls Tryd.prog 15 #[.string s] w (RowT P R w) := fun w => by rw [LP.out]; exact lines_any s w (by omega)
  have linesT : ∀ w, Calls Tryd.prog 15 #[.string t] w (RowT Q E w) := fun w => by rw [LQ.out]; exact lines_any t w (by omega)
  have HLS := Lib.hid linesS
  have HLT := Lib.hid linesT
  clear linesS linesT LP LQ
  go_enter Tryd.func6, Tryd.ntmps6
  go_wp2_with fail
  refine (head_any _ HT.out).mono ?_
  rintro e w1 ⟨rfl, hb⟩
  have HB1 := Lib.hid hb
  clear hb HT
  go_wp2_with fail
  refine (HLS.out _).mono ?_
  rintro e w2 ⟨A2, c2, n2, rfl, hn, hr, hb⟩
  have HN2 := Lib.hid hn
  have HR2 := Lib.hid hr
  have HB2 := Lib.hid (chain HB1.out hb)
  clear hb hn hr HB1 HLS
  go_wp2_with fail
  refine (text_any A2 c2 n2 P _ HR2.out HN2.out (by omega)).mono ?_
  rintro e w3 ⟨rfl, hb⟩
  have HR3 := Lib.hid (HR2.out.below hb)
  have HB3 := Lib.hid (chain HB2.out hb)
  clear hb HR2 HB2
  obtain ⟨x, HX⟩ : ∃ x, Hid (x = ba (layL 10 P)) := ⟨_, rfl⟩
  obtain ⟨r, HRr⟩ : ∃ r, Hid (r = ba R) := ⟨_, rfl⟩
  rw [← HX.out, ← HRr.out]
  have hx : x.size ≤ 3000 := by rw [HX.out, ba_size, bulk_lay]; exact hb1
  have hr : r.size ≤ 3000 := by rw [HRr.out, ba_size]; exact hb2
  have hq : ((x ++ r).toList == s.toList) = true := text_eq (by rw [bl_add, HX.out, HRr.out, bl_ba, bl_ba]; exact HL.out)
  clear HL
  go_wp2_with fail
  go_loop [8, 9] (fun v i => ∃ k m : Nat, k ≤ s.size ∧ m ≤ k ∧ i = .int .i64 k ∧ v = .int .i64 m ∧ Hid (m = ((bl s).take k).count 10)) (fun _ i => s.size - (intOf i).toNat)
  case atStart => exact ⟨0, 0, Nat.zero_le _, Nat.zero_le _, rfl, rfl, rfl⟩
  case round =>
    obtain ⟨k, m, hk, hmk, rfl, rfl, HM⟩ := hrel
    by_cases hlt : k < s.size
    · have hcs := count_snoc s k hlt
      by_cases e10 : s[k]'hlt = 10
      · have HM2 : Hid (m + 1 = ((bl s).take (k + 1)).count 10) := by
          show _ = _
          rw [hcs, if_pos e10, HM.out]
        have t1 : (((s[k]'hlt).toNat : Int) == 10) = true := by rw [e10]; rfl
        clear hcs e10 HM
        go_wp2_with fail
        go_round
        case rel => exact ⟨k + 1, m + 1, by omega, by omega, by go_num, by go_num, HM2⟩
        case measure => simp [intOf]; omega
      · have HM2 : Hid (m = ((bl s).take (k + 1)).count 10) := by
          show _ = _
          rw [hcs, if_neg e10, HM.out]; rfl
        have t1 : (((s[k]'hlt).toNat : Int) == 10) = false := by
          have : (s[k]'hlt).toNat ≠ 10 := fun e => e10 (UInt8.toNat_inj.1 e)
          simp; omega
        clear hcs e10 HM
        go_wp2_with fail
        go_round
        case rel => exact ⟨k + 1, m, by omega, by omega, by go_num, rfl, HM2⟩
        case measure => simp [intOf]; omega
    · obtain rfl : k = s.size := by omega
      have hm := HM.out
      rw [size_bl, List.take_length, ← HC.out, ← HN2.out] at hm
      have hm2 : n2 = m := hm.symm
      clear hm
      subst hm2
      clear HM HC
      go_wp2_with fail
      refine (text_any A2 c2 n2 P _ HR3.out HN2.out (by omega)).mono ?_
      rintro e w4 ⟨rfl, hb⟩
      have HR4 := Lib.hid (HR3.out.below hb)
      have HB4 := Lib.hid (chain HB3.out hb)
      clear hb HR3 HB3
      rw [← HX.out]
      go_wp2_with fail
      have hxt : (x ++ t).size ≤ 100000 := by rw [ByteArray.size_append]; omega
      have hbx : bl (x ++ t) = layL 10 P ++ bl t := by rw [bl_add, HX.out, bl_ba]
      refine (lines_any (x ++ t) _ hxt).mono ?_
      rintro e w5 ⟨A5, c5, n5, rfl, hn, hr5, hb⟩
      rw [hbx, HPT.out] at hn hr5 ⊢
      have HN5 := Lib.hid hn
      have HR5 := Lib.hid hr5
      have HA5 := Lib.hid (HR4.out.below hb)
      have HB5 := Lib.hid (chain HB4.out hb)
      clear hb hn hr5 HR4 HB4 hbx hxt
      go_wp2_with fail
      refine (HLT.out _).mono ?_
      rintro e w6 ⟨A6, c6, n6, rfl, hn, hr6, hb⟩
      have HN6 := Lib.hid hn
      have HR6 := Lib.hid hr6
      have HA6 := Lib.hid (HA5.out.below hb)
      have HS6 := Lib.hid (HR5.out.below hb)
      have HB6 := Lib.hid (chain HB5.out hb)
      have hn2 : n2 ≤ 3000 := by rw [HN2.out]; exact hpl
      have hn6 : n6 ≤ 3000 := by rw [hn]; exact hql
      clear hb hn hr6 HA5 HR5 HB5
      -- both appends
      have hal := (Below.refl w6.heap.size w6).alloc (Nat.le_refl _) (.cells #[] 9)
      obtain ⟨v7, w7, run7, own7, b7⟩ := append_run (own_empty w6) A2 c2 (HA6.out.below hal) HN2.out (by omega) (by simp)
      rw [Nat.zero_add, List.nil_append] at own7
      have b67 : Below w6.heap.size w6 w7 := hal.trans b7
      obtain ⟨v8, w8, run8, own8, b8⟩ := append_run own7 A6 c6 (HR6.out.below b67) HN6.out (by omega) b67.size
      have b68 : Below w6.heap.size w6 w8 := b67.trans b8
      obtain ⟨A8, c8, rfl, hn8, hr8⟩ := own_row own8
      have HR8 := Lib.hid hr8
      have HN8 := Lib.hid hn8
      have HS8 := Lib.hid (HS6.out.below b68)
      have HB8 := Lib.hid (chain HB6.out b68)
      have RUN7 := Lib.hid run7
      have RUN8 := Lib.hid run8
      have hee : ((ba E).toList == (ba E).toList) = true := by simp
      clear hal own7 b7 b67 own8 b8 b68 hr8 hn8 HA6 HS6 HB6 HR6 run7 run8
      go_wp2_with (first
        | (at_builtin; refine wpList_append_run (by first | (go_simp; done) | (simp [Region.wanted, yielded]; done)) (.tmp 69) (.tmp 70) rfl rfl rfl RUN7.out ?_; clear RUN7)
        | (at_builtin; refine wpList_append_run (by first | (go_simp; done) | (simp [Region.wanted, yielded]; done)) (.tmp 71) (.tmp 72) rfl rfl rfl RUN8.out ?_; clear RUN8))
      refine (same_any A5 A8 c5 c8 n5 (n2 + n6) _ _ _ HS8.out HR8.out HN5.out HN8.out (by rw [HN5.out, List.length_append]; omega) rfl).mono ?_
      rintro e w9 ⟨rfl, hb⟩
      have HB9 := Lib.hid (chain HB8.out hb)
      clear hb
      go_wp2_with fail
      go_ret
      exact ⟨rfl, HB9.out⟩

set_option maxHeartbeats 1000000 in
theorem lines_walk (s t : ByteArray) (w : World) (ht : Tab w) :
    Calls Tryd.prog 6 #[.string s, .string t] w fun e w' => e = .returned (.bool true) ∧ Below w.heap.size w w' := by
  by_cases hs : s.size ≤ 3000
  · by_cases htt : t.size ≤ 3000
    · exact lines_in s t w ht hs htt
    · have ds : decide (3000 < (s.size : Int)) = false := decide_eq_false (by omega)
      have dt : decide (3000 < (t.size : Int)) = true := decide_eq_true (by omega)
      have HT := Lib.hid ht
      clear ht hs htt
      go_enter Tryd.func6, Tryd.ntmps6
      go_wp2_with fail
      refine (head_any _ HT.out).mono ?_
      rintro e w1 ⟨rfl, hb⟩
      have HB1 := Lib.hid hb
      clear hb
      go_wp2_with fail
      go_ret
      exact ⟨rfl, HB1.out⟩
  · have ds : decide (3000 < (s.size : Int)) = true := decide_eq_true (by omega)
    have HT := Lib.hid ht
    clear ht hs
    go_enter Tryd.func6, Tryd.ntmps6
    go_wp2_with fail
    refine (head_any _ HT.out).mono ?_
    rintro e w1 ⟨rfl, hb⟩
    have HB1 := Lib.hid hb
    clear hb
    go_wp2_with fail
    go_ret
    exact ⟨rfl, HB1.out⟩

end Go.Proofs.YtodapekcgbhfoaaDoor
