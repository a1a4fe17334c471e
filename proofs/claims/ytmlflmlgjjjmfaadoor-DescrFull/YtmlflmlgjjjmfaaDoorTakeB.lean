/-
  What 'take' makes of a text's later lines.
-/
import Derived.Test.YtmlflmlgjjjmfaaDoorTakeA
import Derived.Deep.RegionLaw
namespace Go.Proofs.YtmlflmlgjjjmfaaDoor
open Go.RowKit

theorem Tryd.info42 : (Tryd.prog.info? 42).map (fun i => (i.zero, i.size, i.bytes)) = some (some (.agg #[.int .i64 0, .int .i64 0, .int .i64 0, .int .i64 0]), 4, 32) := by kernel_rfl
theorem okLy_read {l : List UInt8} (i : Nat) (hi : 1 ≤ i) (h : okW l = true) (hk : (kindL (hdW l) == 0) = false) : okAt i l = readB (tlW l) (offs (kindL (hdW l))) := by
  unfold okAt okLy readB
  rw [if_neg (by omega), h, hk]; simp
theorem put_mk {k : Int} {ns : List Int} (hk : kindB k = true) (h : ns.length = (offs k).length) :
    putL [k, 0, 0, 0] (offs k) ns = [(mkL k ns).k, (mkL k ns).o, (mkL k ns).s, (mkL k ns).t] := by
  rcases kind_cases hk with rfl | rfl | rfl | rfl
  · match ns, h with
    | [a, b, c], _ => rfl
  · match ns, h with
    | [], _ => rfl
  · match ns, h with
    | [a], _ => rfl
  · match ns, h with
    | [a], _ => rfl
theorem take_ly_read {l : List UInt8} (hk : (kindL (hdW l) == 0) = false) (h : readB (tlW l) (offs (kindL (hdW l))) = true) {a b c d : Int}
    (e : [a, b, c, d] = putL [kindL (hdW l), 0, 0, 0] (offs (kindL (hdW l))) ((tlW l).map getN)) : lyOf l = ⟨a, b, c, d⟩ := by
  unfold readB at h
  rw [Bool.and_eq_true] at h
  have hl : (tlW l).length = (offs (kindL (hdW l))).length := by simpa using h.1
  rw [put_mk (kindL_kw _ hk).1 (by rw [List.length_map]; exact hl)] at e
  simp only [List.cons.injEq, and_true] at e
  obtain ⟨rfl, rfl, rfl, rfl⟩ := e
  rfl
theorem lcells_snoc (ls : List Ly) (l : Ly) : lcells (ls ++ [l]) = lcells ls ++ [.int .i64 l.k, .int .i64 l.o, .int .i64 l.s, .int .i64 l.t] := by simp [lcells]
theorem own_ne_low {w : World} {B n e s b : Nat} {v : Value} {xs : List Value} (h : w.ownsRow B e s v n xs) (hb : b < B) : some b ≠ v.ownBlock := fun he => by
  have := (h.lt b he.symm).1
  omega

set_option maxHeartbeats 8000000 in
set_option maxRecDepth 100000 in
theorem take_ly (a : Int) (ha : (a == 1) = false) (i : Nat) (hi : 1 ≤ i) (n : Nt) (hn : n.ls.length ≤ 1000) (s : ByteArray) (b B : Nat) (w0 w : World) (hL : Laid w0) (h0 : Below w0.heap.size w0 w) (hb0 : w0.heap.size ≤ b) (hbB : b < B) (hB : B ≤ w.heap.size) (hN : NetAt w b B n) (hs : s.size ≤ 100000) :
    Calls Tryd.prog 21 #[.pointer (some ⟨b, 0, none⟩), .int .i64 a, .string s] w (TakePost b B i n (bl s) w) := by
  obtain ⟨i0, hi0, hz0, hz1, hz2⟩ := info_parts Tryd.info42
  obtain ⟨v, hNB, hOwn⟩ := hN
  have HL := Lib.hid hL; have H0 := Lib.hid h0; have HNB := Lib.hid hNB; have HOwn := Lib.hid hOwn
  obtain ⟨nl, hnl⟩ : ∃ nl, nl = n.ls.length := ⟨_, rfl⟩
  have HNL := Lib.hid hnl
  have hnl2 : nl ≤ 1000 := by omega
  clear hL h0 hNB hOwn hnl hn
  go_enter Tryd.func21, Tryd.ntmps21
  go_wp2_with fail
  refine (words_any s w hs).mono ?_
  rintro e w1 ⟨A, cap, m, rfl, hm, hR, hb, hcap⟩
  have HB := Lib.hid hb; have HR := Lib.hid hR; have HM := Lib.hid hm
  have hs1 := hb.size
  clear hb hR hm
  cases hok : okW (bl s)
  · have HK : Hid (okAt i (bl s) = false) := by show _ = _; unfold okAt okLy; rw [if_neg (by omega), hok]; rfl
    clear hok
    go_wp2_with fail
    go_ret
    exact ⟨ret_bool HK.out.symm, fun h => absurd (HK.out.symm.trans h) (by decide), KeepB.of (b := b) (B := B) (HB.out.mono hB) (by omega)⟩
  · have h1 : 1 ≤ m := by rw [HM.out]; exact words_len hok
    have hm2 : m ≤ 1000000 := by
      rw [HM.out, words_yes hok]
      have := pieces_len (bl s)
      rw [← size_bl] at this
      omega
    obtain ⟨b1, o1, rfl, l1, q⟩ := HR.out (by rw [← HM.out]; omega)
    obtain ⟨t, ht⟩ : ∃ t, t = ba (hdW (bl s)) := ⟨_, rfl⟩
    have c1 : w1.cell? ⟨b1, o1, none⟩ = some (.string t) := by
      rw [ht]; exact q 0 (by rw [← HM.out]; omega)
    have HT := Lib.hid ht
    have HOK := Lib.hid hok
    clear q hok ht
    obtain ⟨A2, c2, hsl, hR2⟩ := cut_words b1 o1 m cap h1 hcap hm2
    have HR2 := Lib.hid (hR2 w1 _ HR.out HM.out.symm)
    have HN1 := Lib.hid (HNB.out.below HB.out)
    have HO1 := Lib.hid (own_belowE HOwn.out HB.out)
    have HL1 := Lib.hid (HL.out.below (H0.out.trans (HB.out.mono (by omega))))
    clear hR2 HNB HOwn
    go_wp2_with fail
    refine (kind_any t w1 HL1.out.2).mono ?_
    rintro e w1' ⟨rfl, rfl⟩
    obtain ⟨k, hk⟩ : ∃ k, k = kindL (bl t) := ⟨_, rfl⟩
    rw [← hk]
    have HKd : Hid (k = kindL (hdW (bl s))) := by show _ = _; rw [hk, HT.out, bl_ba]
    clear hk
    cases hk0 : (k == 0)
    · have hk1 : (k != 0) = true := by simp only [bne, hk0]; rfl
      have HK := Lib.hid (okLy_read i hi HOK.out (by rw [← HKd.out]; exact hk0))
      go_wp2_with fail
      refine (read_any 30 w1.heap.size 57 [k, 0, 0, 0] (offs k) (tlW (bl s)) A2 c2 (m - 1) w1 _ HL1.out.1 HR2.out (by unfold tlW; rw [List.length_drop, ← HM.out]) (by omega) ((Below.refl _ w1).alloc (Nat.le_refl _) _) (Nat.le_refl _) (ib_box w1 57 [k, 0, 0, 0]) offs_lt (by have := offs_len k; omega) enter30 (ly_numbers _ _ _)).mono ?_
      rintro e w2 ⟨l', rfl, hI, hlen, hput, hb2⟩
      obtain ⟨x0, x1, x2, x3, rfl⟩ := len4 hlen
      obtain ⟨p0, p1, p2, p3, _, _, _, _⟩ := ib4 hI
      have hI2 := hI.lt
      have hNB2 : NB w2 b n.c n.h n.x v := (hb2.block b (by omega)).trans (HN1.out.alloc _)
      have HNB2 := Lib.hid hNB2
      obtain ⟨_, _, _, n3⟩ := hNB2.cells
      obtain ⟨_, _, _, f3⟩ := hNB2.frozen
      have HP : Hid (okAt i (bl s) = true → takeL n i (bl s) = ⟨n.c, n.h, n.x, n.ls ++ [⟨x0, x1, x2, x3⟩]⟩) := by
        intro h
        have hz := HKd.out
        rw [hz] at hput hk0
        rw [HK.out] at h
        unfold takeL
        rw [if_neg (by omega), take_ly_read hk0 h (hput h)]
      have hs2 := hb2.size
      have HO2 : Hid (w2.ownsRow B 42 4 v nl (lcells n.ls)) := by
        rw [HNL.out]
        exact own_same HO1.out fun g h1 h2 => (hb2.block g h2).trans (Lib.alloc_old w1 _ g h2)
      have HC2 : Hid (KeepB b B w w2) := KeepB.trans (KeepB.of (b := b) (B := B) ((HB.out.alloc (by omega) _).mono hB) (by omega)) (KeepB.of (b := b) (B := B) (hb2.mono (by omega)) (by omega))
      have hB2 : B ≤ w2.heap.size := by simp at hs2; omega
      have HR0 : Hid (readB (tlW (bl s)) (offs k) = okAt i (bl s)) := by show _ = _; rw [HK.out, ← HKd.out]
      rw [HR0.out]
      clear hI hlen hput hNB2 hb2 hsl HR2 HR HM hk0 hk1 HKd HK HR0 HL1
      have hbl : b < w1.heap.size := by omega
      have hbn : ¬ w1.heap.size = b := by omega
      have hbn2 : ¬ b = w1.heap.size := by omega
      have hb2l : b < w2.heap.size := by omega
      have hb2n : ¬ b = w2.heap.size := by omega
      have hb2m : ¬ w2.heap.size = b := by omega
      have NE1 := Lib.hid (own_ne_low HO2.out hbB)
      have F3 : Hid (∀ o : Obj, (w2.alloc o).drew.frozen? ⟨b, 3, none⟩ = false) := fun o => Lib.frozen_of_heap ((HNB2.out.alloc o).drew) 3
      have N3 : Hid (∀ o : Obj, (w2.alloc o).drew.cell? ⟨b, 3, none⟩ = some v) := fun o => ((HNB2.out.alloc o).drew).cells.2.2.2
      go_wp2_with fail
      go_region_law
        ((refine step_append_lies _ (by rfl) _ _ _ (by rfl) B 42 i0 _ 4 32 Tryd.underlying24 hi0 hz0 hz1 hz2 rfl (by omega) v nl (lcells n.ls) (by rfl) ((HO2.out.alloc _).drew) ⟨w2.heap.size, 0, none⟩ 1 1 [.int .i64 x0, .int .i64 x1, .int .i64 x2, .int .i64 x3] (by rfl) (by rfl) (World.news_of_block (cs := #[.int .i64 x0, .int .i64 x1, .int .i64 x2, .int .i64 x3]) (t := 42) (fr := (0, 0)) (heap_alloc_new w2 _)) (by simp [Value.oneCell']) (by omega) (by unfold maxLen; omega) (by omega) (by simp; omega) (w2.heap.size + 1) (by simp) ?_; intro gg cp w4 hown2 hgrow hat hlt2; have f4 : w4.frozen? ⟨b, 3, none⟩ = false := (hgrow.frozen_far ⟨b, 3, none⟩ (by simp; omega) NE1.out).trans (F3.out _); have n4 : w4.cell? ⟨b, 3, none⟩ = some v := (hgrow.cell_far ⟨b, 3, none⟩ (by simp; omega) NE1.out).trans (N3.out _)))
      all_goals
        have HO4 := Lib.hid hown2
        have HNB4 : Hid (NB w4 b n.c n.h n.x v) := (hgrow.block b (by simp; omega) NE1.out).trans ((HNB2.out.alloc _).drew)
        have HC4 : Hid (KeepB b B w w4) := by
          refine ⟨((HC2.out.1.alloc (by omega) _).drew).grown hgrow (by simp; omega) (fun q hqq => by have := (HO2.out.lt _ hqq).1; omega), fun g h1 h2 => ?_⟩
          rw [hgrow.block g (by simp; omega) (own_ne_low HO2.out h2)]
          exact (Lib.alloc_old w2 _ g (by omega)).trans (HC2.out.2 g h1 h2)
        clear hown2 hgrow hat f4 n4
        go_wp2_with fail
        go_ret
        refine ⟨rfl, fun h => ⟨.slice (some ⟨gg, 0, none⟩) (nl + 1) cp, ?_, ?_⟩, HC4.out.set 3 _⟩
        · rw [HP.out h]
          exact Lib.heap_setCell_same (i := 3) HNB4.out _
        · rw [HP.out h]
          show World.ownsRow _ B 42 4 _ (n.ls ++ [_]).length (lcells (n.ls ++ [_]))
          rw [lcells_snoc, List.length_append, ← HNL.out]
          exact own_same HO4.out fun g h1 h2 => Below.heap_setCell _ _ _ _ (by show g ≠ b; omega)
    · have hk1 : (k != 0) = false := by simp only [bne, hk0]; rfl
      have HK : Hid (okAt i (bl s) = false) := by
        show _ = _
        unfold okAt okLy
        rw [if_neg (by omega)]
        have : (kindL (hdW (bl s)) == 0) = true := by rw [← HKd.out]; exact hk0
        rw [this]; simp
      obtain ⟨w2, hw2⟩ : ∃ w2, w2 = w1.alloc (.cells #[.int .i64 k, .int .i64 0, .int .i64 0, .int .i64 0] 57) := ⟨_, rfl⟩
      have HW2 := Lib.hid hw2
      obtain ⟨x0, x1, x2, x3, hx0, hx1, hx2, hx3⟩ : ∃ x0 x1 x2 x3 : Int, x0 = k ∧ x1 = 0 ∧ x2 = 0 ∧ x3 = 0 := ⟨_, _, _, _, rfl, rfl, rfl, rfl⟩
      have hI : IB w2 w1.heap.size 57 [x0, x1, x2, x3] := by rw [hw2, hx0, hx1, hx2, hx3]; exact ib_box w1 57 [k, 0, 0, 0]
      obtain ⟨p0, p1, p2, p3, _, _, _, _⟩ := ib4 hI
      have hI2 := hI.lt
      have hNB2 : NB w2 b n.c n.h n.x v := by rw [hw2]; exact HN1.out.alloc _
      have HNB2 := Lib.hid hNB2
      obtain ⟨_, _, _, n3⟩ := hNB2.cells
      obtain ⟨_, _, _, f3⟩ := hNB2.frozen
      have HP : Hid (okAt i (bl s) = true → takeL n i (bl s) = ⟨n.c, n.h, n.x, n.ls ++ [⟨x0, x1, x2, x3⟩]⟩) := fun h => absurd (HK.out.symm.trans h) (by decide)
      have HO2 : Hid (w2.ownsRow B 42 4 v nl (lcells n.ls)) := by
        rw [HNL.out, hw2]
        exact HO1.out.alloc _
      have HC2 : Hid (KeepB b B w w2) := by rw [hw2]; exact KeepB.of (b := b) (B := B) ((HB.out.alloc (by omega) _).mono hB) (by omega)
      have hB2 : B ≤ w2.heap.size := by omega
      clear hI hNB2 hsl HR2 HR HM HKd HL1 hw2 hx0 hx1 hx2 hx3
      have hbl : b < w1.heap.size := by omega
      have hbn : ¬ w1.heap.size = b := by omega
      have hbn2 : ¬ b = w1.heap.size := by omega
      have hb2l : b < w2.heap.size := by omega
      have hb2n : ¬ b = w2.heap.size := by omega
      have hb2m : ¬ w2.heap.size = b := by omega
      have NE1 := Lib.hid (own_ne_low HO2.out hbB)
      have F3 : Hid (∀ o : Obj, (w2.alloc o).drew.frozen? ⟨b, 3, none⟩ = false) := fun o => Lib.frozen_of_heap ((HNB2.out.alloc o).drew) 3
      have N3 : Hid (∀ o : Obj, (w2.alloc o).drew.cell? ⟨b, 3, none⟩ = some v) := fun o => ((HNB2.out.alloc o).drew).cells.2.2.2
      go_wp2_with fail
      rw [← HW2.out]
      go_region_law
        ((refine step_append_lies _ (by rfl) _ _ _ (by rfl) B 42 i0 _ 4 32 Tryd.underlying24 hi0 hz0 hz1 hz2 rfl (by omega) v nl (lcells n.ls) (by rfl) ((HO2.out.alloc _).drew) ⟨w2.heap.size, 0, none⟩ 1 1 [.int .i64 x0, .int .i64 x1, .int .i64 x2, .int .i64 x3] (by rfl) (by rfl) (World.news_of_block (cs := #[.int .i64 x0, .int .i64 x1, .int .i64 x2, .int .i64 x3]) (t := 42) (fr := (0, 0)) (heap_alloc_new w2 _)) (by simp [Value.oneCell']) (by omega) (by unfold maxLen; omega) (by omega) (by simp; omega) (w2.heap.size + 1) (by simp) ?_; intro gg cp w4 hown2 hgrow hat hlt2; have f4 : w4.frozen? ⟨b, 3, none⟩ = false := (hgrow.frozen_far ⟨b, 3, none⟩ (by simp; omega) NE1.out).trans (F3.out _); have n4 : w4.cell? ⟨b, 3, none⟩ = some v := (hgrow.cell_far ⟨b, 3, none⟩ (by simp; omega) NE1.out).trans (N3.out _)))
      all_goals
        have HO4 := Lib.hid hown2
        have HNB4 : Hid (NB w4 b n.c n.h n.x v) := (hgrow.block b (by simp; omega) NE1.out).trans ((HNB2.out.alloc _).drew)
        have HC4 : Hid (KeepB b B w w4) := by
          refine ⟨((HC2.out.1.alloc (by omega) _).drew).grown hgrow (by simp; omega) (fun q hqq => by have := (HO2.out.lt _ hqq).1; omega), fun g h1 h2 => ?_⟩
          rw [hgrow.block g (by simp; omega) (own_ne_low HO2.out h2)]
          exact (Lib.alloc_old w2 _ g (by omega)).trans (HC2.out.2 g h1 h2)
        clear hown2 hgrow hat f4 n4
        go_wp2_with fail
        go_ret
        refine ⟨ret_bool HK.out.symm, fun h => ⟨.slice (some ⟨gg, 0, none⟩) (nl + 1) cp, ?_, ?_⟩, HC4.out.set 3 _⟩
        · rw [HP.out h]
          exact Lib.heap_setCell_same (i := 3) HNB4.out _
        · rw [HP.out h]
          show World.ownsRow _ B 42 4 _ (n.ls ++ [_]).length (lcells (n.ls ++ [_]))
          rw [lcells_snoc, List.length_append, ← HNL.out]
          exact own_same HO4.out fun g h1 h2 => Below.heap_setCell _ _ _ _ (by show g ≠ b; omega)

end Go.Proofs.YtmlflmlgjjjmfaaDoor
