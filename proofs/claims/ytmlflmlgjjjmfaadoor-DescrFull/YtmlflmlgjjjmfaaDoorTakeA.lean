/-
  What 'take' makes of a text's first line.
-/
import Derived.Test.YtmlflmlgjjjmfaaDoorTake
namespace Go.Proofs.YtmlflmlgjjjmfaaDoor
open Go.RowKit

/-- All blocks ahead of B stay, but block b. -/
def KeepB (b B : Nat) (w w' : World) : Prop := Below b w w' ∧ ∀ g, b < g → g < B → w'.heap[g]? = w.heap[g]?
theorem KeepB.of {b B : Nat} {w w' : World} (h : Below B w w') (hb : b ≤ B) : KeepB b B w w' := ⟨h.mono hb, fun g _ h2 => h.block g h2⟩
theorem KeepB.trans {b B : Nat} {w w' w'' : World} (h : KeepB b B w w') (k : KeepB b B w' w'') : KeepB b B w w'' := ⟨h.1.trans k.1, fun g h1 h2 => (k.2 g h1 h2).trans (h.2 g h1 h2)⟩
theorem KeepB.set {b B : Nat} {w w' : World} (h : KeepB b B w w') (o : Nat) (v : Value) : KeepB b B w (w'.setCell ⟨b, o, none⟩ v) :=
  ⟨h.1.setCell (p := ⟨b, o, none⟩) (Nat.le_refl _) v, fun g h1 h2 => (Below.heap_setCell _ _ _ _ (by show g ≠ b; omega)).trans (h.2 g h1 h2)⟩
theorem KeepB.alloc {b B : Nat} {w w' : World} (h : KeepB b B w w') (hb : b ≤ B) (hB : B ≤ w'.heap.size) (o : Obj) : KeepB b B w (w'.alloc o) :=
  ⟨h.1.alloc (by omega) o, fun g h1 h2 => (Lib.alloc_old w' o g (by omega)).trans (h.2 g h1 h2)⟩

def lcells (ls : List Ly) : List Value := ls.flatMap fun l => [.int .i64 l.k, .int .i64 l.o, .int .i64 l.s, .int .i64 l.t]
/-- A network that is being made: its own cells, and its layers in a row of their own. -/
def NetAt (w : World) (b B : Nat) (n : Nt) : Prop := ∃ v, NB w b n.c n.h n.x v ∧ w.ownsRow B 42 4 v n.ls.length (lcells n.ls)
def TakePost (b B i : Nat) (n : Nt) (l : List UInt8) (w : World) (e : Ending) (w' : World) : Prop :=
  e = .returned (.bool (okAt i l)) ∧ (okAt i l = true → NetAt w' b B (takeL n i l)) ∧ KeepB b B w w'
theorem own_belowE {w w' : World} {B n e s : Nat} {v : Value} {xs : List Value} (h : w.ownsRow B e s v n xs) (hb : Below w.heap.size w w') : w'.ownsRow B e s v n xs := by
  refine ⟨h.1, ?_⟩
  rcases h.2 with h0 | ⟨g, cap, cur, hv, hg, hh, rest⟩
  · exact .inl h0
  · exact .inr ⟨g, cap, cur, hv, hg, (hb.block g (Array.getElem?_eq_some_iff.1 hh).1).trans hh, rest⟩
theorem own_same {w w' : World} {B n e s : Nat} {v : Value} {xs : List Value} (h : w.ownsRow B e s v n xs) (hb : ∀ g, B ≤ g → g < w.heap.size → w'.heap[g]? = w.heap[g]?) : w'.ownsRow B e s v n xs := by
  refine ⟨h.1, ?_⟩
  rcases h.2 with h0 | ⟨g, cap, cur, hv, hg, hh, rest⟩
  · exact .inl h0
  · exact .inr ⟨g, cap, cur, hv, hg, (hb g hg (Array.getElem?_eq_some_iff.1 hh).1).trans hh, rest⟩
theorem NB.frozen {w : World} {b : Nat} {c h x : Int} {v : Value} (H : NB w b c h x v) : w.frozen? ⟨b, 0, none⟩ = false ∧ w.frozen? ⟨b, 1, none⟩ = false ∧ w.frozen? ⟨b, 2, none⟩ = false ∧ w.frozen? ⟨b, 3, none⟩ = false :=
  ⟨Lib.frozen_of_heap H 0, Lib.frozen_of_heap H 1, Lib.frozen_of_heap H 2, Lib.frozen_of_heap H 3⟩
theorem NB.set3 {w : World} {b : Nat} {c h x c' h' x' : Int} {v : Value} (H : NB w b c h x v) :
    NB (((w.setCell ⟨b, 0, none⟩ (.int .i64 c')).setCell ⟨b, 1, none⟩ (.int .i64 h')).setCell ⟨b, 2, none⟩ (.int .i64 x')) b c' h' x' v :=
  Lib.heap_setCell_same (i := 2) (Lib.heap_setCell_same (i := 1) (Lib.heap_setCell_same (i := 0) H _) _) _

/-- All words but the first. -/
theorem cut_words (b1 o1 n cap : Nat) (h1 : 1 ≤ n) (hcap : n ≤ cap) (hn : n ≤ 1000000) :
    ∃ A2 c2, (∀ w, (Instr.slice 35 (.slice (some ⟨b1, o1, none⟩) n cap) (some (.int .i64 1)) none none).run Tryd.prog w = .ok (.slice A2 (n - 1) c2) w) ∧
      (∀ w xs, Rd w (some ⟨b1, o1, none⟩) xs → xs.length = n → Rd w A2 (xs.drop 1)) := by
  by_cases hc : cap = 1
  · subst hc
    obtain rfl : n = 1 := by omega
    refine ⟨some ⟨b1, o1, none⟩, 0, fun w => by go_simp, fun w xs _ hl => ?_⟩
    rw [List.drop_of_length_le (by omega)]
    exact Rd.nil _ _
  · refine ⟨some ⟨b1, o1 + 1, none⟩, cap - 1, fun w => by go_simp; intro h; omega, fun w xs hR hl => ?_⟩
    have := hR.drop (k := 1) (cap := cap) (by omega)
    rwa [if_neg hc] at this

theorem len3 {l : List Int} (h : l.length = 3) : ∃ a b c, l = [a, b, c] := by
  match l, h with
  | [a, b, c], _ => exact ⟨a, b, c, rfl⟩
theorem len4 {l : List Int} (h : l.length = 4) : ∃ a b c d, l = [a, b, c, d] := by
  match l, h with
  | [a, b, c, d], _ => exact ⟨a, b, c, d, rfl⟩
theorem okIn_read {l : List UInt8} (h : okW l = true) (hh : hdW l = inW) : okAt 0 l = readB (tlW l) [0, 1, 2] := by
  unfold okAt okIn readB
  rw [if_pos rfl, h, hh]; simp
theorem take_read {l : List UInt8} (n : Nt) (h : readB (tlW l) [0, 1, 2] = true) {a b c : Int} (e : [a, b, c] = putL [0, 0, 0] [0, 1, 2] ((tlW l).map getN)) : takeL n 0 l = ⟨a, b, c, n.ls⟩ := by
  unfold readB at h
  rw [Bool.and_eq_true] at h
  have hl : (tlW l).length = 3 := by simpa using h.1
  unfold takeL numAt
  rw [if_pos rfl]
  match hq : tlW l, hl with
  | [x, y, z], _ =>
    rw [hq] at e
    simp [putL] at e
    obtain ⟨rfl, rfl, rfl⟩ := e
    rfl
theorem ib3 {w : World} {b T : Nat} {k o s : Int} (h : IB w b T [k, o, s]) :
    w.cell? ⟨b, 0, none⟩ = some (.int .i64 k) ∧ w.cell? ⟨b, 1, none⟩ = some (.int .i64 o) ∧ w.cell? ⟨b, 2, none⟩ = some (.int .i64 s) :=
  ⟨h.cell (j := 0) (by simp), h.cell (j := 1) (by simp), h.cell (j := 2) (by simp)⟩

set_option maxHeartbeats 4000000 in
set_option maxRecDepth 100000 in
theorem take_in (n : Nt) (s : ByteArray) (b B : Nat) (w0 w : World) (hL : Laid w0) (h0 : Below w0.heap.size w0 w) (hb0 : w0.heap.size ≤ b) (hbB : b < B) (hB : B ≤ w.heap.size) (hN : NetAt w b B n) (hs : s.size ≤ 100000) :
    Calls Tryd.prog 21 #[.pointer (some ⟨b, 0, none⟩), .int .i64 1, .string s] w (TakePost b B 0 n (bl s) w) := by
  obtain ⟨v, hNB, hOwn⟩ := hN
  have HL := Lib.hid hL; have H0 := Lib.hid h0; have HNB := Lib.hid hNB; have HOwn := Lib.hid hOwn
  clear hL h0 hNB hOwn
  go_enter Tryd.func21, Tryd.ntmps21
  go_wp2_with fail
  refine (words_any s w hs).mono ?_
  rintro e w1 ⟨A, cap, m, rfl, hm, hR, hb, hcap⟩
  have HB := Lib.hid hb; have HR := Lib.hid hR; have HM := Lib.hid hm
  have hs1 := hb.size
  clear hb hR hm
  cases hok : okW (bl s)
  · have HK : Hid (okAt 0 (bl s) = false) := by show _ = _; unfold okAt okIn; rw [if_pos rfl, hok]; rfl
    clear hok
    go_wp2_with fail
    go_ret
    exact ⟨ret_bool HK.out.symm, fun h => absurd (HK.out.symm.trans h) (by decide), KeepB.of (b := b) (B := B) (HB.out.mono hB) (by omega)⟩
  · have h1 : 1 ≤ m := by rw [HM.out]; exact words_len hok
    have hm2 : m ≤ 1000000 := by
      rw [HM.out, words_yes hok]
      have := pieces_len (bl s)
      rw [← size_bl] at this
      omega
    obtain ⟨b1, o1, rfl, l1, q⟩ := HR.out (by rw [← HM.out]; omega)
    obtain ⟨t, ht⟩ : ∃ t, t = ba (hdW (bl s)) := ⟨_, rfl⟩
    have c1 : w1.cell? ⟨b1, o1, none⟩ = some (.string t) := by
      rw [ht]; exact q 0 (by rw [← HM.out]; omega)
    have HT := Lib.hid ht
    have HOK := Lib.hid hok
    clear q hok ht
    obtain ⟨A2, c2, hsl, hR2⟩ := cut_words b1 o1 m cap h1 hcap hm2
    have HR2 := Lib.hid (hR2 w1 _ HR.out HM.out.symm)
    have HN1 := Lib.hid (HNB.out.below HB.out)
    have HO1 := Lib.hid (own_belowE HOwn.out HB.out)
    clear hR2 HNB HOwn
    cases hin : (t.toList == [105, 110])
    · have HK : Hid (okAt 0 (bl s) = false) := by
        show _ = _
        unfold okAt okIn
        rw [if_pos rfl]
        have : (hdW (bl s) == inW) = false := by
          rw [toList_bl, HT.out, bl_ba] at hin; exact hin
        rw [this]; simp
      have HN2 := Lib.hid (HN1.out.alloc (.cells #[.int .i64 0, .int .i64 0, .int .i64 0] 53))
      obtain ⟨n0, n1, n2, n3⟩ := HN1.out.cells
      obtain ⟨f0, f1, f2, f3⟩ := HN1.out.frozen
      have hbl : b < w1.heap.size := by omega
      have hbn : ¬ w1.heap.size = b := by omega
      clear hsl
      go_wp2_with fail
      go_ret
      exact ⟨ret_bool HK.out.symm, fun h => absurd (HK.out.symm.trans h) (by decide), ((((KeepB.of (b := b) (B := B) (HB.out.mono hB) (by omega)).set 0 _).set 1 _).set 2 _).alloc (by omega) (by simp [World.setCell]; omega) _⟩
    · have hh : hdW (bl s) = inW := by
        rw [toList_bl, HT.out, bl_ba] at hin
        show hdW (bl s) = [105, 110]
        simpa using hin
      have HK := Lib.hid (okIn_read HOK.out hh)
      clear hh
      go_wp2_with fail
      refine (read_any 25 w1.heap.size 53 [0, 0, 0] [0, 1, 2] (tlW (bl s)) A2 c2 (m - 1) w1 _ ((HL.out.1.below (H0.out.trans (HB.out.mono (by omega))))) HR2.out (by unfold tlW; rw [List.length_drop, ← HM.out]) (by omega) ((Below.refl _ w1).alloc (Nat.le_refl _) _) (Nat.le_refl _) (ib_box w1 53 [0, 0, 0]) (by simp) (by decide) enter25 (pic_nums _ _)).mono ?_
      rintro e w2 ⟨l', rfl, hI, hlen, hput, hb2⟩
      obtain ⟨x0, x1, x2, rfl⟩ := len3 hlen
      obtain ⟨p0, p1, p2⟩ := ib3 hI
      have hI2 := hI.lt
      have hNB2 : NB w2 b n.c n.h n.x v := (hb2.block b (by omega)).trans (HN1.out.alloc _)
      have HNB2 := Lib.hid hNB2
      obtain ⟨n0, n1, n2, n3⟩ := hNB2.cells
      obtain ⟨f0, f1, f2, f3⟩ := hNB2.frozen
      have HP := Lib.hid hput
      have HB2 := Lib.hid hb2
      have hs2 := hb2.size
      have hbl : b < w1.heap.size := by omega
      clear hI hlen hput hNB2 hb2 hsl
      rw [← HK.out]
      go_wp2_with fail
      go_ret
      refine ⟨rfl, fun h => ⟨v, ?_, ?_⟩, (((KeepB.trans (KeepB.of (b := b) (B := B) ((HB.out.alloc (by omega) _).mono hB) (by omega)) (KeepB.of (b := b) (B := B) (HB2.out.mono (by omega)) (by omega))).set 0 _).set 1 _).set 2 _⟩
      · rw [take_read n (by rw [← HK.out]; exact h) (HP.out (by rw [← HK.out]; exact h))]
        exact HNB2.out.set3
      · rw [take_read n (by rw [← HK.out]; exact h) (HP.out (by rw [← HK.out]; exact h))]
        refine own_same HO1.out fun g h1 h2 => ?_
        rw [Below.heap_setCell _ _ _ _ (by show g ≠ b; omega), Below.heap_setCell _ _ _ _ (by show g ≠ b; omega), Below.heap_setCell _ _ _ _ (by show g ≠ b; omega), HB2.out.block g h2, Lib.alloc_old w1 _ g h2]

end Go.Proofs.YtmlflmlgjjjmfaaDoor
